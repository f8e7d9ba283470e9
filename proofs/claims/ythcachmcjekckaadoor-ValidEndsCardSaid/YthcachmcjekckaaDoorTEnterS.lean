/- Structs are gone through (Size). -/
import Derived.Test.YthcachmcjekckaaDoorTSize
namespace Go.Proofs.YthcachmcjekckaaDoor
open Go.RowKit
set_option maxRecDepth 100000 in
set_option maxHeartbeats 4000000 in
theorem enterS_any (q1 : Nat) (bv be n : Nat) : ∀ (x : Tr) (An Ak : Option Addr) (cn ck D : Nat) (DI : Int) (a : Nat × Nat) (W : World), Sm (2 * n) x → DI ≤ D → D ≤ DI → D + n ≤ 100 → TAt W (fun b => ¬ (fun b => b = q1) b) x An Ak → IS q1 a W → EW bv be (.func (.func 59) #[] #[.pointer (some ⟨q1, 0, none⟩)]) W → ¬ (fun b => b = q1) bv → ¬ (fun b => b = q1) be → a.2 + cntT x ≤ 2147483647 →
    Calls Tryd.prog 96 #[(.agg #[.int .u64 ((x).num : Nat), .string (x).bs, .slice An (x).nl cn, .slice Ak (x).kl ck]), .int .i64 DI, .pointer (some ⟨bv, 0, none⟩), .pointer (some ⟨be, 0, none⟩)] W fun e W' => e = .returned (.bool true) ∧ IS q1 (visN (fun y _ b => b + ownW y) n x D a) W' ∧ ButP (fun b => b = q1) W W' := by
  induction n with
  | zero => intro x An Ak cn ck D DI a W h; exact absurd h (by simp [Sm])
  | succ n ih =>
    intro x An Ak cn ck D DI a W hS hD1 hD2 hD hT hI hE hnv hne hr
    obtain rfl : DI = (D : Int) := by omega
    have IH := Lib.hid ih
    have HS := Lib.hid hS
    have HT := Lib.hid hT
    have HI := Lib.hid hI
    have HE := Lib.hid hE
    have HNV := Lib.hid hnv
    have HNE := Lib.hid hne
    have HR := Lib.hid hr
    have hk5 := hS.le.2.2.2
    have hqlt : ∀ b, (fun b => b = q1) b → b < W.heap.size := fun b e => by have e : b = q1 := e; have := HI.out.row.lt; omega
    have HQL := Lib.hid hqlt
    have hr1 : a.2 + 1 ≤ 2147483647 := by rw [cntT_eq] at hr; omega
    have e0 := hE.cv
    have l0 := hE.lv
    clear ih hS hT hI hE hnv hne hr hqlt hD1 hD2
    have hbne : bv ≠ W.heap.size := by omega
    have hBX := cell4_box W x An cn Ak ck
    go_enter Tryd.func96, Tryd.ntmps96
    go_wp2
    go_step3
    go_wp2_with fail
    refine (visS_any q1 x An Ak cn ck (2 * n) D a _ (show Sm (2 * n + 2) x from HS.out) (HT.out.below ((Below.refl _ _).alloc (Nat.le_refl _) _)) (HI.out.below ((Below.refl _ _).alloc (Nat.le_refl _) _)) (by omega)).mono ?_
    rintro e W1 ⟨rfl, hI1, hB1⟩
    have hbx1 := hBX.of_block (hB1.block W.heap.size (by simp) (fun e => by have := HQL.out _ e; omega))
    have c3 := hbx1.c3
    simp only [Nat.zero_add] at c3
    have HI1 := Lib.hid hI1
    have HB1 := Lib.hid (ButP.trans (ButP.of_below ((Below.refl _ _).alloc (Nat.le_refl _) _)) hB1)
    clear hI1 hB1 hbx1 e0 l0 hbne hBX
    go_wp2
    go_step3
    go_wp2
    clear c3
    go_loopw [19, 7] (fun iv mv wr => ∃ i : Nat, i ≤ x.kl ∧ iv = .int .i64 i ∧ mv = .bool true ∧ Hid (IS q1 (it (fun i a => it (fun j a => visN (fun y _ b => b + ownW y) n ((x.kf i).kf j) (D + 1) a) (x.kf i).kl a) i ((fun y _ b => b + ownW y) x D a.1, a.2 + 1)) wr ∧ ButP (fun b => b = q1) W wr)) (fun iv _ _ => x.kl - (intOf iv).toNat)
    case atStart => exact ⟨0, by omega, rfl, rfl, Lib.hid ⟨HI1.out, HB1.out⟩⟩
    case round =>
      clear HI1 HB1
      obtain ⟨i, hi, rfl, rfl, HL⟩ := hrel
      by_cases hi1 : i < x.kl
      · obtain ⟨b, off, rfl, hQb, hlt, hc⟩ := HT.out.kids (by omega)
        obtain ⟨A1, k1, A2, k2, h4, hty⟩ := hc i hi1
        obtain ⟨c0, c1, c2, c3⟩ := h4.of_block (HL.out.2.block b hlt hQb)
        have HTY := Lib.hid hty
        have hSy : Sm (2 * n + 1) (x.kf i) := Sm.kid (n := 2 * n + 1) HS.out hi1
        have HSY := Lib.hid hSy
        have hyk := hSy.le.2.2.2
        have hsn : (it (fun i a => it (fun j a => visN (fun y _ b => b + ownW y) n ((x.kf i).kf j) (D + 1) a) (x.kf i).kl a) i ((fun y _ b => b + ownW y) x D a.1, a.2 + 1)).2 + cntT (x.kf i) ≤ 2147483647 := by
          have h1 := it_snd (f := fun i a => it (fun j a => visN (fun y _ b => b + ownW y) n ((x.kf i).kf j) (D + 1) a) (x.kf i).kl a) (c := fun i => cntT (x.kf i)) (n := i) (fun i hi a => by
            have h2 := it_snd (f := fun j a => visN (fun y _ b => b + ownW y) n ((x.kf i).kf j) (D + 1) a) (c := fun j => cntT ((x.kf i).kf j)) (n := (x.kf i).kl) (fun j hj a => visN_snd _ _ _ _ _) a
            show (it (fun j a => visN (fun y _ b => b + ownW y) n ((x.kf i).kf j) (D + 1) a) (x.kf i).kl a).2 ≤ a.2 + cntT (x.kf i)
            rw [cntT_eq]
            omega) ((fun y _ b => b + ownW y) x D a.1, a.2 + 1)
          have h3 := sum_room (c := fun i => cntT (x.kf i)) hi1
          have h4 := HR.out
          rw [cntT_eq] at h4
          simp only at h1 h3 ⊢
          omega
        have HSN := Lib.hid hsn
        have HIT : Hid (∀ s, it (fun j a => visN (fun y _ b => b + ownW y) n ((x.kf i).kf j) (D + 1) a) (x.kf i).kl s = it (fun j a => visN (fun y _ b => b + ownW y) n ((x.kf i).kf j) (D + 1) a) (x.kf i).kl s) := Lib.hid fun _ => rfl
        clear h4 hty hc hSy hsn
        obtain ⟨y, HY⟩ : ∃ y, Hid (x.kf i = y) := ⟨_, Lib.hid rfl⟩
        rw [HY.out] at c0 c1 c2 c3 HTY HSY HSN hyk
        have HNX : Hid (∀ st, st = it (fun i a => it (fun j a => visN (fun y _ b => b + ownW y) n ((x.kf i).kf j) (D + 1) a) (x.kf i).kl a) i ((fun y _ b => b + ownW y) x D a.1, a.2 + 1) → it (fun i a => it (fun j a => visN (fun y _ b => b + ownW y) n ((x.kf i).kf j) (D + 1) a) (x.kf i).kl a) (i + 1) ((fun y _ b => b + ownW y) x D a.1, a.2 + 1) = it (fun j a => visN (fun y _ b => b + ownW y) n (y.kf j) (D + 1) a) y.kl st) := Lib.hid (fun st e => by rw [it, ← e, HY.out])
        obtain ⟨st, HST⟩ : ∃ st, Hid (st = it (fun i a => it (fun j a => visN (fun y _ b => b + ownW y) n ((x.kf i).kf j) (D + 1) a) (x.kf i).kl a) i ((fun y _ b => b + ownW y) x D a.1, a.2 + 1)) := ⟨_, Lib.hid rfl⟩
        rw [← HST.out] at HL HSN
        go_wp2
        clear c0 c1 c2 c3
        have HBA := Lib.hid (ButP.trans HL.out.2 (ButP.of_below ((Below.refl _ _).alloc (Nat.le_refl _) (.cells #[.int .u64 ((y).num : Nat), .string (y).bs, .slice A1 (y).nl k1, .slice A2 (y).kl k2] 32))))
        have HIA := Lib.hid (HL.out.1.below ((Below.refl _ _).alloc (Nat.le_refl _) (.cells #[.int .u64 ((y).num : Nat), .string (y).bs, .slice A1 (y).nl k1, .slice A2 (y).kl k2] 32)))
        go_loopw [26, 7] (fun jv mv wr => ∃ j : Nat, j ≤ y.kl ∧ jv = .int .i64 j ∧ mv = .bool true ∧ Hid (IS q1 (it (fun j a => visN (fun y _ b => b + ownW y) n (y.kf j) (D + 1) a) j st) wr ∧ ButP (fun b => b = q1) W wr)) (fun jv _ _ => y.kl - (intOf jv).toNat)
        case atStart => exact ⟨0, by omega, rfl, rfl, Lib.hid ⟨HIA.out, HBA.out⟩⟩
        case round =>
          clear HIA HBA
          obtain ⟨j, hj, rfl, rfl, HJ⟩ := hrel
          by_cases hj1 : j < y.kl
          · obtain ⟨b', off', rfl, hQb', hlt', hc'⟩ := HTY.out.kids (by omega)
            obtain ⟨A3, k3, A4, k4, h4, htz⟩ := hc' j hj1
            obtain ⟨c0, c1, c2, c3⟩ := h4.of_block (HJ.out.2.block b' hlt' hQb')
            have hEw := HE.out.butP HJ.out.2 HNV.out HNE.out
            have e1 := hEw.ce
            have l1 := hEw.le
            have hEne : be ≠ wr.heap.size := by omega
            have HTZ := Lib.hid ((htz.butP HJ.out.2).below ((Below.refl _ _).alloc (Nat.le_refl _) (.cells #[.int .u64 ((y.kf j).num : Nat), .string (y.kf j).bs, .slice A3 (y.kf j).nl k3, .slice A4 (y.kf j).kl k4] 32)))
            have HSZ := Lib.hid (HSY.out.kid hj1)
            have hsn2 : (it (fun j a => visN (fun y _ b => b + ownW y) n (y.kf j) (D + 1) a) j st).2 + cntT (y.kf j) ≤ 2147483647 := by
              have h2 := it_snd (f := fun j a => visN (fun y _ b => b + ownW y) n (y.kf j) (D + 1) a) (c := fun j => cntT (y.kf j)) (n := j) (fun j hj a => visN_snd _ _ _ _ _) st
              have h3 := sum_room (c := fun j => cntT (y.kf j)) hj1
              have h5 := HSN.out
              rw [cntT_eq] at h5
              try simp only at h3
              omega
            have HSN2 := Lib.hid hsn2
            have HEW := Lib.hid (hEw.butP (Q := (fun b => b = q1)) (ButP.of_below ((Below.refl _ _).alloc (Nat.le_refl _) (.cells #[.int .u64 ((y.kf j).num : Nat), .string (y.kf j).bs, .slice A3 (y.kf j).nl k3, .slice A4 (y.kf j).kl k4] 32))) HNV.out HNE.out)
            clear h4 htz hc' hEw hsn2
            go_wp2_with fail
            clear c0 c1 c2 c3 e1 l1 hEne
            refine (IH.out (y.kf j) A3 A4 k3 k4 (D + 1) _ (it (fun j a => visN (fun y _ b => b + ownW y) n (y.kf j) (D + 1) a) j st) _ HSZ.out (by omega) (by omega) (by omega) HTZ.out (HJ.out.1.below ((Below.refl _ _).alloc (Nat.le_refl _) _)) HEW.out HNV.out HNE.out HSN2.out).mono ?_
            rintro e w2 ⟨rfl, hI2, hB2⟩
            have HI2 := Lib.hid hI2
            have HB2 := Lib.hid (ButP.trans HJ.out.2 (ButP.trans (ButP.of_below ((Below.refl _ _).alloc (Nat.le_refl _) _)) hB2))
            clear hI2 hB2
            go_wp2
            go_roundw
            case rel => first | exact ⟨j + 1, by omega, by go_num, rfl, Lib.hid ⟨HI2.out, HB2.out⟩⟩ | ((repeat apply Exists.intro); exact ⟨⟨j + 1, by omega, by go_num, rfl, Lib.hid ⟨HI2.out, HB2.out⟩⟩, rfl⟩)
            case measure => simp [intOf]; omega
          · have e : j = y.kl := by omega
            subst e
            go_wp2
            go_roundw
            case rel => first | exact ⟨i + 1, by omega, by go_num, rfl, Lib.hid ⟨by rw [HNX.out st HST.out]; exact HJ.out.1, HJ.out.2⟩⟩ | ((repeat apply Exists.intro); exact ⟨⟨i + 1, by omega, by go_num, rfl, Lib.hid ⟨by rw [HNX.out st HST.out]; exact HJ.out.1, HJ.out.2⟩⟩, rfl⟩)
            case measure => simp [intOf]; omega
      · have e : i = x.kl := by omega
        subst e
        go_wp2
        try rw [Exit.noGoto_ret]
        go_ret
        exact ⟨rfl, HL.out.1, HL.out.2⟩

end Go.Proofs.YthcachmcjekckaaDoor
