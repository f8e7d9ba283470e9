/- The document's Check, Deep, words, Size. -/
import Derived.Test.YtkhbhkllnigbgaaDoorTRef6
namespace Go.Proofs.YtkhbhkllnigbgaaDoor
open Go.RowKit
theorem r6_i64 {a b : Int} (h : a = b) : Value.int .i64 a = Value.int .i64 b := by rw [h]
set_option maxRecDepth 100000 in
set_option maxHeartbeats 4000000 in
theorem r6check_any (s : Sch) (A : Option Addr) (c : Nat) (t : Int) (x : Tr) (An Ak : Option Addr) (cn ck n : Nat) (w : World) (hs : SAt w A s) (hS : Sm n x) (hT : TAt w (fun _ => True) x An Ak) :
    Calls Tryd.prog 74 #[.slice A s.n c, .int .i64 t, (.agg #[.int .u64 ((x).num : Nat), .string (x).bs, .slice An (x).nl cn, .slice Ak (x).kl ck])] w fun e w' => e = .returned (.int .i64 ((chkC s t x : Nat) : Int)) ∧ Below w.heap.size w w' := by
  have Hs := Lib.hid hs
  have HS := Lib.hid hS
  have HT := Lib.hid hT
  clear hs hS hT
  go_enter Tryd.func74, Tryd.ntmps74
  go_wp2_with fail
  refine (r5Right_any s A c _ (Hs.out.below ((Below.refl _ _).alloc (Nat.le_refl _) _))).mono ?_
  rintro e w1 ⟨rfl, hb⟩
  have K0 := Lib.hid ((XB.mk' (Below.refl _ _) x An cn Ak ck).below hb)
  clear hb
  have a0 := K0.out.box.c0
  have a1 := K0.out.box.c1
  have a2 := K0.out.box.c2
  have a3 := K0.out.box.c3
  simp only [Nat.zero_add] at a1 a2 a3
  by_cases ho : okS s = true
  · have HO := Lib.hid ho
    rw [ho]
    clear ho
    by_cases ht : hasT s t
    · have HC : Hid (chkC s t x = chk s 5 t.toNat x) := Lib.hid (if_pos ⟨HO.out, ht⟩)
      unfold hasT at ht
      obtain ⟨τ, rfl⟩ : ∃ τ : Nat, t = (τ : Int) := ⟨t.toNat, by omega⟩
      rw [Int.toNat_natCast] at HC
      have hR : RightS s := by
        by_cases h : RightS s
        · exact h
        · have := okS_false h; rw [HO.out] at this; cases this
      have d1 : decide ((τ : Int) < 0) = false := decide_eq_false (by omega)
      have d2 : decide ((s.n : Int) ≤ (τ : Int)) = false := decide_eq_false (by omega)
      have d3 : decide (s.n ≤ τ) = false := decide_eq_false (by omega)
      go_wp2_with fail
      clear a0 a1 a2 a3
      refine (strct_any s hR A c 5 τ 5 x An Ak cn ck n _ (by omega) (by omega) (by omega) (by omega) HS.out (Hs.out.below K0.out.be) (HT.out.below K0.out.be)).mono ?_
      rintro e w2 ⟨rfl, hb⟩
      have K1 := Lib.hid (K0.out.below hb)
      clear hb
      go_wp2
      go_ret
      exact ⟨ret_nat HC.out.symm, K1.out.be⟩
    · have HC : Hid (chkC s t x = 1) := Lib.hid (if_neg fun h => ht h.2)
      unfold hasT at ht
      by_cases h0 : t < 0
      · have d1 : decide (t < 0) = true := decide_eq_true h0
        go_wp2
        go_ret
        exact ⟨ret_nat HC.out.symm, K0.out.be⟩
      · have d1 : decide (t < 0) = false := decide_eq_false h0
        have d2 : decide ((s.n : Int) ≤ t) = true := decide_eq_true (by omega)
        go_wp2
        go_ret
        exact ⟨ret_nat HC.out.symm, K0.out.be⟩
  · have HC : Hid (chkC s t x = 1) := Lib.hid (if_neg fun h => ho h.1)
    rw [show okS s = false by simpa using ho]
    clear ho
    go_wp2
    go_ret
    exact ⟨ret_nat HC.out.symm, K0.out.be⟩

theorem max_step {a b : Nat} : (if b > a then b else a) = max a b := by split <;> omega
set_option maxRecDepth 100000 in
set_option maxHeartbeats 4000000 in
theorem r6words_any (n : Nat) : ∀ (x : Tr) (An Ak : Option Addr) (cn ck : Nat) (w : World), Sm (2 * n) x → n ≤ 6 → TAt w (fun _ => True) x An Ak →
    Calls Tryd.prog 113 #[(.agg #[.int .u64 ((x).num : Nat), .string (x).bs, .slice An (x).nl cn, .slice Ak (x).kl ck])] w fun e w' => e = .returned (.int .i64 ((wds true x : Nat) : Int)) ∧ Below w.heap.size w w' := by
  induction n with
  | zero => intro x An Ak cn ck w h; exact absurd h (by simp [Sm])
  | succ n ih =>
    intro x An Ak cn ck w hS hn hT
    have HIH := Lib.hid ih
    have HS := Lib.hid hS
    have HT := Lib.hid hT
    have hk5 := hS.le.2.2.2
    have hwl : wds true x ≤ 1760000020 := by
      have h1 := wds_le (hS.mono (show 2 * (n + 1) ≤ 12 by omega)) true
      have h2 : (5 : Nat) ^ 12 = 244140625 := by decide
      omega
    have HWT := Lib.hid (wds_true x)
    have K0 := Lib.hid (XB.mk' (Below.refl w.heap.size w) x An cn Ak ck)
    clear ih hS hT
    go_enter Tryd.func113, Tryd.ntmps113
    go_wp2
    go_loopw [3, 4] (fun nv iv wr => ∃ i : Nat, i ≤ x.kl ∧ iv = .int .i64 i ∧ nv = .int .i64 ((x.kl + sumN (fun i => wds false (x.kf i)) i : Nat) : Int) ∧ Hid (XB w w.heap.size x An cn Ak ck wr)) (fun _ iv _ => x.kl - (intOf iv).toNat)
    case atStart => exact ⟨0, by omega, rfl, by simp [sumN], K0⟩
    case round =>
      clear K0
      obtain ⟨i, hi, rfl, rfl, K1⟩ := hrel
      have a3 := K1.out.box.c3
      simp only [Nat.zero_add] at a3
      by_cases hi1 : i < x.kl
      · obtain ⟨b, off, rfl, -, hlt, hc⟩ := HT.out.kids (by omega)
        obtain ⟨A1, k1, A2, k2, h4, hty⟩ := hc i hi1
        obtain ⟨c0, c1, c2, c3⟩ := h4.of_block (K1.out.be.block b hlt)
        have HTY := Lib.hid hty
        have HSY : Hid (Sm (2 * n + 1) (x.kf i)) := Lib.hid (Sm.kid (n := 2 * n + 1) HS.out hi1)
        have HSUM : Hid (sumN (fun i => wds false (x.kf i)) (i + 1) = sumN (fun i => wds false (x.kf i)) i + wds false (x.kf i)) := Lib.hid rfl
        have hsb : sumN (fun i => wds false (x.kf i)) i + wds false (x.kf i) ≤ 1760000020 := by
          have h1 := sum_room (c := fun i => wds false (x.kf i)) hi1
          have h2 := HWT.out
          try simp only at h1
          omega
        clear hc h4 hty
        generalize sumN (fun i => wds false (x.kf i)) i = S at HSUM hsb ⊢
        obtain ⟨y, HY⟩ : ∃ y, Hid (x.kf i = y) := ⟨_, Lib.hid rfl⟩
        rw [HY.out] at c0 c1 c2 c3 HTY HSY HSUM hsb
        obtain ⟨y1, y2, y3, y4⟩ := HSY.out.le
        have HWF := Lib.hid (wds_false y)
        obtain ⟨C, HC2⟩ : ∃ C, Hid (cnt y.bs.size = C) := ⟨_, Lib.hid rfl⟩
        have hcnt := rcount_any y.bs.size (by omega)
        have hC7 : C ≤ 8 := by rw [← HC2.out]; unfold cnt; omega
        rw [HC2.out] at HWF hcnt
        have HCN := Lib.hid hcnt
        have hbd : ∀ j, j ≤ y.kl → S + C + y.nl + sumN (fun j => wds true (y.kf j)) j ≤ 1760000020 := fun j hj => by
          have h1 := sumN_mono (f := fun j => wds true (y.kf j)) hj
          have h2 := HWF.out
          omega
        have HBD := Lib.hid hbd
        have n1 : w.heap.size ≠ wr.heap.size := by have := K1.out.lt; omega
        have n2 := K1.out.lt
        have n3 : b < wr.heap.size := by have := K1.out.be.size; omega
        have hbd0 := hbd 0 (by omega)
        have g1 : (0 : Int) ≤ (i : Int) := by omega
        have g2 : (i : Int) < (x.kl : Int) := by omega
        clear hbd hcnt
        go_wp2_with fail
        clear c0 c1 c2 c3 a3
        have K2 := Lib.hid (XB.mk' K1.out.be y A1 k1 A2 k2)
        have KX := Lib.hid (K1.out.below ((Below.refl _ _).alloc (Nat.le_refl _) (.cells #[.int .u64 ((y).num : Nat), .string (y).bs, .slice A1 (y).nl k1, .slice A2 (y).kl k2] 41)))
        go_quiet ((go_at_call 115; exact quiet_eq (HCN.out _)))
        clear K1 n1 n2 n3
        go_wp2
        have K3 := Lib.hid (K2.out.below (below_drewN (Below.refl _ _) nq))
        have KY := Lib.hid (KX.out.below (below_drewN (Below.refl _ _) nq))
        clear K2 KX
        generalize wr.heap.size = p at K3 KY ⊢
        go_loopw [3, 6] (fun nv jv wr => ∃ j : Nat, j ≤ y.kl ∧ jv = .int .i64 j ∧ nv = .int .i64 ((x.kl + S + C + y.nl + sumN (fun j => wds true (y.kf j)) j : Nat) : Int) ∧ Hid (XB w p y A1 k1 A2 k2 wr ∧ XB w w.heap.size x An cn (some ⟨b, off, none⟩) ck wr)) (fun _ jv _ => y.kl - (intOf jv).toNat)
        case atStart => exact ⟨0, by omega, rfl, r6_i64 (by simp [sumN]), Lib.hid ⟨K3.out, KY.out⟩⟩
        case round =>
          clear K3 KY
          obtain ⟨j, hj, rfl, rfl, HK⟩ := hrel
          have K3 := Lib.hid HK.out.1
          have KY := Lib.hid HK.out.2
          clear HK
          have a3 := K3.out.box.c3
          simp only [Nat.zero_add] at a3
          by_cases hj1 : j < y.kl
          · obtain ⟨b2, o2, rfl, -, hlt2, hc2⟩ := HTY.out.kids (by omega)
            obtain ⟨A3, k3, A4, k4, h4, htz⟩ := hc2 j hj1
            obtain ⟨z0, z1, z2, z3⟩ := h4.of_block (K3.out.be.block b2 hlt2)
            have HTZ := Lib.hid htz
            have HSZ := Lib.hid (HSY.out.kid hj1)
            have hbj := HBD.out (j + 1) (by omega)
            have HSJ : Hid (sumN (fun j => wds true (y.kf j)) (j + 1) = sumN (fun j => wds true (y.kf j)) j + wds true (y.kf j)) := Lib.hid rfl
            rw [HSJ.out] at hbj
            clear hc2 h4 htz
            generalize sumN (fun j => wds true (y.kf j)) j = SJ at HSJ hbj ⊢
            obtain ⟨z, HZ⟩ : ∃ z, Hid (y.kf j = z) := ⟨_, Lib.hid rfl⟩
            rw [HZ.out] at z0 z1 z2 z3 HTZ HSZ HSJ hbj
            have hcall := HIH.out z A3 A4 k3 k4
            obtain ⟨E, HEE⟩ : ∃ E, Hid (wds true z = E) := ⟨_, Lib.hid rfl⟩
            rw [HEE.out] at hcall HSJ hbj
            have HCA := Lib.hid hcall
            clear hcall
            obtain ⟨Q, HQ⟩ : ∃ Q, Hid (x.kl + S + C + y.nl + SJ = Q) := ⟨_, Lib.hid rfl⟩
            have hQ : Q + E ≤ 1760000020 + 12 := by have := HQ.out; omega
            rw [HQ.out]
            have g3 : (0 : Int) ≤ (j : Int) := by omega
            have g4 : (j : Int) < (y.kl : Int) := by omega
            have hw1 : IntKind.i64.wrap ((Q : Int) + (E : Int)) = (Q : Int) + (E : Int) := IntWalk.i64_in _ (by omega)
            go_wp2_with fail
            clear a3 z0 z1 z2 z3
            refine (HCA.out _ HSZ.out (by omega) (HTZ.out.below K3.out.be)).mono ?_
            rintro e w3 ⟨rfl, hb⟩
            have K4 := Lib.hid (And.intro (K3.out.below hb) (KY.out.below hb))
            clear hb
            go_wp2
            go_roundw
            case rel => first | exact ⟨j + 1, by omega, by go_num, r6_i64 (by rw [HSJ.out]; have := HQ.out; omega), K4⟩ | ((repeat apply Exists.intro); exact ⟨⟨j + 1, by omega, by go_num, r6_i64 (by rw [HSJ.out]; have := HQ.out; omega), K4⟩, rfl⟩)
            case measure => simp [intOf]; omega
          · have e : j = y.kl := by omega
            subst e
            go_wp2
            go_roundw
            case rel => first | exact ⟨i + 1, by omega, by go_num, r6_i64 (by rw [HSUM.out, HWF.out]; omega), KY⟩ | ((repeat apply Exists.intro); exact ⟨⟨i + 1, by omega, by go_num, r6_i64 (by rw [HSUM.out, HWF.out]; omega), KY⟩, rfl⟩)
            case measure => simp [intOf]; omega
      · have e : i = x.kl := by omega
        subst e
        go_wp2
        go_ret
        exact ⟨by rw [HWT.out]; rfl, K1.out.be⟩

set_option maxRecDepth 100000 in
set_option maxHeartbeats 2000000 in
theorem r6size_any (s : Sch) (A : Option Addr) (c : Nat) (t : Int) (x : Tr) (An Ak : Option Addr) (cn ck n : Nat) (w : World) (hs : SAt w A s) (hS : Sm (2 * n) x) (hn : n ≤ 6) (hT : TAt w (fun _ => True) x An Ak) :
    Calls Tryd.prog 75 #[.slice A s.n c, .int .i64 t, (.agg #[.int .u64 ((x).num : Nat), .string (x).bs, .slice An (x).nl cn, .slice Ak (x).kl ck])] w fun e w' => e = .returned (.int .i64 ((sizeC s t x : Nat) : Int)) ∧ Below w.heap.size w w' := by
  have Hs := Lib.hid hs
  have HS := Lib.hid hS
  have HT := Lib.hid hT
  clear hs hS hT
  have hwl : wds true x ≤ 1760000020 := by
    have h1 := wds_le (HS.out.mono (show 2 * n ≤ 12 by omega)) true
    have h2 : (5 : Nat) ^ 12 = 244140625 := by decide
    omega
  go_enter Tryd.func75, Tryd.ntmps75
  go_wp2_with fail
  refine (r6check_any s A c t x An Ak cn ck _ _ (Hs.out.below ((Below.refl _ _).alloc (Nat.le_refl _) _)) HS.out (HT.out.below ((Below.refl _ _).alloc (Nat.le_refl _) _))).mono ?_
  rintro e w1 ⟨rfl, hb⟩
  have K0 := Lib.hid ((XB.mk' (Below.refl _ _) x An cn Ak ck).below hb)
  clear hb
  have a0 := K0.out.box.c0
  have a1 := K0.out.box.c1
  have a2 := K0.out.box.c2
  have a3 := K0.out.box.c3
  simp only [Nat.zero_add] at a1 a2 a3
  rcases chkC_vals s t x with h | h | h | h
  · have HZ : Hid (sizeC s t x = 1 + wds true x) := Lib.hid (if_pos h)
    rw [h]
    clear h
    go_wp2_with fail
    clear a0 a1 a2 a3
    refine (r6words_any n x An Ak cn ck _ HS.out hn (HT.out.below K0.out.be)).mono ?_
    rintro e w2 ⟨rfl, hb⟩
    have K1 := Lib.hid (K0.out.below hb)
    clear hb
    generalize wds true x = E at hwl HZ ⊢
    have hw1 : IntKind.i64.wrap (1 + (E : Int)) = 1 + (E : Int) := IntWalk.i64_in _ (by omega)
    go_wp2
    go_ret
    exact ⟨by rw [HZ.out, Int.natCast_add]; rfl, K1.out.be⟩
  all_goals
    have HZ : Hid (sizeC s t x = 0) := Lib.hid (if_neg (by omega))
    rw [h]
    clear h
    go_wp2
    go_ret
    exact ⟨by rw [HZ.out]; rfl, K0.out.be⟩

end Go.Proofs.YtkhbhkllnigbgaaDoor
