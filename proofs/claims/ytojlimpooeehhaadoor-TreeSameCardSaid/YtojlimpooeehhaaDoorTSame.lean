/- When two trees are the same: tree.Same. -/
import Derived.Test.YtojlimpooeehhaaDoorTSize2
import Derived.Test.YtojlimpooeehhaaDoorQRead
namespace Go.Proofs.YtojlimpooeehhaaDoor
open Go.RowKit
/-- Where Same's variables lie: level, within's count, within, same. -/
structure SV (q1 q2 q3 q4 D c : Nat) (W : World) : Prop where
  row : W.rowIs q1 3 1 (fun _ => .int .i64 ((D : Nat) : Int))
  row2 : W.rowIs q2 3 1 (fun _ => .int .i64 ((c : Nat) : Int))
  lt3 : q3 < W.heap.size
  c3 : W.cell? ⟨q3, 0, none⟩ = some (.func (.func 61) #[] #[.pointer (some ⟨q2, 0, none⟩)])
  lt4 : q4 < W.heap.size
  c4 : W.cell? ⟨q4, 0, none⟩ = some (.func (.func 42) #[] #[.pointer (some ⟨q1, 0, none⟩), .pointer (some ⟨q3, 0, none⟩), .pointer (some ⟨q4, 0, none⟩)])
  n12 : q1 ≠ q2
  n13 : q1 ≠ q3
  n14 : q1 ≠ q4
  n23 : q2 ≠ q3
  n24 : q2 ≠ q4
theorem SV.below {q1 q2 q3 q4 D c : Nat} {W W' : World} (h : SV q1 q2 q3 q4 D c W) (hb : Below W.heap.size W W') : SV q1 q2 q3 q4 D c W' :=
  ⟨h.row.of_block (hb.block _ h.row.lt), h.row2.of_block (hb.block _ h.row2.lt), Nat.lt_of_lt_of_le h.lt3 hb.size, (hb.cell (p := ⟨q3, 0, none⟩) h.lt3).trans h.c3, Nat.lt_of_lt_of_le h.lt4 hb.size, (hb.cell (p := ⟨q4, 0, none⟩) h.lt4).trans h.c4, h.n12, h.n13, h.n14, h.n23, h.n24⟩
theorem SV.level {q1 q2 q3 q4 D c : Nat} {W : World} (h : SV q1 q2 q3 q4 D c W) (D' : Nat) (v : Value) (hv : v = .int .i64 ((D' : Nat) : Int)) : SV q1 q2 q3 q4 D' c (W.setCell ⟨q1, 0, none⟩ v) := by
  subst hv
  have hs := ((Below.refl 0 W).setCell (p := ⟨q1, 0, none⟩) (Nat.zero_le _) (.int .i64 ((D' : Nat) : Int))).size
  refine ⟨(h.row.set 0 _).congr fun j hj => ?_, h.row2.setOther (a := ⟨q1, 0, none⟩) (Ne.symm h.n12) _, Nat.lt_of_lt_of_le h.lt3 hs, (World.cell?_of_block (w := W) (a := ⟨q3, 0, none⟩) (Below.heap_setCell W ⟨q1, 0, none⟩ _ q3 (Ne.symm h.n13))).trans h.c3, Nat.lt_of_lt_of_le h.lt4 hs, (World.cell?_of_block (w := W) (a := ⟨q4, 0, none⟩) (Below.heap_setCell W ⟨q1, 0, none⟩ _ q4 (Ne.symm h.n14))).trans h.c4, h.n12, h.n13, h.n14, h.n23, h.n24⟩
  obtain rfl : j = 0 := by omega
  rfl
theorem SV.count {q1 q2 q3 q4 D c : Nat} {W : World} (h : SV q1 q2 q3 q4 D c W) (c' : Nat) (v : Value) (hv : v = .int .i64 ((c' : Nat) : Int)) : SV q1 q2 q3 q4 D c' (W.setCell ⟨q2, 0, none⟩ v) := by
  subst hv
  have hs := ((Below.refl 0 W).setCell (p := ⟨q2, 0, none⟩) (Nat.zero_le _) (.int .i64 ((c' : Nat) : Int))).size
  refine ⟨h.row.setOther (a := ⟨q2, 0, none⟩) h.n12 _, (h.row2.set 0 _).congr fun j hj => ?_, Nat.lt_of_lt_of_le h.lt3 hs, (World.cell?_of_block (w := W) (a := ⟨q3, 0, none⟩) (Below.heap_setCell W ⟨q2, 0, none⟩ _ q3 (Ne.symm h.n23))).trans h.c3, Nat.lt_of_lt_of_le h.lt4 hs, (World.cell?_of_block (w := W) (a := ⟨q4, 0, none⟩) (Below.heap_setCell W ⟨q2, 0, none⟩ _ q4 (Ne.symm h.n24))).trans h.c4, h.n12, h.n13, h.n14, h.n23, h.n24⟩
  obtain rfl : j = 0 := by omega
  rfl

/-- What a call of same tells, of trees of n levels. -/
def Same1At (q1 q2 q3 q4 n : Nat) : Prop := ∀ (x y : Tr) (An Ak Bn Bk : Option Addr) (cn ck dn dk D c : Nat) (W : World), Sm n x → D + n ≤ 100 → c + cntT x ≤ 2147483647 → TAt W (fun b => ¬ (b = q1 ∨ b = q2)) x An Ak → TAt W (fun b => ¬ (b = q1 ∨ b = q2)) y Bn Bk → SV q1 q2 q3 q4 D c W →
    Calls Tryd.prog 42 #[(.agg #[.int .u64 ((x).num : Nat), .string (x).bs, .slice An (x).nl cn, .slice Ak (x).kl ck]), (.agg #[.int .u64 ((y).num : Nat), .string (y).bs, .slice Bn (y).nl dn, .slice Bk (y).kl dk]), .pointer (some ⟨q1, 0, none⟩), .pointer (some ⟨q3, 0, none⟩), .pointer (some ⟨q4, 0, none⟩)] W fun e W' => e = .returned (.bool (sameTB x y)) ∧ (∃ c', c' ≤ c + cntT x ∧ SV q1 q2 q3 q4 D c' W') ∧ ButP (fun b => b = q1 ∨ b = q2) W W'
/-- The kids are the same. -/
def sameK (x y : Tr) : Prop := x.kl = y.kl ∧ ∀ i, i < x.kl → sameT (x.kf i) (y.kf i)
noncomputable def sameKB (x y : Tr) : Bool := @decide (sameK x y) (Classical.propDecidable _)
theorem sameKB_true {x y : Tr} (h : sameK x y) : sameKB x y = true := by simp [sameKB, h]
theorem sameKB_false {x y : Tr} (h : ¬ sameK x y) : sameKB x y = false := by simp [sameKB, h]

set_option maxRecDepth 100000 in
set_option maxHeartbeats 4000000 in
theorem eqf_any (q1 q2 q3 q4 n : Nat) (hih : Same1At q1 q2 q3 q4 n) (x y : Tr) (Ak Bk : Option Addr) (An Bn : Option Addr) (ck dk D c : Nat) (W : World) (hS : Sm (n + 1) x) (hD : D + n ≤ 100) (hc : c + sumN (fun i => cntT (x.kf i)) x.kl ≤ 2147483647) (hx : TAt W (fun b => ¬ (b = q1 ∨ b = q2)) x An Ak) (hy : TAt W (fun b => ¬ (b = q1 ∨ b = q2)) y Bn Bk) (hV : SV q1 q2 q3 q4 D c W) :
    Calls Tryd.prog 44 #[.slice Ak x.kl ck, .slice Bk y.kl dk, .func (.func 42) #[] #[.pointer (some ⟨q1, 0, none⟩), .pointer (some ⟨q3, 0, none⟩), .pointer (some ⟨q4, 0, none⟩)]] W fun e W' => e = .returned (.bool (sameKB x y)) ∧ (∃ c', c' ≤ c + sumN (fun i => cntT (x.kf i)) x.kl ∧ SV q1 q2 q3 q4 D c' W') ∧ ButP (fun b => b = q1 ∨ b = q2) W W' := by
  have hk5 := hS.le.2.2.2
  have HIH := Lib.hid hih
  have HS := Lib.hid hS
  have HX := Lib.hid hx
  have HY := Lib.hid hy
  have HV := Lib.hid hV
  clear hih hS hx hy hV
  by_cases hkl : x.kl = y.kl
  · have HKL := Lib.hid hkl
    rw [← hkl]
    clear hkl
    obtain ⟨K, HK⟩ : ∃ K, Hid (x.kl = K) := ⟨_, Lib.hid rfl⟩
    rw [HK.out] at hk5 hc ⊢
    have HC := Lib.hid hc
    clear hc
    go_enter Tryd.func44, Tryd.ntmps44
    go_wp2
    go_loopw [17] (fun iv wr => ∃ i : Nat, i ≤ K ∧ iv = .int .i64 i ∧ Hid ((∀ j, j < i → sameT (x.kf j) (y.kf j)) ∧ (∃ c', c' ≤ c + sumN (fun i => cntT (x.kf i)) i ∧ SV q1 q2 q3 q4 D c' wr) ∧ ButP (fun b => b = q1 ∨ b = q2) W wr)) (fun iv _ => K - (intOf iv).toNat)
    case atStart => exact ⟨0, by omega, rfl, Lib.hid ⟨fun j hj => absurd hj (Nat.not_lt_zero j), ⟨c, by simp [sumN], HV.out⟩, ButP.refl _ _⟩⟩
    case round =>
      obtain ⟨i, hi, rfl, HL⟩ := hrel
      by_cases hi1 : i < K
      · have hix : i < x.kl := by rw [HK.out]; exact hi1
        have hiy : i < y.kl := by rw [← HKL.out, HK.out]; exact hi1
        obtain ⟨b, off, rfl, hQb, hlt, hcx⟩ := HX.out.kids (by omega)
        obtain ⟨A1, k1, A2, k2, h4, htx⟩ := hcx i hix
        obtain ⟨b', off', rfl, hQb', hlt', hcy⟩ := HY.out.kids (by omega)
        obtain ⟨A3, k3, A4, k4, h4', hty⟩ := hcy i hiy
        obtain ⟨hSame, ⟨c', hc', hV'⟩, hBP⟩ := HL.out
        obtain ⟨c0, c1, c2, c3⟩ := h4.of_block (hBP.block b hlt hQb)
        obtain ⟨d0, d1, d2, d3⟩ := h4'.of_block (hBP.block b' hlt' hQb')
        have HSA := Lib.hid hSame
        have HV' := Lib.hid hV'
        have HBP := Lib.hid hBP
        have HSX := Lib.hid (HS.out.kid hix)
        have HSUM : Hid (sumN (fun i => cntT (x.kf i)) (i + 1) = sumN (fun i => cntT (x.kf i)) i + cntT (x.kf i)) := Lib.hid rfl
        have HRM : Hid (sumN (fun i => cntT (x.kf i)) i + cntT (x.kf i) ≤ sumN (fun i => cntT (x.kf i)) K) := Lib.hid (sum_room (c := fun i => cntT (x.kf i)) hi1)
        have HSE := Lib.hid (show ¬ sameT (x.kf i) (y.kf i) → sameKB x y = false from fun h => sameKB_false fun g => h (g.2 i hix))
        have HTX := Lib.hid ((htx.butP hBP).below ((Below.refl _ _).alloc (Nat.le_refl _) (.cells #[.int .u64 ((x.kf i).num : Nat), .string (x.kf i).bs, .slice A1 (x.kf i).nl k1, .slice A2 (x.kf i).kl k2] 34)))
        have HTY := Lib.hid ((hty.butP hBP).below ((Below.refl _ _).alloc (Nat.le_refl _) (.cells #[.int .u64 ((x.kf i).num : Nat), .string (x.kf i).bs, .slice A1 (x.kf i).nl k1, .slice A2 (x.kf i).kl k2] 34)))
        obtain ⟨u, HU⟩ : ∃ u, Hid (x.kf i = u) := ⟨_, Lib.hid rfl⟩
        obtain ⟨v, HVV⟩ : ∃ v, Hid (y.kf i = v) := ⟨_, Lib.hid rfl⟩
        rw [HU.out] at c0 c1 c2 c3 HSX HSUM HRM HTX HTY HSE
        rw [HVV.out] at d0 d1 d2 d3 HTY HSE
        have hlb : b < wr.heap.size := Nat.lt_of_lt_of_le hlt hBP.size
        have hlb' : b' < wr.heap.size := Nat.lt_of_lt_of_le hlt' hBP.size
        have hne : b' ≠ wr.heap.size := by omega
        clear h4 h4' htx hty hcx hcy hSame hV' hBP hix hiy HL
        generalize sumN (fun i => cntT (x.kf i)) i = S at HSUM HRM hc' ⊢
        go_wp2_with fail
        clear c0 c1 c2 c3 d0 d1 d2 d3
        have hcu : c' + cntT u ≤ 2147483647 := by have := HC.out; have := HRM.out; omega
        refine (HIH.out u v A1 A2 A3 A4 k1 k2 k3 k4 D c' _ HSX.out hD hcu (HTX.out.below ((Below.refl _ _).alloc (Nat.le_refl _) _)) (HTY.out.below ((Below.refl _ _).alloc (Nat.le_refl _) _)) ((HV'.out.below ((Below.refl _ _).alloc (Nat.le_refl _) _)).below ((Below.refl _ _).alloc (Nat.le_refl _) _))).mono ?_
        rintro e w2 ⟨rfl, ⟨c2, hc2, hV2⟩, hB2⟩
        have HV2 := Lib.hid hV2
        have HB2 := Lib.hid (ButP.trans HBP.out (ButP.trans (ButP.of_below ((Below.refl _ _).alloc (Nat.le_refl _) _)) (ButP.trans (ButP.of_below ((Below.refl _ _).alloc (Nat.le_refl _) _)) hB2)))
        clear hV2 hB2
        by_cases he : sameT u v
        · rw [sameTB_true he]
          have HE := Lib.hid he
          clear he
          go_wp2
          go_roundw
          case rel => exact ⟨i + 1, by omega, by go_num, Lib.hid ⟨fun j hj => by
            by_cases e : j = i
            · rw [e, HU.out, HVV.out]; exact HE.out
            · exact HSA.out j (by omega), ⟨c2, by have := HSUM.out; omega, HV2.out⟩, HB2.out⟩⟩
          case measure => simp [intOf]; omega
        · rw [sameTB_false he]
          have HF := Lib.hid (HSE.out he)
          clear he
          go_wp2
          go_ret
          exact ⟨ret_bool HF.out.symm, ⟨c2, by have := HRM.out; omega, HV2.out⟩, HB2.out⟩
      · have e : i = K := by omega
        subst e
        go_wp2
        go_ret
        exact ⟨ret_bool (sameKB_true ⟨HKL.out, fun j hj => HL.out.1 j (by rw [← HK.out]; exact hj)⟩).symm, HL.out.2.1, HL.out.2.2⟩
  · have HF := Lib.hid (sameKB_false fun h => hkl h.1)
    have hne : ((x.kl : Int) != (y.kl : Int)) = true := by simp; omega
    have hne' : (x.kl != y.kl) = true := by simp; omega
    go_enter Tryd.func44, Tryd.ntmps44
    go_wp2
    go_ret
    exact ⟨ret_bool HF.out.symm, ⟨c, by omega, HV.out⟩, ButP.refl _ _⟩

end Go.Proofs.YtojlimpooeehhaaDoor
