/- The document's own May, Get, Set. -/
import Derived.Test.YthpbabplgjfkpaaLawSet
namespace Go.Proofs.Ythpbabplgjfkpaa
open Go.ChangeShapes Go.WideShapes Go.ChangeAt Go.RowKit

set_option maxRecDepth 100000 in
theorem may_yes (at_ n : Nat) (h1 : 1 ≤ n) (h2 : at_ + n ≤ 64) (w : World) : Calls Try.prog 21 #[.int .i64 at_, .int .i64 n] w fun e w' => e = .returned (.bool true) ∧ w = w' := by
  have a1 : decide ((1 : Int) ≤ n) = true := by simp; omega
  have a2 : decide ((n : Int) ≤ 64) = true := by simp; omega
  have a3 : decide ((0 : Int) ≤ at_) = true := by simp
  have a4 : decide ((at_ : Int) ≤ 64 - n) = true := by simp; omega
  go_enter Try.func21, Try.ntmps21
  go_wp2
  go_ret
  exact ⟨rfl, rfl⟩

set_option maxRecDepth 100000 in
theorem may_no (at_ n : Int) (h : ¬ (1 ≤ n ∧ n ≤ 64 ∧ 0 ≤ at_ ∧ at_ ≤ 64 - n)) (w : World) : Calls Try.prog 21 #[.int .i64 at_, .int .i64 n] w fun e w' => e = .returned (.bool false) ∧ w = w' := by
  by_cases h1 : 1 ≤ n
  · by_cases h2 : n ≤ 64
    · by_cases h3 : 0 ≤ at_
      · have h4 : ¬ at_ ≤ 64 - n := fun h4 => h ⟨h1, h2, h3, h4⟩
        have a1 : decide (1 ≤ n) = true := by simpa using h1
        have a2 : decide (n ≤ 64) = true := by simpa using h2
        have a3 : decide (0 ≤ at_) = true := by simpa using h3
        have a4 : decide (at_ ≤ 64 - n) = false := by simpa using h4
        go_enter Try.func21, Try.ntmps21
        go_wp2
        go_ret
        exact ⟨rfl, rfl⟩
      · have a1 : decide (1 ≤ n) = true := by simpa using h1
        have a2 : decide (n ≤ 64) = true := by simpa using h2
        have a3 : decide (0 ≤ at_) = false := by simpa using h3
        go_enter Try.func21, Try.ntmps21
        go_wp2
        go_ret
        exact ⟨rfl, rfl⟩
    · have a1 : decide (1 ≤ n) = true := by simpa using h1
      have a2 : decide (n ≤ 64) = false := by simpa using h2
      go_enter Try.func21, Try.ntmps21
      go_wp2
      go_ret
      exact ⟨rfl, rfl⟩
  · have a1 : decide (1 ≤ n) = false := by simpa using h1
    go_enter Try.func21, Try.ntmps21
    go_wp2
    go_ret
    exact ⟨rfl, rfl⟩

set_option maxRecDepth 100000 in
theorem refGet_no (W : V) (at_ n : Int) (h : ¬ (1 ≤ n ∧ n ≤ 64 ∧ 0 ≤ at_ ∧ at_ ≤ 64 - n)) (w : World) : Calls Try.prog 16 #[.int .u64 (W.toNat : Int), .int .i64 at_, .int .i64 n] w fun e w' => e = .returned (.int .u64 0) ∧ w = w' := by
  have H := Lib.hid h; clear h
  go_enter Try.func16, Try.ntmps16
  go_wp2_with fail
  refine (may_no at_ n H.out _).mono ?_
  rintro e w' ⟨rfl, rfl⟩
  go_wp2
  go_ret
  exact ⟨rfl, rfl⟩
set_option maxRecDepth 100000 in
theorem refSet_no (W : V) (at_ n : Int) (X : V) (h : ¬ (1 ≤ n ∧ n ≤ 64 ∧ 0 ≤ at_ ∧ at_ ≤ 64 - n)) (w : World) : Calls Try.prog 15 #[.int .u64 (W.toNat : Int), .int .i64 at_, .int .i64 n, .int .u64 (X.toNat : Int)] w fun e w' => e = .returned (.tuple #[.int .u64 (W.toNat : Int), .bool false]) ∧ w = w' := by
  have H := Lib.hid h; clear h
  go_enter Try.func15, Try.ntmps15
  go_wp2_with fail
  refine (may_no at_ n H.out _).mono ?_
  rintro e w' ⟨rfl, rfl⟩
  go_wp2
  go_ret2
  exact ⟨rfl, rfl⟩

/-- What the document's Get has gathered when the k lowest of n bits are still to tell. -/
def vN (W : V) (a n k : Nat) : Nat := W.toNat / 2 ^ (a + k) % 2 ^ (n - k)
theorem vN_start (W : V) (a n : Nat) : vN W a n n = 0 := by simp [vN, Nat.mod_one]
theorem vN_end (W : V) (a n : Nat) (h : n ≤ 64) : vN W a n 0 = (getV W a n).toNat := by
  rw [getV, BitVec.toNat_and, onesV_toNat n h, Nat.and_two_pow_sub_one_eq_mod, BitVec.toNat_ushiftRight, Nat.shiftRight_eq_div_pow]
  rfl
theorem vN_step (W : V) (a n j : Nat) (h : j < n) : vN W a n j = 2 * vN W a n (j + 1) + W.toNat / 2 ^ (a + j) % 2 := by
  unfold vN
  have e1 : n - j = (n - (j + 1)) + 1 := by omega
  have e2 : W.toNat / 2 ^ (a + (j + 1)) = W.toNat / 2 ^ (a + j) / 2 := by
    rw [← Nat.add_assoc, Nat.pow_succ, Nat.div_div_eq_div_mul]
  rw [e1, e2, Nat.pow_succ, Nat.mul_comm _ 2, Nat.mod_mul]
  omega

theorem vN_lt (W : V) (a n j : Nat) (hn : n ≤ 64) : vN W a n j < 18446744073709551616 :=
  Nat.lt_of_lt_of_le (Nat.mod_lt _ (Nat.pow_pos (by omega))) (pow_le_64 (by omega))
theorem vN_spelt (W : V) (a n j : Nat) (h : j < n) (hn : n ≤ 64) : IntKind.u64.wrap (IntKind.u64.wrap (2 * (vN W a n (j + 1) : Int)) + ((W.toNat : Int) / 2 ^ (a + j)).tmod 2) = (vN W a n j : Int) := by
  have h1 := vN_lt W a n j hn
  have h2 := vN_step W a n j h
  have e : (W.toNat : Int) / 2 ^ (a + j) = ((W.toNat / 2 ^ (a + j) : Nat) : Int) := by
    rw [Int.natCast_ediv, Int.natCast_pow]; rfl
  rw [e, Int.tmod_eq_emod_of_nonneg (Int.natCast_nonneg _), IntKind.wrap_u64, IntKind.wrap_u64]
  omega

set_option maxRecDepth 100000 in
theorem refGet_yes (W : V) (a n : Nat) (h1 : 1 ≤ n) (h2 : a + n ≤ 64) (w : World) : Calls Try.prog 16 #[.int .u64 (W.toNat : Int), .int .i64 a, .int .i64 n] w fun e w' => e = .returned (.int .u64 ((getV W a n).toNat : Int)) ∧ w = w' := by
  go_enter Try.func16, Try.ntmps16
  go_wp2_with fail
  refine (may_yes a n h1 h2 _).mono ?_
  rintro e w' ⟨rfl, rfl⟩
  go_wp2
  go_loop [8, 9] (fun v i => ∃ k : Nat, k ≤ n ∧ i = .int .i64 ((k : Int) - 1) ∧ v = .int .u64 (vN W a n k : Nat)) (fun _ i => (intOf i + 1).toNat)
  case atStart => exact ⟨n, by omega, rfl, by rw [vN_start]; rfl⟩
  case round =>
    obtain ⟨k, hk, rfl, rfl⟩ := hrel
    by_cases h0 : k = 0
    · subst h0
      go_wp2
      go_ret
      exact ⟨by rw [← vN_end W a n (by omega)]; rfl, rfl⟩
    · obtain ⟨j, rfl⟩ : ∃ j, k = j + 1 := ⟨k - 1, by omega⟩
      have ej : ((j + 1 : Nat) : Int) - 1 = (j : Int) := by omega
      rw [ej]
      have Hv := Lib.hid (vN_spelt W a n j (by omega) (by omega))
      go_wp2
      go_round
      case rel => exact ⟨j, by omega, rfl, by rw [Hv.out]⟩
      case measure => simp [intOf]

theorem fits_spelt (X : V) (n : Nat) (h : X.toNat < 2 ^ n) : (((X.toNat : Int) / 2 ^ n) != 0) = false := by
  have e : (X.toNat : Int) / 2 ^ n = ((X.toNat / 2 ^ n : Nat) : Int) := by rw [Int.natCast_ediv, Int.natCast_pow]; rfl
  rw [e, Nat.div_eq_of_lt h]; rfl
theorem wide_spelt (X : V) (n : Nat) (h : ¬ X.toNat < 2 ^ n) : (((X.toNat : Int) / 2 ^ n) != 0) = true := by
  have e : (X.toNat : Int) / 2 ^ n = ((X.toNat / 2 ^ n : Nat) : Int) := by rw [Int.natCast_ediv, Int.natCast_pow]; rfl
  have : 1 ≤ X.toNat / 2 ^ n := (Nat.le_div_iff_mul_le (Nat.pow_pos (by omega))).2 (by omega)
  rw [e]; simp; omega

set_option maxRecDepth 100000 in
theorem refSet_wide (W : V) (a n : Nat) (X : V) (h1 : 1 ≤ n) (h2 : a + n ≤ 64) (hv : ¬ X.toNat < 2 ^ n) (w : World) : Calls Try.prog 15 #[.int .u64 (W.toNat : Int), .int .i64 a, .int .i64 n, .int .u64 (X.toNat : Int)] w fun e w' => e = .returned (.tuple #[.int .u64 (W.toNat : Int), .bool false]) ∧ w = w' := by
  have hn : n < 64 := by
    rcases Nat.lt_or_ge n 64 with h | h
    · exact h
    · have : n = 64 := by omega
      subst this
      exact absurd (vlt X) hv
  have t1 : decide ((n : Int) < 64) = true := by simp; omega
  have t2 := wide_spelt X n hv
  clear hv
  go_enter Try.func15, Try.ntmps15
  go_wp2_with fail
  refine (may_yes a n h1 h2 _).mono ?_
  rintro e w' ⟨rfl, rfl⟩
  go_wp2
  go_ret2
  exact ⟨rfl, rfl⟩

/-- What the document's Set has made of a word when k bits are told. -/
def stV (W : V) (a k : Nat) (X : V) : V := setV W a k (maskV X k)

def bitV (i : Nat) : V := 1#64 <<< i
def clrV (W : V) (a k : Nat) (X : V) : V := stV W a k X &&& ~~~ bitV (a + k)
theorem bitV_bit (i j : Nat) (hi : i < 64) (hj : j < 64) : (bitV i).getLsbD j = decide (j = i) := by
  have e1 : (1#64 : V) = onesV 1 := by decide
  rw [bitV, BitVec.getLsbD_shiftLeft, e1, onesV_bit 1 (j - i) (by omega)]
  by_cases h : j < i
  · have : ¬ j = i := by omega
    simp [h, this]
  · by_cases h2 : j = i
    · subst h2; simp [hj]
    · have : ¬ j - i < 1 := by omega
      simp [h, h2, this]
theorem bitV_spelt (i : Nat) : IntKind.u64.wrap (2 ^ i) = ((bitV i).toNat : Int) := by
  have h := v_shl 1#64 i
  have e : ((1#64 : V).toNat : Int) = 1 := rfl
  rw [e, Int.one_mul] at h
  exact h
theorem stV_bit (W : V) (a k : Nat) (X : V) (h : a + k ≤ 64) (i : Nat) (hi : i < 64) : (stV W a k X).getLsbD i = if a ≤ i ∧ i < a + k then X.getLsbD (i - a) else W.getLsbD i := by
  rw [stV, setV_bit W a k (maskV X k) (mask_fit X k (by omega)) h i hi]
  by_cases c : a ≤ i ∧ i < a + k
  · rw [if_pos c, if_pos c, maskV, BitVec.getLsbD_and, onesV_bit k (i - a) (by omega)]
    have : decide (i - a < k) = true := by simp; omega
    rw [this, Bool.and_true]
  · rw [if_neg c, if_neg c]
theorem stV_zero (W : V) (a : Nat) (X : V) (h : a ≤ 64) : stV W a 0 X = W := by
  apply BitVec.eq_of_getLsbD_eq
  intro i hi
  rw [stV_bit W a 0 X (by omega) i hi, if_neg (by omega)]
theorem stV_end (W : V) (a n : Nat) (X : V) (hX : X.toNat < 2 ^ n) (h : a + n ≤ 64) : stV W a n X = setV W a n X := by
  apply BitVec.eq_of_getLsbD_eq
  intro i hi
  rw [stV_bit W a n X h i hi, setV_bit W a n X hX h i hi]
theorem st_clr (W : V) (a k : Nat) (X : V) (h : a + k < 64) (hb : X.getLsbD k = false) : clrV W a k X = stV W a (k + 1) X := by
  apply BitVec.eq_of_getLsbD_eq
  intro i hi
  rw [clrV, BitVec.getLsbD_and, BitVec.getLsbD_not, bitV_bit _ i h hi, stV_bit W a k X (by omega) i hi, stV_bit W a (k + 1) X (by omega) i hi]
  by_cases c : i = a + k
  · subst c
    have e : a + k - a = k := by omega
    rw [if_neg (by omega), if_pos (by omega), e, hb]
    simp
  · have e : decide (i = a + k) = false := by simpa using c
    rw [e]
    by_cases c2 : a ≤ i ∧ i < a + k
    · rw [if_pos c2, if_pos (by omega)]; simp [hi]
    · rw [if_neg c2, if_neg (by omega)]; simp [hi]
theorem st_or (W : V) (a k : Nat) (X : V) (h : a + k < 64) (hb : X.getLsbD k = true) : clrV W a k X ||| bitV (a + k) = stV W a (k + 1) X := by
  apply BitVec.eq_of_getLsbD_eq
  intro i hi
  rw [BitVec.getLsbD_or, clrV, BitVec.getLsbD_and, BitVec.getLsbD_not, bitV_bit _ i h hi, stV_bit W a k X (by omega) i hi, stV_bit W a (k + 1) X (by omega) i hi]
  by_cases c : i = a + k
  · subst c
    have e : a + k - a = k := by omega
    rw [if_neg (by omega), if_pos (by omega), e, hb]
    simp
  · have e : decide (i = a + k) = false := by simpa using c
    rw [e]
    by_cases c2 : a ≤ i ∧ i < a + k
    · rw [if_pos c2, if_pos (by omega)]; simp [hi]
    · rw [if_neg c2, if_neg (by omega)]; simp [hi]
theorem bit_spelt (X : V) (k : Nat) : (((X.toNat : Int) / 2 ^ k).tmod 2 == 1) = X.getLsbD k := by
  have e : (X.toNat : Int) / 2 ^ k = ((X.toNat / 2 ^ k : Nat) : Int) := by rw [Int.natCast_ediv, Int.natCast_pow]; rfl
  rw [e, Int.tmod_eq_emod_of_nonneg (Int.natCast_nonneg _), ← BitVec.testBit_toNat, Nat.testBit_eq_decide_div_mod_eq, Bool.eq_iff_iff, beq_iff_eq, decide_eq_true_iff]
  omega

set_option maxRecDepth 100000 in
theorem refSet_yes (W : V) (a n : Nat) (X : V) (h1 : 1 ≤ n) (h2 : a + n ≤ 64) (hv : X.toNat < 2 ^ n) (w : World) : Calls Try.prog 15 #[.int .u64 (W.toNat : Int), .int .i64 a, .int .i64 n, .int .u64 (X.toNat : Int)] w fun e w' => e = .returned (.tuple #[.int .u64 ((setV W a n X).toNat : Int), .bool true]) ∧ w = w' := by
  have HV := Lib.hid hv; clear hv
  have t2 := fits_spelt X n HV.out
  go_enter Try.func15, Try.ntmps15
  go_wp2_with fail
  refine (may_yes a n h1 h2 _).mono ?_
  rintro e w' ⟨rfl, rfl⟩
  go_wp2
  all_goals
    go_loop [0, 11] (fun v i => ∃ k : Nat, k ≤ n ∧ i = .int .i64 k ∧ v = .int .u64 ((stV W a k X).toNat : Int)) (fun _ i => n - (intOf i).toNat)
    case atStart => exact ⟨0, by omega, rfl, by rw [stV_zero W a X (by omega)]⟩
    case round =>
      obtain ⟨k, hk, rfl, rfl⟩ := hrel
      by_cases hlt : k < n
      · have e1 := bitV_spelt (a + k)
        have e2 : bits .andNot .u64 ((stV W a k X).toNat : Int) ((bitV (a + k)).toNat : Int) = ((clrV W a k X).toNat : Int) := v_andNot _ _
        have t3 := bit_spelt X k
        by_cases hb : X.getLsbD k = true
        · rw [hb] at t3
          have e3 : bits .or .u64 ((clrV W a k X).toNat : Int) ((bitV (a + k)).toNat : Int) = ((stV W a (k + 1) X).toNat : Int) := by
            rw [v_or, st_or W a k X (by omega) hb]
          clear hb
          go_wp2
          go_round
          case rel => exact ⟨k + 1, by omega, by go_num, rfl⟩
          case measure => simp [intOf]; omega
        · have hb' : X.getLsbD k = false := by simpa using hb
          rw [hb'] at t3
          rw [st_clr W a k X (by omega) hb'] at e2
          clear hb hb'
          go_wp2
          go_round
          case rel => exact ⟨k + 1, by omega, by go_num, rfl⟩
          case measure => simp [intOf]; omega
      · have he : k = n := by omega
        subst he
        have Hs := Lib.hid (stV_end W a k X HV.out h2)
        go_wp2
        go_ret2
        exact ⟨by rw [← Hs.out]; rfl, rfl⟩

end Go.Proofs.Ythpbabplgjfkpaa
