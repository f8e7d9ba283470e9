/- What was set is there, and all else stays: over bit vectors. -/
import Derived.Test.YthpbabplgjfkpaaArr
namespace Go.Proofs.Ythpbabplgjfkpaa
open Go.ChangeShapes Go.WideShapes Go.ChangeAt Go.RowKit

theorem onesV_bit (n i : Nat) (hi : i < 64) : (onesV n).getLsbD i = decide (i < n) := by
  rw [onesV, BitVec.getLsbD_ofNat, Nat.testBit_two_pow_sub_one]
  simp [hi]
theorem fit_bit {X : V} {n : Nat} (h : X.toNat < 2 ^ n) (i : Nat) (hi : n ≤ i) : X.getLsbD i = false := by
  rw [← BitVec.testBit_toNat]
  exact Nat.testBit_lt_two_pow (Nat.lt_of_lt_of_le h (Nat.pow_le_pow_right (by omega) hi))
theorem getV_bit (W : V) (a n i : Nat) (hi : i < 64) : (getV W a n).getLsbD i = (decide (i < n) && W.getLsbD (a + i)) := by
  rw [getV, BitVec.getLsbD_and, onesV_bit n i hi, BitVec.getLsbD_ushiftRight, Bool.and_comm]
theorem setV_bit (W : V) (a n : Nat) (X : V) (hX : X.toNat < 2 ^ n) (h : a + n ≤ 64) (i : Nat) (hi : i < 64) :
    (setV W a n X).getLsbD i = if a ≤ i ∧ i < a + n then X.getLsbD (i - a) else W.getLsbD i := by
  rw [setV, BitVec.getLsbD_or, BitVec.getLsbD_and, BitVec.getLsbD_not, BitVec.getLsbD_shiftLeft, BitVec.getLsbD_shiftLeft]
  by_cases h1 : a ≤ i
  · by_cases h2 : i < a + n
    · rw [if_pos ⟨h1, h2⟩, onesV_bit n (i - a) (by omega)]
      have e1 : decide (i - a < n) = true := by simp; omega
      have e2 : decide (i < a) = false := by simp; omega
      simp [hi, e1, e2]
    · rw [if_neg (by omega), onesV_bit n (i - a) (by omega), fit_bit hX (i - a) (by omega)]
      have e1 : decide (i - a < n) = false := by simp; omega
      simp [hi, e1]
  · rw [if_neg (by omega)]
    have e2 : decide (i < a) = true := by simp; omega
    simp [hi, e2]
theorem get_fit (W : V) (a n : Nat) (h : n ≤ 64) : (getV W a n).toNat < 2 ^ n := by
  have h2 : 1 ≤ 2 ^ n := Nat.pow_pos (by omega)
  rw [getV, BitVec.toNat_and, onesV_toNat n h]
  have := Nat.and_le_right (n := (W >>> a).toNat) (m := 2 ^ n - 1)
  omega
theorem mask_fit (X : V) (n : Nat) (h : n ≤ 64) : (X &&& onesV n).toNat < 2 ^ n := by
  have h2 : 1 ≤ 2 ^ n := Nat.pow_pos (by omega)
  rw [BitVec.toNat_and, onesV_toNat n h]
  have := Nat.and_le_right (n := X.toNat) (m := 2 ^ n - 1)
  omega
theorem get_set (W : V) (a n : Nat) (X : V) (hX : X.toNat < 2 ^ n) (h : a + n ≤ 64) : getV (setV W a n X) a n = X := by
  apply BitVec.eq_of_getLsbD_eq
  intro i hi
  rw [getV_bit _ _ _ _ hi]
  by_cases h1 : i < n
  · rw [setV_bit W a n X hX h _ (by omega), if_pos (by omega)]
    simp [h1]
  · rw [fit_bit hX i (by omega)]
    simp [h1]
theorem set_back (W : V) (a n : Nat) (X : V) (hX : X.toNat < 2 ^ n) (h : a + n ≤ 64) : setV (setV W a n X) a n (getV W a n) = W := by
  apply BitVec.eq_of_getLsbD_eq
  intro i hi
  rw [setV_bit _ a n _ (get_fit W a n (by omega)) h i hi]
  by_cases h1 : a ≤ i ∧ i < a + n
  · rw [if_pos h1, getV_bit _ _ _ _ (by omega)]
    have e : a + (i - a) = i := by omega
    have e1 : decide (i - a < n) = true := by simp; omega
    rw [e, e1, Bool.true_and]
  · rw [if_neg h1, setV_bit W a n X hX h i hi, if_neg h1]
theorem set_swap (W : V) (a n b m : Nat) (X Y : V) (hX : X.toNat < 2 ^ n) (hY : Y.toNat < 2 ^ m) (h1 : a + n ≤ b) (h2 : b + m ≤ 64) : setV (setV W a n X) b m Y = setV (setV W b m Y) a n X := by
  apply BitVec.eq_of_getLsbD_eq
  intro i hi
  rw [setV_bit _ b m Y hY h2 i hi, setV_bit _ a n X hX (by omega) i hi, setV_bit _ a n X hX (by omega) i hi, setV_bit _ b m Y hY h2 i hi]
  by_cases c1 : b ≤ i ∧ i < b + m
  · rw [if_pos c1, if_neg (by omega), if_pos c1]
  · rw [if_neg c1, if_neg c1]
theorem get_other (W : V) (a n b m : Nat) (Y : V) (hY : Y.toNat < 2 ^ m) (h1 : a + n ≤ b) (h2 : b + m ≤ 64) : getV (setV W b m Y) a n = getV W a n := by
  apply BitVec.eq_of_getLsbD_eq
  intro i hi
  rw [getV_bit _ _ _ _ hi, getV_bit _ _ _ _ hi]
  by_cases c : i < n
  · rw [setV_bit W b m Y hY h2 _ (by omega), if_neg (by omega)]
  · simp [c]
theorem bit_stays (W : V) (a n : Nat) (X : V) (hX : X.toNat < 2 ^ n) (h : a + n ≤ 64) (i : Nat) (hi : i < 64) (ho : i < a ∨ a + n ≤ i) :
    bits .and .u64 (((setV W a n X).toNat : Int) / 2 ^ i) 1 = bits .and .u64 ((W.toNat : Int) / 2 ^ i) 1 := by
  have e : ∀ A : V, bits .and .u64 ((A.toNat : Int) / 2 ^ i) 1 = ((A >>> i &&& 1#64).toNat : Int) := fun A => by
    rw [v_shr']; exact v_and _ 1#64
  rw [e, e]
  congr 2
  apply BitVec.eq_of_getLsbD_eq
  intro j hj
  rw [BitVec.getLsbD_and, BitVec.getLsbD_and, BitVec.getLsbD_ushiftRight, BitVec.getLsbD_ushiftRight]
  by_cases hj0 : j = 0
  · subst hj0
    rw [setV_bit W a n X hX h _ (by omega), if_neg (by omega)]
  · have : (1#64 : V).getLsbD j = false := by
      have e1 : (1#64 : V) = onesV 1 := by decide
      rw [e1, onesV_bit 1 j hj]
      simp; omega
    simp [this]
theorem mask_all (X : V) : X &&& onesV 64 = X := by
  apply BitVec.eq_of_getLsbD_eq
  intro i hi
  rw [BitVec.getLsbD_and, onesV_bit 64 i hi]
  simp [hi]

end Go.Proofs.Ythpbabplgjfkpaa
