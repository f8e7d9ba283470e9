/- bits.Get and bits.Set of seven bits, as numbers. -/
import Derived.Test.YtkpffnihnhlghaaDoorPCfg
import Derived.ProofKit
import Derived.OpenShut
import Derived.ShutString
import Derived.Laws.Bits64
import Derived.Laws.BitsAllLaws
namespace Go.Proofs.YtkpffnihnhlghaaDoor
open Go.ChangeShapes Go.WideShapes Go.ChangeAt Go.RowKit
abbrev V := BitVec 64
theorem vlt (X : V) : X.toNat < 18446744073709551616 := X.isLt
theorem v_and (X Y : V) : bits .and .u64 (X.toNat : Int) (Y.toNat : Int) = ((X &&& Y).toNat : Int) := by
  rw [u64_and_nat _ _ (vlt X) (vlt Y), BitVec.toNat_and]
theorem v_or (X Y : V) : bits .or .u64 (X.toNat : Int) (Y.toNat : Int) = ((X ||| Y).toNat : Int) := by
  rw [u64_or_nat _ _ (vlt X) (vlt Y), BitVec.toNat_or]
theorem v_andNot (X Y : V) : bits .andNot .u64 (X.toNat : Int) (Y.toNat : Int) = ((X &&& ~~~ Y).toNat : Int) := by
  rw [u64_andNot_nat _ _ (vlt X) (vlt Y), BitVec.toNat_and, BitVec.toNat_not]
theorem v_shr (X : V) (k : Nat) : (X.toNat : Int) / ((2 ^ k : Nat) : Int) = ((X >>> k).toNat : Int) := by
  rw [BitVec.toNat_ushiftRight, Nat.shiftRight_eq_div_pow]
  exact (Int.natCast_ediv _ _).symm
/-- An integer of a word's kind is a bit vector's. -/
theorem vec_of {a : Int} (h : (Lit.int .u64 a).wf = true) : ∃ X : V, a = (X.toNat : Int) := by
  have hb := bounds_u64 h
  refine ⟨BitVec.ofNat 64 a.toNat, ?_⟩
  rw [BitVec.toNat_ofNat, Nat.mod_eq_of_lt (by omega)]
  omega
theorem vec_nat (a : Nat) (h : a < 18446744073709551616) : ∃ X : V, X.toNat = a := ⟨BitVec.ofNat 64 a, by rw [BitVec.toNat_ofNat, Nat.mod_eq_of_lt (by omega)]⟩

set_option maxRecDepth 100000 in
theorem isPart_yes (at_ n : Nat) (h1 : 1 ≤ n) (h2 : at_ + n ≤ 64) (w : World) : Calls Tryd.prog 137 #[.int .i64 at_, .int .i64 n] w fun e w' => e = .returned (.bool true) ∧ w = w' := by
  have a1 : decide ((1 : Int) ≤ n) = true := by simp; omega
  have a2 : decide ((n : Int) ≤ 64) = true := by simp; omega
  have a3 : decide ((0 : Int) ≤ at_) = true := by simp
  have a4 : decide ((at_ : Int) ≤ 64 - n) = true := by simp; omega
  go_enter Tryd.func137, Tryd.ntmps137
  go_wp2
  go_ret
  exact ⟨rfl, rfl⟩

/-- The word whose n lowest bits alone are 1. -/
def onesV (n : Nat) : V := BitVec.ofNat 64 (2 ^ n - 1)
theorem pow_le_64 {n : Nat} (h : n ≤ 64) : 2 ^ n ≤ 18446744073709551616 := Nat.pow_le_pow_right (by omega) h
theorem onesV_toNat (n : Nat) (h : n ≤ 64) : (onesV n).toNat = 2 ^ n - 1 := by
  have h1 := pow_le_64 h
  have h2 : 1 ≤ 2 ^ n := Nat.pow_pos (by omega)
  rw [onesV, BitVec.toNat_ofNat]
  exact Nat.mod_eq_of_lt (by omega)
theorem ones_spelt (n : Nat) (h : n ≤ 64) : IntKind.u64.wrap (IntKind.u64.wrap (2 ^ n) - 1) = ((onesV n).toNat : Int) := by
  have h1 := pow_le_64 h
  have h2 : 1 ≤ 2 ^ n := Nat.pow_pos (by omega)
  have e : (2 : Int) ^ n = ((2 ^ n : Nat) : Int) := by rw [Int.natCast_pow]; rfl
  rw [onesV_toNat n h, e, IntKind.wrap_u64, IntKind.wrap_u64]
  omega
theorem v_shl (X : V) (k : Nat) : IntKind.u64.wrap ((X.toNat : Int) * 2 ^ k) = ((X <<< k).toNat : Int) := by
  have e : (X.toNat : Int) * 2 ^ k = ((X.toNat * 2 ^ k : Nat) : Int) := by rw [Int.natCast_mul, Int.natCast_pow]; rfl
  rw [e, IntKind.wrap_u64, BitVec.toNat_shiftLeft, Nat.shiftLeft_eq, Int.natCast_emod]
  rfl
theorem v_shr' (X : V) (k : Nat) : (X.toNat : Int) / 2 ^ k = ((X >>> k).toNat : Int) := by
  rw [← v_shr, Int.natCast_pow]; rfl

set_option maxRecDepth 100000 in
theorem ones_any (n : Nat) (h2 : n ≤ 64) (w : World) : Calls Tryd.prog 138 #[.int .i64 n] w fun e w' => e = .returned (.int .u64 ((onesV n).toNat : Int)) ∧ w = w' := by
  have Hs := Lib.hid (ones_spelt n h2)
  go_enter Tryd.func138, Tryd.ntmps138
  go_wp2
  go_ret
  exact ⟨by rw [← Hs.out]; rfl, rfl⟩

theorem quiet_eq {P : Program} {f : FuncId} {args : Array Value} {w : World} {n : Nat} {v : Value}
    (h : Calls P f args (w.drewN n) fun e w' => e = .returned v ∧ w.drewN n = w') : Calls P f args (w.drewN n) fun e w'' => e = .returned v ∧ ∃ m, w'' = w.drewN m :=
  h.mono fun _ _ ⟨he, hm⟩ => ⟨he, n, hm.symm⟩

def getV (W : V) (at_ n : Nat) : V := (W >>> at_) &&& onesV n
def setV (W : V) (at_ n : Nat) (X : V) : V := (W &&& ~~~ (onesV n <<< at_)) ||| (X <<< at_)

set_option maxRecDepth 100000 in
theorem get_yes (W : V) (at_ n : Nat) (h1 : 1 ≤ n) (h2 : at_ + n ≤ 64) (w : World) : Calls Tryd.prog 106 #[.int .u64 (W.toNat : Int), .int .i64 at_, .int .i64 n] w fun e w' => e = .returned (.int .u64 ((getV W at_ n).toNat : Int)) ∧ ∃ m, w' = w.drewN m := by
  have Hs := Lib.hid (v_and (W >>> at_) (onesV n))
  have Hr := Lib.hid (v_shr' W at_)
  go_enter Tryd.func106, Tryd.ntmps106
  go_wp2_with fail
  refine (isPart_yes at_ n h1 h2 _).mono ?_
  rintro e w' ⟨rfl, rfl⟩
  go_wp2_with fail
  go_quiet ((go_at_call 138; exact quiet_eq (ones_any n (by omega) _)))
  go_wp2
  go_ret
  exact ⟨by rw [getV, ← Hs.out, ← Hr.out]; rfl, nq, rfl⟩

set_option maxRecDepth 100000 in
theorem set_yes (W : V) (at_ n : Nat) (X : V) (h1 : 1 ≤ n) (h2 : at_ + n ≤ 64) (hv : X.toNat < 2 ^ n) (w : World) : Calls Tryd.prog 142 #[.int .u64 (W.toNat : Int), .int .i64 at_, .int .i64 n, .int .u64 (X.toNat : Int)] w fun e w' => e = .returned (.tuple #[.int .u64 ((setV W at_ n X).toNat : Int), .bool true]) ∧ ∃ m, w' = w.drewN m := by
  have Ha := Lib.hid (v_andNot W (onesV n <<< at_))
  have Ho := Lib.hid (v_or (W &&& ~~~ (onesV n <<< at_)) (X <<< at_))
  have Hs := Lib.hid (v_shl (onesV n) at_)
  have Hx := Lib.hid (v_shl X at_)
  have hd : decide ((onesV n).toNat < X.toNat) = false := by
    have := onesV_toNat n (by omega)
    have h2 : 1 ≤ 2 ^ n := Nat.pow_pos (by omega)
    simp; omega
  clear hv
  go_enter Tryd.func142, Tryd.ntmps142
  go_wp2_with fail
  refine (isPart_yes at_ n h1 h2 _).mono ?_
  rintro e w' ⟨rfl, rfl⟩
  go_wp2_with fail
  refine (ones_any n (by omega) _).mono ?_
  rintro e w' ⟨rfl, rfl⟩
  go_wp2_with fail
  go_quiet ((go_at_call 138; exact quiet_eq (ones_any n (by omega) _)))
  go_wp2
  go_ret2
  exact ⟨by rw [setV, ← Ho.out, ← Ha.out, ← Hs.out, ← Hx.out]; rfl, nq, rfl⟩

theorem getV_nat (W : V) (a n : Nat) (h : n ≤ 64) : (getV W a n).toNat = W.toNat / 2 ^ a % 2 ^ n := by
  rw [getV, BitVec.toNat_and, onesV_toNat n h, BitVec.toNat_ushiftRight, Nat.shiftRight_eq_div_pow, Nat.and_two_pow_sub_one_eq_mod]
theorem onesV_bit (n i : Nat) (hi : i < 64) : (onesV n).getLsbD i = decide (i < n) := by
  rw [onesV, BitVec.getLsbD_ofNat, Nat.testBit_two_pow_sub_one]
  simp [hi]
theorem fit_bit {X : V} {n : Nat} (h : X.toNat < 2 ^ n) (i : Nat) (hi : n ≤ i) : X.getLsbD i = false := by
  rw [← BitVec.testBit_toNat]
  exact Nat.testBit_lt_two_pow (Nat.lt_of_lt_of_le h (Nat.pow_le_pow_right (by omega) hi))
theorem setV_nat (W : V) (a n : Nat) (X : V) (hW : W.toNat < 2 ^ a) (hX : X.toNat < 2 ^ n) (h : a + n ≤ 64) : (setV W a n X).toNat = W.toNat + X.toNat * 2 ^ a := by
  have e1 : W &&& ~~~ (onesV n <<< a) = W := by
    apply BitVec.eq_of_getLsbD_eq
    intro i hi
    rw [BitVec.getLsbD_and, BitVec.getLsbD_not, BitVec.getLsbD_shiftLeft]
    by_cases h1 : i < a
    · simp [hi, h1]
    · rw [fit_bit hW i (by omega)]; simp
  have e2 : (X <<< a).toNat = X.toNat <<< a := by
    rw [BitVec.toNat_shiftLeft, Nat.shiftLeft_eq, Nat.mod_eq_of_lt]
    have h3 : X.toNat * 2 ^ a < 2 ^ n * 2 ^ a := Nat.mul_lt_mul_of_pos_right hX (Nat.pow_pos (by omega))
    rw [← Nat.pow_add] at h3
    exact Nat.lt_of_lt_of_le h3 (Nat.pow_le_pow_right (by omega) (by omega))
  rw [setV, e1, BitVec.toNat_or, e2, Nat.or_comm, ← Nat.shiftLeft_add_eq_or_of_lt hW, Nat.shiftLeft_eq, Nat.add_comm]

theorem pow7 (k : Nat) : 2 ^ (k * 7) = 128 ^ k := by rw [Nat.mul_comm, Nat.pow_mul]

/-- The k-th part of a word. -/
theorem get_part (W : V) (k : Nat) (hk : k < 9) (w : World) : Calls Tryd.prog 106 #[.int .u64 (W.toNat : Int), .int .i64 ((k : Int) * 7), .int .i64 7] w fun e w' => e = .returned (.int .u64 ((W.toNat / 128 ^ k % 128 : Nat) : Int)) ∧ ∃ m, w' = w.drewN m := by
  have e : (k : Int) * 7 = ((k * 7 : Nat) : Int) := by omega
  rw [e]
  refine (get_yes W (k * 7) 7 (by omega) (by omega) w).mono ?_
  rintro r w' ⟨rfl, h⟩
  rw [getV_nat _ _ _ (by omega), pow7]
  exact ⟨rfl, h⟩
/-- A part more is put into a word. -/
theorem set_part (F p k : Nat) (hk : k < 9) (hF : F < 128 ^ k) (hp : p < 128) (w : World) : Calls Tryd.prog 142 #[.int .u64 (F : Int), .int .i64 ((k : Int) * 7), .int .i64 7, .int .u64 (p : Int)] w fun e w' => e = .returned (.tuple #[.int .u64 ((F + p * 128 ^ k : Nat) : Int), .bool true]) ∧ ∃ m, w' = w.drewN m := by
  have e : (k : Int) * 7 = ((k * 7 : Nat) : Int) := by omega
  rw [e]
  have h1 : 128 ^ k ≤ 128 ^ 8 := Nat.pow_le_pow_right (by omega) (by omega)
  obtain ⟨W, rfl⟩ := vec_nat F (by omega)
  obtain ⟨X, rfl⟩ := vec_nat p (by omega)
  refine (set_yes W (k * 7) 7 X (by omega) (by omega) (by omega) w).mono ?_
  rintro r w' ⟨rfl, h⟩
  rw [setV_nat W (k * 7) 7 X (by rw [pow7]; exact hF) (by omega) (by omega), pow7]
  exact ⟨rfl, h⟩

end Go.Proofs.YtkpffnihnhlghaaDoor
