/- isPart, ones, Get, Set. -/
import Derived.Test.YthelhimaoeimbaaWords
import Derived.Deep.QuietTactic
import Derived.BigQuiet
namespace Go.Proofs.Ythelhimaoeimbaa
open Go.ChangeShapes Go.WideShapes Go.ChangeAt Go.RowKit

set_option maxRecDepth 100000 in
theorem isPart_yes (at_ n : Nat) (h1 : 1 ≤ n) (h2 : at_ + n ≤ 64) (w : World) : Calls Try.prog 18 #[.int .i64 at_, .int .i64 n] w fun e w' => e = .returned (.bool true) ∧ w = w' := by
  have a1 : decide ((1 : Int) ≤ n) = true := by simp; omega
  have a2 : decide ((n : Int) ≤ 64) = true := by simp; omega
  have a3 : decide ((0 : Int) ≤ at_) = true := by simp
  have a4 : decide ((at_ : Int) ≤ 64 - n) = true := by simp; omega
  go_enter Try.func18, Try.ntmps18
  go_wp2
  go_ret
  exact ⟨rfl, rfl⟩

set_option maxRecDepth 100000 in
theorem isPart_no (at_ n : Int) (h : ¬ (1 ≤ n ∧ n ≤ 64 ∧ 0 ≤ at_ ∧ at_ ≤ 64 - n)) (w : World) : Calls Try.prog 18 #[.int .i64 at_, .int .i64 n] w fun e w' => e = .returned (.bool false) ∧ w = w' := by
  by_cases h1 : 1 ≤ n
  · by_cases h2 : n ≤ 64
    · by_cases h3 : 0 ≤ at_
      · have h4 : ¬ at_ ≤ 64 - n := fun h4 => h ⟨h1, h2, h3, h4⟩
        have a1 : decide (1 ≤ n) = true := by simpa using h1
        have a2 : decide (n ≤ 64) = true := by simpa using h2
        have a3 : decide (0 ≤ at_) = true := by simpa using h3
        have a4 : decide (at_ ≤ 64 - n) = false := by simpa using h4
        go_enter Try.func18, Try.ntmps18
        go_wp2
        go_ret
        exact ⟨rfl, rfl⟩
      · have a1 : decide (1 ≤ n) = true := by simpa using h1
        have a2 : decide (n ≤ 64) = true := by simpa using h2
        have a3 : decide (0 ≤ at_) = false := by simpa using h3
        go_enter Try.func18, Try.ntmps18
        go_wp2
        go_ret
        exact ⟨rfl, rfl⟩
    · have a1 : decide (1 ≤ n) = true := by simpa using h1
      have a2 : decide (n ≤ 64) = false := by simpa using h2
      go_enter Try.func18, Try.ntmps18
      go_wp2
      go_ret
      exact ⟨rfl, rfl⟩
  · have a1 : decide (1 ≤ n) = false := by simpa using h1
    go_enter Try.func18, Try.ntmps18
    go_wp2
    go_ret
    exact ⟨rfl, rfl⟩

/-- The word whose n lowest bits alone are 1. -/
def onesV (n : Nat) : V := BitVec.ofNat 64 (2 ^ n - 1)
theorem pow_le_64 {n : Nat} (h : n ≤ 64) : 2 ^ n ≤ 18446744073709551616 := Nat.pow_le_pow_right (by omega) h
theorem onesV_toNat (n : Nat) (h : n ≤ 64) : (onesV n).toNat = 2 ^ n - 1 := by
  have h1 := pow_le_64 h
  have h2 : 1 ≤ 2 ^ n := Nat.pow_pos (by omega)
  rw [onesV, BitVec.toNat_ofNat]
  exact Nat.mod_eq_of_lt (by omega)
theorem ones_spelt (n : Nat) (h : n ≤ 64) : IntKind.u64.wrap (IntKind.u64.wrap (2 ^ n) - 1) = ((onesV n).toNat : Int) := by
  have h1 := pow_le_64 h
  have h2 : 1 ≤ 2 ^ n := Nat.pow_pos (by omega)
  have e : (2 : Int) ^ n = ((2 ^ n : Nat) : Int) := by rw [Int.natCast_pow]; rfl
  rw [onesV_toNat n h, e, IntKind.wrap_u64, IntKind.wrap_u64]
  omega
theorem v_shl (X : V) (k : Nat) : IntKind.u64.wrap ((X.toNat : Int) * 2 ^ k) = ((X <<< k).toNat : Int) := by
  have e : (X.toNat : Int) * 2 ^ k = ((X.toNat * 2 ^ k : Nat) : Int) := by rw [Int.natCast_mul, Int.natCast_pow]; rfl
  rw [e, IntKind.wrap_u64, BitVec.toNat_shiftLeft, Nat.shiftLeft_eq, Int.natCast_emod]
  rfl
theorem v_shr' (X : V) (k : Nat) : (X.toNat : Int) / 2 ^ k = ((X >>> k).toNat : Int) := by
  rw [← v_shr, Int.natCast_pow]; rfl

set_option maxRecDepth 100000 in
theorem ones_any (n : Nat) (h2 : n ≤ 64) (w : World) : Calls Try.prog 19 #[.int .i64 n] w fun e w' => e = .returned (.int .u64 ((onesV n).toNat : Int)) ∧ w = w' := by
  have Hs := Lib.hid (ones_spelt n h2)
  go_enter Try.func19, Try.ntmps19
  go_wp2
  go_ret
  exact ⟨by rw [← Hs.out]; rfl, rfl⟩

theorem quiet_eq {P : Program} {f : FuncId} {args : Array Value} {w : World} {n : Nat} {v : Value}
    (h : Calls P f args (w.drewN n) fun e w' => e = .returned v ∧ w.drewN n = w') : Calls P f args (w.drewN n) fun e w'' => e = .returned v ∧ ∃ m, w'' = w.drewN m :=
  h.mono fun _ _ ⟨he, hm⟩ => ⟨he, n, hm.symm⟩

def setV (W : V) (at_ n : Nat) (X : V) : V := (W &&& ~~~ (onesV n <<< at_)) ||| (X <<< at_)

set_option maxRecDepth 100000 in
theorem set_yes (W : V) (at_ n : Nat) (X : V) (h1 : 1 ≤ n) (h2 : at_ + n ≤ 64) (hv : X.toNat < 2 ^ n) (w : World) : Calls Try.prog 16 #[.int .u64 (W.toNat : Int), .int .i64 at_, .int .i64 n, .int .u64 (X.toNat : Int)] w fun e w' => e = .returned (.tuple #[.int .u64 ((setV W at_ n X).toNat : Int), .bool true]) ∧ ∃ m, w' = w.drewN m := by
  have Ha := Lib.hid (v_andNot W (onesV n <<< at_))
  have Ho := Lib.hid (v_or (W &&& ~~~ (onesV n <<< at_)) (X <<< at_))
  have Hs := Lib.hid (v_shl (onesV n) at_)
  have Hx := Lib.hid (v_shl X at_)
  have hd : decide ((onesV n).toNat < X.toNat) = false := by
    have := onesV_toNat n (by omega)
    have h2 : 1 ≤ 2 ^ n := Nat.pow_pos (by omega)
    simp; omega
  clear hv
  go_enter Try.func16, Try.ntmps16
  go_wp2_with fail
  refine (isPart_yes at_ n h1 h2 _).mono ?_
  rintro e w' ⟨rfl, rfl⟩
  go_wp2_with fail
  refine (ones_any n (by omega) _).mono ?_
  rintro e w' ⟨rfl, rfl⟩
  go_wp2_with fail
  go_quiet ((go_at_call 19; exact quiet_eq (ones_any n (by omega) _)))
  go_wp2
  go_ret2
  exact ⟨by rw [setV, ← Ho.out, ← Ha.out, ← Hs.out, ← Hx.out]; rfl, nq, rfl⟩

set_option maxRecDepth 100000 in
theorem set_not (W : V) (at_ n : Int) (X : V) (h : ¬ (1 ≤ n ∧ n ≤ 64 ∧ 0 ≤ at_ ∧ at_ ≤ 64 - n)) (w : World) : Calls Try.prog 16 #[.int .u64 (W.toNat : Int), .int .i64 at_, .int .i64 n, .int .u64 (X.toNat : Int)] w fun e w' => e = .returned (.tuple #[.int .u64 (W.toNat : Int), .bool false]) ∧ w = w' := by
  have H := Lib.hid h; clear h
  go_enter Try.func16, Try.ntmps16
  go_wp2_with fail
  refine (isPart_no at_ n H.out _).mono ?_
  rintro e w' ⟨rfl, rfl⟩
  go_wp2
  go_ret2
  exact ⟨rfl, rfl⟩

set_option maxRecDepth 100000 in
theorem set_wide (W : V) (at_ n : Nat) (X : V) (h1 : 1 ≤ n) (h2 : at_ + n ≤ 64) (hv : ¬ X.toNat < 2 ^ n) (w : World) : Calls Try.prog 16 #[.int .u64 (W.toNat : Int), .int .i64 at_, .int .i64 n, .int .u64 (X.toNat : Int)] w fun e w' => e = .returned (.tuple #[.int .u64 (W.toNat : Int), .bool false]) ∧ w = w' := by
  have hd : decide ((onesV n).toNat < X.toNat) = true := by
    have := onesV_toNat n (by omega)
    have h2 : 1 ≤ 2 ^ n := Nat.pow_pos (by omega)
    simp; omega
  clear hv
  go_enter Try.func16, Try.ntmps16
  go_wp2_with fail
  refine (isPart_yes at_ n h1 h2 _).mono ?_
  rintro e w' ⟨rfl, rfl⟩
  go_wp2_with fail
  refine (ones_any n (by omega) _).mono ?_
  rintro e w' ⟨rfl, rfl⟩
  go_wp2
  go_ret2
  exact ⟨rfl, rfl⟩

end Go.Proofs.Ythelhimaoeimbaa
