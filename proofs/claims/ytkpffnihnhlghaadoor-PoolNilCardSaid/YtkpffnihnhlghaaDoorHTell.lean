/- Heads. -/
import Derived.Test.YtkpffnihnhlghaaDoorHRow
namespace Go.Proofs.YtkpffnihnhlghaaDoor
open Go.RowKit
theorem or_parts (t : Nat) (ht : t < 4294967296) (b : Int) : bits .or .u64 ((t : Int) * 4294967296) (b % 4294967296) = (t : Int) * 4294967296 + b % 4294967296 := by
  obtain ⟨B, hB⟩ : ∃ B : Nat, b % 4294967296 = (B : Int) := ⟨(b % 4294967296).toNat, by omega⟩
  have hB2 : B < 4294967296 := by omega
  rw [hB]
  have h := u64_or_nat (t * 4294967296) B (by omega) (by omega)
  have e : t * 4294967296 ||| B = t * 4294967296 + B := by
    have := Nat.shiftLeft_add_eq_or_of_lt (i := 32) (b := B) (by omega) t
    rw [Nat.shiftLeft_eq] at this
    exact this.symm
  rw [e, show ((t * 4294967296 : Nat) : Int) = (t : Int) * 4294967296 by omega, show ((t * 4294967296 + B : Nat) : Int) = (t : Int) * 4294967296 + (B : Int) by omega] at h
  exact h
set_option maxRecDepth 100000 in
theorem hmake_any (t : Nat) (ht : t < 4294967296) (b : Int) (w : World) : Calls Tryd.prog 160 #[.int .u32 (t : Int), .int .i64 b] w fun e w' => e = .returned (.int .u64 ((t : Int) * 4294967296 + b % 4294967296)) ∧ w = w' := by
  go_enter Tryd.func160, Tryd.ntmps160
  go_wp2
  go_ret
  exact ⟨by show Ending.returned (Value.int IntKind.u64 (bits .or .u64 ((t : Int) * 4294967296) (b % 4294967296))) = _; rw [or_parts t ht b], rfl⟩
set_option maxRecDepth 100000 in
theorem rmake_any (t : Nat) (ht : t < 4294967296) (b : Int) (w : World) : Calls Tryd.prog 118 #[.int .u32 (t : Int), .int .i64 b] w fun e w' => e = .returned (.int .u64 ((t : Int) * 4294967296 + b % 4294967296)) ∧ w = w' := by
  go_enter Tryd.func118, Tryd.ntmps118
  go_wp2
  go_ret
  exact ⟨rfl, rfl⟩
set_option maxRecDepth 100000 in
theorem htag_any (X : Nat) (hX : X < 18446744073709551616) (w : World) : Calls Tryd.prog 60 #[.int .u64 (X : Int)] w fun e w' => e = .returned (.int .u32 ((X / 4294967296 : Nat) : Int)) ∧ w = w' := by
  go_enter Tryd.func60, Tryd.ntmps60
  go_wp2
  go_ret
  exact ⟨by rfl, rfl⟩
theorem hmake_z (t : Nat) (ht : t < 4294967296) (b : Int) (w : World) {z : Int} (hz : z = (t : Int)) : Calls Tryd.prog 160 #[.int .u32 z, .int .i64 b] w fun e w' => e = .returned (.int .u64 ((t : Int) * 4294967296 + b % 4294967296)) ∧ w = w' := by
  subst hz
  exact hmake_any t ht b w
theorem rmake_z (t : Nat) (ht : t < 4294967296) (b : Int) (w : World) {z : Int} (hz : z = (t : Int)) : Calls Tryd.prog 118 #[.int .u32 z, .int .i64 b] w fun e w' => e = .returned (.int .u64 ((t : Int) * 4294967296 + b % 4294967296)) ∧ w = w' := by
  subst hz
  exact rmake_any t ht b w
set_option maxRecDepth 100000 in
theorem hturn_any (X : Nat) (hX : X < 18446744073709551616) (b : Int) (w : World) : Calls Tryd.prog 158 #[.int .u64 (X : Int), .int .i64 b] w fun e w' => e = .returned (.int .u64 ((((X / 4294967296 + 1) % 4294967296 : Nat) : Int) * 4294967296 + b % 4294967296)) ∧ w = w' := by
  go_enter Tryd.func158, Tryd.ntmps158
  go_wp2_with fail
  refine (htag_any X hX _).mono ?_
  rintro e w' ⟨rfl, rfl⟩
  go_wp2_with fail
  refine (hmake_z ((X / 4294967296 + 1) % 4294967296) (by omega) b _ (by omega)).mono ?_
  rintro e w' ⟨rfl, rfl⟩
  go_wp2
  go_ret
  exact ⟨rfl, rfl⟩
set_option maxRecDepth 100000 in
theorem rturn_any (X : Nat) (hX : X < 18446744073709551616) (b : Int) (w : World) : Calls Tryd.prog 76 #[.int .u64 (X : Int), .int .i64 b] w fun e w' => e = .returned (.int .u64 ((((X / 4294967296 + 1) % 4294967296 : Nat) : Int) * 4294967296 + b % 4294967296)) ∧ w = w' := by
  go_enter Tryd.func76, Tryd.ntmps76
  go_wp2_with fail
  refine (rmake_z ((X / 4294967296 + 1) % 4294967296) (by omega) b _ (by omega)).mono ?_
  rintro e w' ⟨rfl, rfl⟩
  go_wp2
  go_ret
  exact ⟨rfl, rfl⟩

end Go.Proofs.YtkpffnihnhlghaaDoor
