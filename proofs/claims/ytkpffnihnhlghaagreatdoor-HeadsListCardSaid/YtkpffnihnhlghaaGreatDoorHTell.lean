/- Heads. -/
import Derived.Test.YtkpffnihnhlghaaGreatDoorHRow
namespace Go.Proofs.YtkpffnihnhlghaaGreatDoor
open Go.RowKit
theorem or_parts (t : Nat) (ht : t < 4294967296) (b : Int) : bits .or .u64 ((t : Int) * 4294967296) (b % 4294967296) = (t : Int) * 4294967296 + b % 4294967296 := by
  obtain ⟨B, hB⟩ : ∃ B : Nat, b % 4294967296 = (B : Int) := ⟨(b % 4294967296).toNat, by omega⟩
  have hB2 : B < 4294967296 := by omega
  rw [hB]
  have h := u64_or_nat (t * 4294967296) B (by omega) (by omega)
  have e : t * 4294967296 ||| B = t * 4294967296 + B := by
    have := Nat.shiftLeft_add_eq_or_of_lt (i := 32) (b := B) (by omega) t
    rw [Nat.shiftLeft_eq] at this
    exact this.symm
  rw [e, show ((t * 4294967296 : Nat) : Int) = (t : Int) * 4294967296 by omega, show ((t * 4294967296 + B : Nat) : Int) = (t : Int) * 4294967296 + (B : Int) by omega] at h
  exact h
set_option maxRecDepth 100000 in
theorem rmake_any (t : Nat) (ht : t < 4294967296) (b : Int) (w : World) : Calls Tryz.prog 16 #[.int .u32 (t : Int), .int .i64 b] w fun e w' => e = .returned (.int .u64 ((t : Int) * 4294967296 + b % 4294967296)) ∧ w = w' := by
  go_enter Tryz.func16, Tryz.ntmps16
  go_wp2
  go_ret
  exact ⟨rfl, rfl⟩
theorem rmake_z (t : Nat) (ht : t < 4294967296) (b : Int) (w : World) {z : Int} (hz : z = (t : Int)) : Calls Tryz.prog 16 #[.int .u32 z, .int .i64 b] w fun e w' => e = .returned (.int .u64 ((t : Int) * 4294967296 + b % 4294967296)) ∧ w = w' := by
  subst hz
  exact rmake_any t ht b w

end Go.Proofs.YtkpffnihnhlghaaGreatDoor
