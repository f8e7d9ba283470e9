/- References: put together, and taken apart. -/
import Derived.Test.YthcachmcjekckaaDoorQAll
namespace Go.Proofs.YthcachmcjekckaaDoor
open Go.RowKit
/-- A reference's word. -/
def refN (o n : Int) : Nat := (o % 4294967296).toNat + (n % 4294967296).toNat * 4294967296
theorem refN_lt (o n : Int) : refN o n < 18446744073709551616 := by unfold refN; omega
set_option maxRecDepth 100000 in
set_option maxHeartbeats 1000000 in
theorem bref_any (o n : Int) (w : World) : Calls Tryd.prog 35 #[.int .i64 o, .int .i64 n] w fun e w' => e = .returned (.int .u64 (refN o n : Nat)) ∧ w = w' := by
  go_enter Tryd.func35, Tryd.ntmps35
  go_wp2
  go_ret
  refine ⟨?_, rfl⟩
  show Ending.returned (.int .u64 (bits .or .u64 (n % 4294967296 * 4294967296) (o % 4294967296))) = _
  have e1 : n % 4294967296 * 4294967296 = (((n % 4294967296).toNat * 2 ^ 32 : Nat) : Int) := by omega
  have e2 : o % 4294967296 = (((o % 4294967296).toNat : Nat) : Int) := by omega
  have h1 : (o % 4294967296).toNat < 2 ^ 32 := by omega
  rw [e1, e2, u64_or_nat _ _ (by omega) (by omega), ← Nat.shiftLeft_eq, ← Nat.shiftLeft_add_eq_or_of_lt h1, Nat.shiftLeft_eq]
  rw [show (n % 4294967296).toNat * 2 ^ 32 + (o % 4294967296).toNat = refN o n by unfold refN; omega]
set_option maxRecDepth 100000 in
set_option maxHeartbeats 1000000 in
theorem r7ref_any (o n : Int) (w : World) : Calls Tryd.prog 42 #[.int .i64 o, .int .i64 n] w fun e w' => e = .returned (.int .u64 (refN o n : Nat)) ∧ w = w' := by
  go_enter Tryd.func42, Tryd.ntmps42
  go_wp2
  go_ret
  refine ⟨?_, rfl⟩
  show Ending.returned (.int .u64 (o % 4294967296 + n % 4294967296 * 4294967296)) = _
  rw [show ((refN o n : Nat) : Int) = o % 4294967296 + n % 4294967296 * 4294967296 by unfold refN; omega]
set_option maxRecDepth 100000 in
set_option maxHeartbeats 1000000 in
theorem bpart_any (x : Nat) (hx : x < 18446744073709551616) (w : World) : Calls Tryd.prog 89 #[.int .u64 (x : Nat)] w fun e w' => e = .returned (.tuple #[.int .i64 (x % 4294967296 : Nat), .int .i64 (x / 4294967296 : Nat)]) ∧ w = w' := by
  go_enter Tryd.func89, Tryd.ntmps89
  go_wp2
  go_ret2
  refine ⟨?_, rfl⟩
  show Ending.returned (.tuple #[.int .i64 ((x : Int) % 4294967296), .int .i64 ((x : Int) / 4294967296)]) = _
  rw [show (((x % 4294967296 : Nat)) : Int) = (x : Int) % 4294967296 by omega, show (((x / 4294967296 : Nat)) : Int) = (x : Int) / 4294967296 by omega]

end Go.Proofs.YthcachmcjekckaaDoor
