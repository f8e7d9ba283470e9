/- BuildRefs: the law's walk. -/
import Derived.Test.YtkhbhkllnigbgaaDoorBAwake
namespace Go.Proofs.YtkhbhkllnigbgaaDoor
open Go.ChangeShapes Go.WideShapes Go.ChangeAt Go.RowKit
theorem refN_mod (o n : Int) : ((refN o n % 4294967296 : Nat) : Int) = o % 4294967296 := by unfold refN; omega
theorem refN_div (o n : Int) : ((refN o n / 4294967296 : Nat) : Int) = n % 4294967296 := by unfold refN; omega
theorem refN_back (m : Nat) (h : m < 18446744073709551616) : refN ((m : Int) % 4294967296) ((m : Int) / 4294967296) = m := by unfold refN; omega
theorem and_low_i64 (o : Int) : bits .and .i64 o 4294967295 = o % 4294967296 := by
  have e : (BitVec.ofInt 64 (4294967295 : Int)).toNat = 2 ^ 32 - 1 := by decide
  have h : (BitVec.ofInt 64 o &&& BitVec.ofInt 64 (4294967295 : Int)).toNat = (o % 4294967296).toNat := by
    rw [BitVec.toNat_and, e, Nat.and_two_pow_sub_one_eq_mod, BitVec.toNat_ofInt]
    omega
  show IntKind.i64.wrap ((BitVec.ofInt 64 o &&& BitVec.ofInt 64 (4294967295 : Int)).toNat : Int) = _
  rw [h]
  exact (IntWalk.i64_in _ (by omega)).trans (by omega)
theorem and_low_u64 (m : Nat) (h : m < 18446744073709551616) : bits .and .u64 (m : Int) 4294967295 = ((m % 4294967296 : Nat) : Int) := by
  have h1 := u64_and_nat m 4294967295 h (by omega)
  rw [show ((4294967295 : Nat) : Int) = 4294967295 from rfl] at h1
  rw [h1, show (4294967295 : Nat) = 2 ^ 32 - 1 from rfl, Nat.and_two_pow_sub_one_eq_mod]

end Go.Proofs.YtkhbhkllnigbgaaDoor
