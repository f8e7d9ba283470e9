/- A number by a mask. -/
import Derived.Test.YtkndgdokpbbdpaaDoorRows
import Derived.WalkKit
namespace Go.Proofs.YtkndgdokpbbdpaaDoor

theorem and_mask (q : Int) (M : Nat) (hM : M < 4611686018427387904) : ∃ m : Nat, m ≤ M ∧ bits .and .i64 q (M : Int) = (m : Int) := by
  have e : (BitVec.ofInt 64 (M : Int)).toNat = M := by
    rw [BitVec.ofInt_natCast, BitVec.toNat_ofNat]; exact Nat.mod_eq_of_lt (by omega)
  refine ⟨(BitVec.ofInt 64 q &&& BitVec.ofInt 64 (M : Int)).toNat, ?_, ?_⟩
  · rw [BitVec.toNat_and, e]; exact Nat.and_le_right
  · have h : (BitVec.ofInt 64 q &&& BitVec.ofInt 64 (M : Int)).toNat ≤ M := by rw [BitVec.toNat_and, e]; exact Nat.and_le_right
    show IntKind.i64.wrap ((BitVec.ofInt 64 q &&& BitVec.ofInt 64 (M : Int)).toNat : Int) = _
    generalize (BitVec.ofInt 64 q &&& BitVec.ofInt 64 (M : Int)).toNat = m at h ⊢
    simp [IntKind.wrap, IntKind.bits, IntKind.signed]
    omega
end Go.Proofs.YtkndgdokpbbdpaaDoor
