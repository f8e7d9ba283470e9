/- Words as bit vectors: how the operations on uint64 are spelt, and that mixing is undone step by step. -/
import Derived.Test.YthelhimaoeimbaaRows
import Derived.WalkKit
import Derived.ProofKit
import Derived.OpenShut
import Derived.ShutString
import Derived.Laws.Bits64
import Derived.Laws.BitsAllLaws
namespace Go.Proofs.Ythelhimaoeimbaa
open Go.ChangeShapes Go.WideShapes Go.ChangeAt Go.RowKit

abbrev V := BitVec 64

theorem vlt (X : V) : X.toNat < 18446744073709551616 := X.isLt
theorem v_xor (X Y : V) : bits .xor .u64 (X.toNat : Int) (Y.toNat : Int) = ((X ^^^ Y).toNat : Int) := by
  rw [u64_xor_nat _ _ (vlt X) (vlt Y), BitVec.toNat_xor]
theorem v_and (X Y : V) : bits .and .u64 (X.toNat : Int) (Y.toNat : Int) = ((X &&& Y).toNat : Int) := by
  rw [u64_and_nat _ _ (vlt X) (vlt Y), BitVec.toNat_and]
theorem v_or (X Y : V) : bits .or .u64 (X.toNat : Int) (Y.toNat : Int) = ((X ||| Y).toNat : Int) := by
  rw [u64_or_nat _ _ (vlt X) (vlt Y), BitVec.toNat_or]
theorem v_andNot (X Y : V) : bits .andNot .u64 (X.toNat : Int) (Y.toNat : Int) = ((X &&& ~~~ Y).toNat : Int) := by
  rw [u64_andNot_nat _ _ (vlt X) (vlt Y), BitVec.toNat_and, BitVec.toNat_not]
theorem v_mul (X Y : V) : IntKind.u64.wrap ((X.toNat : Int) * (Y.toNat : Int)) = ((X * Y).toNat : Int) := by
  rw [IntKind.wrap_u64, BitVec.toNat_mul, Int.natCast_emod, Int.natCast_mul]
  rfl
theorem v_add (X Y : V) : IntKind.u64.wrap ((X.toNat : Int) + (Y.toNat : Int)) = ((X + Y).toNat : Int) := by
  rw [IntKind.wrap_u64, BitVec.toNat_add, Int.natCast_emod, Int.natCast_add]
  rfl
theorem v_shr (X : V) (k : Nat) : (X.toNat : Int) / ((2 ^ k : Nat) : Int) = ((X >>> k).toNat : Int) := by
  rw [BitVec.toNat_ushiftRight, Nat.shiftRight_eq_div_pow]
  exact (Int.natCast_ediv _ _).symm
theorem v_eq (X Y : V) : ((X.toNat : Int) == (Y.toNat : Int)) = (X == Y) := by
  rw [Bool.eq_iff_iff, beq_iff_eq, beq_iff_eq]
  exact ⟨fun h => BitVec.eq_of_toNat_eq (Int.ofNat.inj h), fun h => by rw [h]⟩

/-- P2.2, over bit vectors. -/
def mixV (X : V) : V :=
  let A := (X ^^^ X >>> 30) * 0xbf58476d1ce4e5b9#64
  let B := (A ^^^ A >>> 27) * 0x94d049bb133111eb#64
  B ^^^ B >>> 31
def unmixV (Z : V) : V :=
  let A := (Z ^^^ Z >>> 31 ^^^ Z >>> 62) * 0x319642b2d24d8ec3#64
  let B := (A ^^^ A >>> 27 ^^^ A >>> 54) * 0x96de1b173f119089#64
  B ^^^ B >>> 30 ^^^ B >>> 60

theorem unturn (X : V) (k : Nat) (h : 64 ≤ 3 * k) : (X ^^^ X >>> k) ^^^ (X ^^^ X >>> k) >>> k ^^^ (X ^^^ X >>> k) >>> (2 * k) = X := by
  have h3 : X >>> (k + 2 * k) = 0#64 := BitVec.ushiftRight_eq_zero (by omega)
  rw [BitVec.ushiftRight_xor_distrib, BitVec.ushiftRight_xor_distrib, ← BitVec.shiftRight_add, ← BitVec.shiftRight_add, h3, show k + k = 2 * k by omega]
  have e : ∀ a b c : V, a ^^^ b ^^^ (b ^^^ c) ^^^ (c ^^^ 0#64) = a := fun a b c => by
    rw [BitVec.xor_zero, BitVec.xor_assoc, BitVec.xor_assoc, BitVec.xor_assoc, BitVec.xor_self, BitVec.xor_zero, BitVec.xor_self, BitVec.xor_zero]
  exact e _ _ _

theorem unmix_mix (X : V) : unmixV (mixV X) = X := by
  unfold mixV unmixV
  simp only
  have m1 : ∀ A : V, A * 0x94d049bb133111eb#64 * 0x319642b2d24d8ec3#64 = A := fun A => by
    rw [BitVec.mul_assoc, show (0x94d049bb133111eb#64 * 0x319642b2d24d8ec3#64 : V) = 1#64 by decide, BitVec.mul_one]
  have m2 : ∀ A : V, A * 0xbf58476d1ce4e5b9#64 * 0x96de1b173f119089#64 = A := fun A => by
    rw [BitVec.mul_assoc, show (0xbf58476d1ce4e5b9#64 * 0x96de1b173f119089#64 : V) = 1#64 by decide, BitVec.mul_one]
  rw [unturn _ 31 (by omega), m1, unturn _ 27 (by omega), m2, unturn _ 30 (by omega)]

theorem mix_inj {X Y : V} (h : mixV X = mixV Y) : X = Y := by
  rw [← unmix_mix X, ← unmix_mix Y, h]
theorem mix_zero : mixV 0#64 = 0#64 := by decide

/-- An integer of a word's kind is a bit vector's. -/
theorem vec_of {a : Int} (h : (Lit.int .u64 a).wf = true) : ∃ X : V, a = (X.toNat : Int) := by
  have hb := bounds_u64 h
  refine ⟨BitVec.ofNat 64 a.toNat, ?_⟩
  rw [BitVec.toNat_ofNat, Nat.mod_eq_of_lt (by omega)]
  omega

end Go.Proofs.Ythelhimaoeimbaa
