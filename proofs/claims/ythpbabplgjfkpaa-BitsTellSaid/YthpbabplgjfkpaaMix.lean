/- Mix: the program's and the document's, over words as bit vectors. -/
import Derived.Test.YthpbabplgjfkpaaVec
namespace Go.Proofs.Ythpbabplgjfkpaa
open Go.ChangeShapes Go.WideShapes Go.ChangeAt Go.RowKit

theorem mix_spelt (X : V) (A B : Int) (hA : A = IntKind.u64.wrap (bits .xor .u64 (X.toNat : Int) ((X.toNat : Int) / 1073741824) * 13787848793156543929)) (hB : B = IntKind.u64.wrap (bits .xor .u64 A (A / 134217728) * 10723151780598845931)) : bits .xor .u64 B (B / 2147483648) = ((mixV X).toNat : Int) := by
  have e1 : A = (((X ^^^ X >>> 30) * 0xbf58476d1ce4e5b9#64 : V).toNat : Int) := by
    rw [hA, show (1073741824 : Int) = ((2 ^ 30 : Nat) : Int) from rfl, v_shr, v_xor]
    exact v_mul _ 0xbf58476d1ce4e5b9#64
  unfold mixV
  simp only
  generalize ((X ^^^ X >>> 30) * 0xbf58476d1ce4e5b9#64 : V) = A' at e1 ⊢
  have e2 : B = (((A' ^^^ A' >>> 27) * 0x94d049bb133111eb#64 : V).toNat : Int) := by
    rw [hB, e1, show (134217728 : Int) = ((2 ^ 27 : Nat) : Int) from rfl, v_shr, v_xor]
    exact v_mul _ 0x94d049bb133111eb#64
  rw [e2, show (2147483648 : Int) = ((2 ^ 31 : Nat) : Int) from rfl, v_shr, v_xor]

set_option maxRecDepth 100000 in
theorem mix_any (X : V) (w : World) : Calls Try.prog 10 #[.int .u64 (X.toNat : Int)] w fun e w' => e = .returned (.int .u64 ((mixV X).toNat : Int)) ∧ w = w' := by
  have hm := mix_spelt X _ _ rfl rfl
  go_enter Try.func10, Try.ntmps10
  go_wp2
  go_ret
  exact ⟨by rw [← hm]; rfl, rfl⟩

set_option maxRecDepth 100000 in
theorem refMix_any (X : V) (w : World) : Calls Try.prog 11 #[.int .u64 (X.toNat : Int)] w fun e w' => e = .returned (.int .u64 ((mixV X).toNat : Int)) ∧ w = w' := by
  have hm := mix_spelt X _ _ rfl rfl
  go_enter Try.func11, Try.ntmps11
  go_wp2
  go_ret
  exact ⟨by rw [← hm]; rfl, rfl⟩

end Go.Proofs.Ythpbabplgjfkpaa
