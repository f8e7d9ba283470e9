/- The fields of structs, one by one: what they refer to is laid behind; structs are laid. -/
import Derived.Test.YtkhbhkllnigbgaaDoorBBehind2
import Derived.Deep.RegionHeld3
namespace Go.Proofs.YtkhbhkllnigbgaaDoor
open Go.ChangeShapes Go.WideShapes Go.ChangeAt Go.RowKit
theorem kt_in {s : Sch} (hR : RightS s) {t j : Nat} (ht : t < s.n) (hj : j < s.len t) : kAt s (t : Int) (j : Int) = s.k t j ∧ tAt s (t : Int) (j : Int) = (((s.t t j).toNat : Nat) : Int) := by
  have hc : hasT s (t : Int) ∧ (0 : Int) ≤ (j : Int) ∧ (j : Int) < s.len (t : Int).toNat := ⟨by unfold hasT; omega, by omega, by rw [Int.toNat_natCast]; omega⟩
  have hf := hR.field ht hj
  refine ⟨?_, ?_⟩
  · rw [kAt, if_pos hc, Int.toNat_natCast, Int.toNat_natCast]
  · rw [tAt, if_pos hc, Int.toNat_natCast, Int.toNat_natCast]
    omega

end Go.Proofs.YtkhbhkllnigbgaaDoor
