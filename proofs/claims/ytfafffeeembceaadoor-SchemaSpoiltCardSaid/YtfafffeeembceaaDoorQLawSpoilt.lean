/- SchemaSpoilt: all ways. -/
import Derived.Test.YtfafffeeembceaaDoorQSpA
import Derived.Test.YtfafffeeembceaaDoorQSpB
import Derived.Test.YtfafffeeembceaaDoorQSp6
import Derived.Test.YtfafffeeembceaaDoorQSp7
namespace Go.Proofs.YtfafffeeembceaaDoor
open Go.RowKit
theorem lawSpoilt_any (Al : Option Addr) (L cl : Nat) (how q0 q1 : Int) (w : World) (hE : Cs.ErrT w) (hL : L ≤ 9223372036854775807) (hi : IRow w Al L) :
    Calls Tryd.prog 6 #[.slice Al L cl, .int .i64 how, .agg #[.int .i64 q0, .int .i64 q1]] w fun e w' => e = .returned (.bool true) ∧ Below w.heap.size w w' := by
  obtain ⟨m, hm, hme⟩ := and_mask how 7 (by omega)
  rw [show ((7 : Nat) : Int) = 7 from rfl] at hme
  obtain rfl | rfl | rfl | rfl | rfl | rfl | rfl | rfl : m = 0 ∨ m = 1 ∨ m = 2 ∨ m = 3 ∨ m = 4 ∨ m = 5 ∨ m = 6 ∨ m = 7 := by omega
  · exact spoilt_0 Al L cl how q0 q1 w hE hL hi hme
  · exact spoilt_1 Al L cl how q0 q1 w hE hL hi hme
  · exact spoilt_2 Al L cl how q0 q1 w hE hL hi hme
  · exact spoilt_3 Al L cl how q0 q1 w hE hL hi hme
  · exact spoilt_4 Al L cl how q0 q1 w hE hL hi hme
  · exact spoilt_5 Al L cl how q0 q1 w hE hL hi hme
  · exact spoilt_6 Al L cl how q0 q1 w hE hL hi hme
  · exact spoilt_7 Al L cl how q0 q1 w hE hL hi hme

end Go.Proofs.YtfafffeeembceaaDoor
