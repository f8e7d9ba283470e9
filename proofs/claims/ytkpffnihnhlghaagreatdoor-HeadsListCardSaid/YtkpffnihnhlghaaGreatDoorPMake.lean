/- Make. -/
import Derived.Test.YtkpffnihnhlghaaGreatDoorPMkW
import Derived.Test.YtkpffnihnhlghaaGreatDoorStAll
namespace Go.Proofs.YtkpffnihnhlghaaGreatDoor
open Go.RowKit
theorem store_in (y : St) (N i : Nat) (h : i < N) (u : Int) : y.store N i u = y.made 2 i u := by
  have hb : inB N (i : Int) = true := by simp [inB, h]
  rw [St.store, if_pos hb]


end Go.Proofs.YtkpffnihnhlghaaGreatDoor
