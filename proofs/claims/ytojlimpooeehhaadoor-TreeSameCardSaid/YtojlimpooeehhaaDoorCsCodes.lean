/- What Codes tells of a trouble: its codes, the topmost one first. -/
import Derived.Test.YtojlimpooeehhaaDoorCsSaid
namespace Go.Proofs.YtojlimpooeehhaaDoor.Cs
open Go.RowKit Go.Shelf
/-- A trouble's codes. -/
def codesP : List (Int × Int) → List Int
  | [] => []
  | (c, _) :: r => if c = 0 then codesP r else c :: codesP r
theorem codesP_word (n : Int) (r : List (Int × Int)) : codesP ((0, n) :: r) = codesP r := by simp [codesP]
theorem codesP_code (c n : Int) (h : ¬ c = 0) (r : List (Int × Int)) : codesP ((c, n) :: r) = c :: codesP r := by simp [codesP, h]

end Go.Proofs.YtojlimpooeehhaaDoor.Cs
