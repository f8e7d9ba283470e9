/- tree.Size, tree.Deep. -/
import Derived.Test.YtkhbhkllnigbgaaDoorTEnterS

namespace Go.Proofs.YtkhbhkllnigbgaaDoor
open Go.RowKit
/-- What Size tells. -/
noncomputable def sizeC (s : Sch) (t : Int) (x : Tr) : Nat := if chkC s t x = 0 then 1 + wds true x else 0
theorem cnt_room {n : Nat} {x : Tr} (h : Sm (2 * n) x) (hn : n ≤ 6) : cntT x ≤ 2000000000 := by
  have h1 := cntT_le (h.mono (show 2 * n ≤ 12 by omega))
  have h2 : (5 : Nat) ^ 12 = 244140625 := by decide
  omega
theorem int_row (w : World) (z : Nat) : (w.alloc (.cells #[.int .i64 ((z : Nat) : Int)] 3)).rowIs w.heap.size 3 1 (fun _ => .int .i64 ((z : Nat) : Int)) := World.rowIs_alloc w #[.int .i64 ((z : Nat) : Int)] 3 _ (by intro j hj; match j, hj with | 0, _ => rfl)


end Go.Proofs.YtkhbhkllnigbgaaDoor
