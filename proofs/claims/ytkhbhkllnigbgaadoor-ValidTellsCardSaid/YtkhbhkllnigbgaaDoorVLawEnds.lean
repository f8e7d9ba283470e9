/- ValidEnds: the law's walk. -/
import Derived.Test.YtkhbhkllnigbgaaDoorVEnds
namespace Go.Proofs.YtkhbhkllnigbgaaDoor
open Go.ChangeShapes Go.WideShapes Go.ChangeAt Go.RowKit
/-- A turn, by its numbers. -/
structure T8 where
  h : Int
  a : Int
  b : Int
  d : Nat
  lt : d < 18446744073709551616
def T8.cells (q : T8) : List Value := [.int .i64 q.h, .int .i64 q.a, .int .i64 q.b, .int .u64 (q.d : Nat)]
def arr3 (q0 q1 q2 : T8) : Array Value := #[.int .i64 q0.h, .int .i64 q0.a, .int .i64 q0.b, .int .u64 (q0.d : Nat), .int .i64 q1.h, .int .i64 q1.a, .int .i64 q1.b, .int .u64 (q1.d : Nat), .int .i64 q2.h, .int .i64 q2.a, .int .i64 q2.b, .int .u64 (q2.d : Nat)]
def arr3F (q0 q1 q2 : T8) (j : Nat) : Value := match j with
  | 0 => .int .i64 q0.h | 1 => .int .i64 q0.a | 2 => .int .i64 q0.b | 3 => .int .u64 (q0.d : Nat)
  | 4 => .int .i64 q1.h | 5 => .int .i64 q1.a | 6 => .int .i64 q1.b | 7 => .int .u64 (q1.d : Nat)
  | 8 => .int .i64 q2.h | 9 => .int .i64 q2.a | 10 => .int .i64 q2.b | _ => .int .u64 (q2.d : Nat)
theorem arr3_row (w : World) (q0 q1 q2 : T8) (T : TypeId) : (w.alloc (.cells (arr3 q0 q1 q2) T)).rowIs w.heap.size T 12 (arr3F q0 q1 q2) := World.rowIs_alloc w (arr3 q0 q1 q2) T _ (by intro j hj; match j, hj with | 0, _ => rfl | 1, _ => rfl | 2, _ => rfl | 3, _ => rfl | 4, _ => rfl | 5, _ => rfl | 6, _ => rfl | 7, _ => rfl | 8, _ => rfl | 9, _ => rfl | 10, _ => rfl | 11, _ => rfl)
theorem WRow.cut {W : World} {A : Option Addr} {L k : Nat} {f : Nat → Nat} (h : WRow W A L f) (hk : k ≤ L) : WRow W A k f := ⟨fun j hj => h.lt j (by omega), fun h0 => by
  obtain ⟨b, o, e, hb, hc⟩ := h.some_ (by omega)
  exact ⟨b, o, e, hb, fun j hj => hc j (by omega)⟩⟩

end Go.Proofs.YtkhbhkllnigbgaaDoor
