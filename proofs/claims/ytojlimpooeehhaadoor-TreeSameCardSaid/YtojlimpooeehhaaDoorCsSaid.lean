/- What Text's loop leans on: texts, bounds, the builder kept. -/
import Derived.Test.YtojlimpooeehhaaDoorCsNil
import Derived.Lib.AppendIntMem
import Derived.Lib.SmallJoins
namespace Go.Proofs.YtojlimpooeehhaaDoor.Cs
open Go.RowKit Go.Shelf
def In64 (n : Int) : Prop := -9223372036854775808 ≤ n ∧ n ≤ 9223372036854775807
theorem chain_inj : ∀ {a b : List (Int × Int)}, chain a = chain b → a = b
  | [], [], _ => rfl
  | [], _ :: _, h => by simp [chain] at h
  | _ :: _, [], h => by simp [chain] at h
  | x :: a, y :: b, h => by simp [chain] at h; simp [h.1]

theorem heap_cells_turn {B : Nat} {X Y : World} (hT : TurnC B X Y) {k : Nat} {cs : Array Value} {t : TypeId} {fz : Nat × Nat} (h : X.heap[k]? = some (.cells cs t fz)) (ht : (t == 150) = false) : Y.heap[k]? = some (.cells cs t fz) :=
  hT.same k _ h rfl (by simp [is93, ht])

theorem boxed_turn {B b : Nat} {t : TypeId} {v : Value} {X Y : World} (h : Boxed X b t v) (hT : TurnC B X Y) (ht : (t == 150) = false) : Boxed Y b t v := heap_cells_turn hT h ht
theorem boxed_below {b : Nat} {t : TypeId} {v : Value} {X Y : World} (h : Boxed X b t v) (hb : Below X.heap.size X Y) : Boxed Y b t v := (hb.block b h.lt).trans h

end Go.Proofs.YtojlimpooeehhaaDoor.Cs
