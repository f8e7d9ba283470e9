/- Steps as a script has them; what a round holds on to. -/
import Derived.Test.YtkndgdokpbbdpaaDoorDHandle
import Derived.Test.YtkndgdokpbbdpaaDoorMask
import Derived.Deep.Slices
namespace Go.Proofs.YtkndgdokpbbdpaaDoor
open Go.RowKit

/-- A step of a script. -/
structure Op6 where
  kind : Int
  i : Int
  old : Int
  new : Int
  far : Bool
  wide : Bool

def Op6.val (o : Op6) : Value := .agg #[.int .i64 o.kind, .int .i64 o.i, .int .u64 o.old, .int .u64 o.new, .bool o.far, .bool o.wide]
def Op6.cell (o : Op6) : Nat → Value
  | 0 => .int .i64 o.kind
  | 1 => .int .i64 o.i
  | 2 => .int .u64 o.old
  | 3 => .int .u64 o.new
  | 4 => .bool o.far
  | _ => .bool o.wide
/-- The word, and the values, that are meant. -/
def Op6.word (o : Op6) : Int := if o.far then o.i else bits .and .i64 o.i 7
def Op6.o (o : Op6) : Int := if o.wide then o.old else bits .and .u64 o.old 3
def Op6.v (o : Op6) : Int := if o.wide then o.new else bits .and .u64 o.new 3

/-- A row of steps that is read. -/
def ORow (w : World) (A : Option Addr) (len : Nat) (g : Nat → Op6) : Prop := 0 < len → ∃ b off, A = some ⟨b, off, none⟩ ∧ b < w.heap.size ∧ ∀ j, j < len → ∀ q, q < 6 → w.cell? ⟨b, off + j * 6 + q, none⟩ = some ((g j).cell q)

set_option maxHeartbeats 400000 in
theorem word_any (o : Op6) (w : World) : Calls Tryd.prog 10 #[o.val] w fun e w' => e = .returned (.int .i64 o.word) ∧ Below w.heap.size w w' := by
  unfold Op6.val Op6.word
  cases o.far
  all_goals
    go_enter Tryd.func10, Tryd.ntmps10
    go_wp2
    go_ret
    exact ⟨rfl, (Below.refl _ _).alloc (Nat.le_refl _) _⟩

set_option maxHeartbeats 400000 in
theorem vals_any (o : Op6) (w : World) : Calls Tryd.prog 11 #[o.val] w fun e w' => e = .returned (.tuple #[.int .u64 o.o, .int .u64 o.v]) ∧ Below w.heap.size w w' := by
  unfold Op6.val Op6.o Op6.v
  cases o.wide
  all_goals
    go_enter Tryd.func11, Tryd.ntmps11
    go_wp2_with fail
    go_quiet (fail)
    go_wp2
    go_ret2
    exact ⟨rfl, below_drewN ((Below.refl _ _).alloc (Nat.le_refl _) _) _⟩

/-- What a round holds on to: the arena, the step that is played, what was there before. -/
structure Rd (w0 : World) (p c : Nat) (x : St) (d : Nat) (o : Op6) (W : World) : Prop where
  ar : ArS W p c 8 x
  op : W.rowIs d 30 6 o.cell
  be : Below w0.heap.size w0 W
  dp : d ≠ p
  dc : d ≠ c

theorem Rd.below {w0 : World} {p c : Nat} {x : St} {d : Nat} {o : Op6} {W W' : World} (h : Rd w0 p c x d o W) (b : Below W.heap.size W W') : Rd w0 p c x d o W' :=
  ⟨Ar.below h.ar b h.ar.obj.lt h.ar.row.lt, h.op.of_block (b.block d h.op.lt), h.be.trans (b.mono h.be.size), h.dp, h.dc⟩
theorem Rd.only {w0 : World} {p c : Nat} {x x' : St} {d : Nat} {o : Op6} {W W' : World} (h : Rd w0 p c x d o W) (b : Only p c W W') (h' : ArS W' p c 8 x') (h1 : w0.heap.size ≤ p) (h2 : w0.heap.size ≤ c) : Rd w0 p c x' d o W' :=
  ⟨h', h.op.of_block (b.block d h.op.lt h.dp h.dc), h.be.trans (b.below h.be.size h1 h2), h.dp, h.dc⟩
theorem Rd.start {w0 wr : World} {p c : Nat} {x : St} (h : ArS wr p c 8 x) (b : Below w0.heap.size w0 wr) (o : Op6) :
    Rd w0 p c x wr.heap.size o (wr.alloc (.cells #[.int .i64 o.kind, .int .i64 o.i, .int .u64 o.old, .int .u64 o.new, .bool o.far, .bool o.wide] 30)) :=
  ⟨Ar.alloc h _, World.rowIs_alloc wr _ 30 o.cell (by intro j hj; match j, hj with | 0, _ => rfl | 1, _ => rfl | 2, _ => rfl | 3, _ => rfl | 4, _ => rfl | 5, _ => rfl), b.alloc b.size _, by have := h.obj.lt; omega, by have := h.row.lt; omega⟩
end Go.Proofs.YtkndgdokpbbdpaaDoor
