/- An arena in memory; the counter; the closures; what a step does. -/
import Derived.Test.YtkhbhkllnigbgaaDoorRows
import Derived.WalkKit
import Derived.WalkSpells
import Derived.WalkLawsBesides
import Derived.Lib.Hide
import Derived.Laws.LoneSync
import Derived.Laws.Pointers
import Derived.Deep.OwnRows
import Derived.Deep.QuietTactic
import Derived.BigQuiet
import Derived.StillTailTactics
import Derived.Below
import Derived.IntWalk
import Derived.Deep.RegionWith
import Derived.BigRegion
namespace Go.Proofs.YtkhbhkllnigbgaaDoor
open Go.RowKit
/-- An arena's seven cells: its words, its steps, the last step's kind, word, value and change, its trouble. -/
def objC (c n : Nat) (s k i v : Int) (ch : Bool) (E : Value) : Nat → Value
  | 0 => .slice (some ⟨c, 0, none⟩) n n
  | 1 => .int .i64 s
  | 2 => .int .i64 k
  | 3 => .int .i64 i
  | 4 => .int .u64 v
  | 5 => .bool ch
  | _ => E

theorem mk_funcA (fn : Fn) (first cap : Array Value) (w : World) : (Instr.makeFunc fn first cap).run Tryd.prog w = .ok (.func fn first cap) w := rfl

/-- f, but at m it is x. -/
def put (f : Nat → Int) (m : Nat) (x : Int) : Nat → Int := fun j => if j = m then x else f j
/-- Only blocks p and c of what was there have changed. -/
structure Only (p c : Nat) (w w' : World) : Prop where
  os : w'.os = w.os
  tape : w'.tape = w.tape
  output : w'.output = w.output
  size : w.heap.size ≤ w'.heap.size
  block : ∀ k, k < w.heap.size → k ≠ p → k ≠ c → w'.heap[k]? = w.heap[k]?

theorem Only.refl (p c : Nat) (w : World) : Only p c w w := ⟨rfl, rfl, rfl, Nat.le_refl _, fun _ _ _ _ => rfl⟩
theorem Only.trans {p c : Nat} {a b d : World} (h : Only p c a b) (k : Only p c b d) : Only p c a d :=
  ⟨k.os.trans h.os, k.tape.trans h.tape, k.output.trans h.output, Nat.le_trans h.size k.size, fun i hi h1 h2 => (k.block i (Nat.lt_of_lt_of_le hi h.size) h1 h2).trans (h.block i hi h1 h2)⟩
theorem Only.of_below {p c : Nat} {a b : World} (h : Below a.heap.size a b) : Only p c a b := ⟨h.os, h.tape, h.output, h.size, fun i hi _ _ => h.block i hi⟩
theorem Only.alloc {p c : Nat} {a b : World} (h : Only p c a b) (o : Obj) : Only p c a (b.alloc o) := h.trans (Only.of_below ((Below.refl _ _).alloc (Nat.le_refl _) o))
theorem Only.drew {p c : Nat} {a b : World} (h : Only p c a b) : Only p c a b.drew := ⟨h.os, h.tape, h.output, h.size, h.block⟩
theorem Only.set {p c : Nat} {a b : World} (h : Only p c a b) {q : Addr} (hq : q.block = p ∨ q.block = c ∨ a.heap.size ≤ q.block) (u : Value) : Only p c a (b.setCell q u) := by
  have h1 := (Below.refl 0 b).setCell (p := q) (Nat.zero_le _) u
  refine ⟨h1.os.trans h.os, h1.tape.trans h.tape, h1.output.trans h.output, Nat.le_trans h.size h1.size, fun i hi e1 e2 => ?_⟩
  rw [Below.heap_setCell b q u i (by rcases hq with e | e | e <;> omega)]
  exact h.block i hi e1 e2
theorem Only.below {p c B : Nat} {a b : World} (h : Only p c a b) (hB : B ≤ a.heap.size) (h1 : B ≤ p) (h2 : B ≤ c) : Below B a b := ⟨h.os, h.tape, h.output, h.size, fun i hi => h.block i (by omega) (by omega) (by omega)⟩
theorem Only.begun (w : World) (p c : Nat) (a b d e f : Value) (o : Obj) :
    Only p c w ((((((w.setCell ⟨p, 1, none⟩ a).setCell ⟨p, 2, none⟩ b).setCell ⟨p, 3, none⟩ d).setCell ⟨p, 4, none⟩ e).setCell ⟨p, 5, none⟩ f).alloc o) :=
  ((((((Only.refl p c w).set (.inl rfl) _).set (.inl rfl) _).set (.inl rfl) _).set (.inl rfl) _).set (.inl rfl) _).alloc o

theorem Only.cell {p c : Nat} {w w' : World} (h : Only p c w w') {q : Nat} (o : Nat) (hq : q < w.heap.size) (h1 : q ≠ p) (h2 : q ≠ c) : w'.cell? ⟨q, o, none⟩ = w.cell? ⟨q, o, none⟩ := World.cell?_of_block (w := w) (h.block q hq h1 h2)
theorem put_at (f : Nat → Int) (m : Nat) (x : Int) : put f m x m = x := by simp [put]
theorem put_same (f : Nat → Int) (m : Nat) : put f m (f m) = f := by
  funext j
  by_cases e : j = m
  · subst e; simp [put]
  · simp [put, e]

/-- A step's begin: what the walk makes of memory, ahead of the word. -/
theorem begun_row (w : World) (p : Nat) (a b d e g : Value) : ((((((w.setCell ⟨p, 1, none⟩ a).setCell ⟨p, 2, none⟩ b).setCell ⟨p, 3, none⟩ d).setCell ⟨p, 4, none⟩ e).setCell ⟨p, 5, none⟩ g).alloc (.cells #[.int .i64 0, .int .i64 0, .int .u64 0, .bool false] 88)).rowIs w.heap.size 88 4 (fun j => (#[.int .i64 0, .int .i64 0, .int .u64 0, .bool false] : Array Value)[j]?.getD default) := by
  have h := World.rowIs_alloc (((((w.setCell ⟨p, 1, none⟩ a).setCell ⟨p, 2, none⟩ b).setCell ⟨p, 3, none⟩ d).setCell ⟨p, 4, none⟩ e).setCell ⟨p, 5, none⟩ g) #[.int .i64 0, .int .i64 0, .int .u64 0, .bool false] 88 (fun j => (#[.int .i64 0, .int .i64 0, .int .u64 0, .bool false] : Array Value)[j]?.getD default) (by intro j hj; match j, hj with | 0, _ => rfl | 1, _ => rfl | 2, _ => rfl | 3, _ => rfl)
  simp only [World.size_setCell] at h
  exact h

end Go.Proofs.YtkhbhkllnigbgaaDoor
