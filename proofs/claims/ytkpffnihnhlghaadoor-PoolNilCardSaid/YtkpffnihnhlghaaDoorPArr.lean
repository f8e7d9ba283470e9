/- Arrays that lie in memory; the state of the laws' regions. -/
import Derived.Test.YtkpffnihnhlghaaDoorPPlace2
namespace Go.Proofs.YtkpffnihnhlghaaDoor
open Go.RowKit
/-- An array of these cells lies at block b. -/
def ArrAt (w : World) (b : Nat) (t : TypeId) (cs : Array Value) : Prop := w.rowIs b t cs.size (fun j => cs[j]?.getD default)
theorem arrAt_box (w : World) (cs : Array Value) (t : TypeId) : ArrAt (w.alloc (.cells cs t)) w.heap.size t cs :=
  World.rowIs_alloc w cs t _ (by intro j hj; rw [Array.getElem?_eq_getElem hj, Option.getD_some])
theorem ArrAt.below {w w' : World} {b t : Nat} {cs : Array Value} (h : ArrAt w b t cs) (hb : Below w.heap.size w w') : ArrAt w' b t cs := h.of_block (hb.block _ h.lt)
theorem ArrAt.drew {w : World} {b t : Nat} {cs : Array Value} (h : ArrAt w b t cs) : ArrAt w.drew b t cs := h.below (Below.refl _ _).drew
theorem ArrAt.get {w : World} {b t : Nat} {cs : Array Value} (h : ArrAt w b t cs) (j : Nat) (hj : j < cs.size) : w.cell? ⟨b, j, none⟩ = cs[j]? := by
  rw [World.rowIs.cell h hj, Array.getElem?_eq_getElem hj, Option.getD_some]
theorem ArrAt.nine {w : World} {b t : Nat} {a0 a1 a2 a3 a4 a5 a6 a7 a8 : Value} (h : ArrAt w b t #[a0, a1, a2, a3, a4, a5, a6, a7, a8]) : w.cell? ⟨b, 0, none⟩ = some a0 ∧ w.cell? ⟨b, 1, none⟩ = some a1 ∧ w.cell? ⟨b, 2, none⟩ = some a2 ∧ w.cell? ⟨b, 3, none⟩ = some a3 ∧ w.cell? ⟨b, 4, none⟩ = some a4 ∧ w.cell? ⟨b, 5, none⟩ = some a5 ∧ w.cell? ⟨b, 6, none⟩ = some a6 ∧ w.cell? ⟨b, 7, none⟩ = some a7 ∧ w.cell? ⟨b, 8, none⟩ = some a8 :=
  ⟨h.get 0 (by simp), h.get 1 (by simp), h.get 2 (by simp), h.get 3 (by simp), h.get 4 (by simp), h.get 5 (by simp), h.get 6 (by simp), h.get 7 (by simp), h.get 8 (by simp)⟩
theorem ArrAt.two {w : World} {b t : Nat} {a0 a1 : Value} (h : ArrAt w b t #[a0, a1]) : w.cell? ⟨b, 0, none⟩ = some a0 ∧ w.cell? ⟨b, 1, none⟩ = some a1 := ⟨h.get 0 (by simp), h.get 1 (by simp)⟩

end Go.Proofs.YtkpffnihnhlghaaDoor
