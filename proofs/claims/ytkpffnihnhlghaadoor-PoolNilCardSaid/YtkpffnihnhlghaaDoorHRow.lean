/- Rows of numbers: the same; heads. -/
import Derived.Test.YtkpffnihnhlghaaDoorHMade
import Derived.Test.YtkpffnihnhlghaaDoorPOnce
import Derived.Deep.RegionHeld3
import Derived.Deep.Cut
namespace Go.Proofs.YtkpffnihnhlghaaDoor
open Go.RowKit
/-- A row of numbers. -/
def IRw (W : World) (v : Value) (L : List Int) : Prop := ∃ A cap, v = .slice A L.length cap ∧ (0 < L.length → ∃ b o, A = some ⟨b, o, none⟩ ∧ b < W.heap.size ∧ ∀ (j : Nat) (h : j < L.length), W.cell? ⟨b, o + j, none⟩ = some (.int .i64 L[j]))
theorem IRw.below {W W' : World} {v : Value} {L : List Int} (h : IRw W v L) (hb : Below W.heap.size W W') : IRw W' v L := by
  obtain ⟨A, cap, e, hc⟩ := h
  refine ⟨A, cap, e, fun h0 => ?_⟩
  obtain ⟨b, o, h1, h2, h3⟩ := hc h0
  exact ⟨b, o, h1, Nat.lt_of_lt_of_le h2 hb.size, fun j hj => (hb.cell (p := ⟨b, o + j, none⟩) h2).trans (h3 j hj)⟩
theorem own_irw {W : World} {B : Nat} {v : Value} {L : List Int} (h : W.ownsRow B 3 1 v L.length (L.map (Value.int .i64))) : IRw W v L := by
  have h' := h
  rcases h with ⟨hl, (⟨hn, h0⟩ | ⟨g, cap, cur, e', b1, b2, b3⟩)⟩
  · exact ⟨none, 0, by rw [hn, h0], fun h => by omega⟩
  · refine ⟨some ⟨g, 0, none⟩, cap, e', fun _ => ⟨g, 0, rfl, (Array.getElem?_eq_some_iff.1 b2).1, fun j hj => ?_⟩⟩
    subst e'
    have hc := h'.cellAt j (by omega)
    rw [Nat.zero_add, hc]
    simp [hj]
theorem irw_box (w : World) (L : List Int) (t : TypeId) : IRw (w.alloc (.cells (L.map (Value.int .i64)).toArray t)) (.slice (some ⟨w.heap.size, 0, none⟩) L.length L.length) L :=
  ⟨_, _, rfl, fun _ => ⟨w.heap.size, 0, rfl, by simp, fun j hj => by
    have h := World.rowIs_alloc w (L.map (Value.int .i64)).toArray t (fun j => .int .i64 (L.getD j 0)) (by intro j hj'; simp at hj'; simp [hj', List.getD])
    have h2 := h.cell (i := j) (by simpa using hj)
    rw [Nat.zero_add, h2]
    simp [List.getD, hj]⟩⟩

end Go.Proofs.YtkpffnihnhlghaaDoor
