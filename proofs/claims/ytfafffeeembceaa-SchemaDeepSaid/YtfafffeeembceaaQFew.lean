/- At most 9 types, of 7 fields each. -/
import Derived.Test.YtfafffeeembceaaQApp
namespace Go.Proofs.Ytfafffeeembceaa
open Go.ChangeShapes Go.WideShapes Go.ChangeAt Go.RowKit
def cutS (s : Sch) : Sch := ⟨min s.n 9, fun i => min (s.len i) 7, s.k, s.t⟩
theorem FRow.cut {W : World} {A : Option Addr} {L L' : Nat} {k t : Nat → Int} (h : FRow W A L k t) (hL : L' ≤ L) : FRow W A L' k t :=
  ⟨fun h0 => by
    obtain ⟨b, off, hA, hlt, hc⟩ := h.some_ (by omega)
    exact ⟨b, off, hA, hlt, fun j hj => hc j (by omega)⟩⟩

/-- A schema's types, as they are handed in. -/
def RawAt (W : World) (A : Option Addr) (s : Sch) : Prop := 0 < s.n → ∃ b off, A = some ⟨b, off, none⟩ ∧ b < W.heap.size ∧ ∀ i, i < s.n → ∃ Ai ci, W.cell? ⟨b, off + i, none⟩ = some (.slice Ai (s.len i) ci) ∧ s.len i ≤ ci ∧ FRow W Ai (s.len i) (s.k i) (s.t i)
theorem RawAt.below {W W' : World} {A : Option Addr} {s : Sch} (h : RawAt W A s) (hb : Below W.heap.size W W') : RawAt W' A s := fun h0 => by
  obtain ⟨b, off, hA, hlt, hc⟩ := h h0
  refine ⟨b, off, hA, Nat.lt_of_lt_of_le hlt hb.size, fun i hi => ?_⟩
  obtain ⟨Ai, ci, h1, h2, h3⟩ := hc i hi
  exact ⟨Ai, ci, (hb.cell (p := ⟨b, off + i, none⟩) hlt).trans h1, h2, h3.below hb⟩


end Go.Proofs.Ytfafffeeembceaa
