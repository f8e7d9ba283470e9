/- An argument that is a row of sets. -/
import Derived.Test.YtkpffnihnhlghaaGreatDoorHLaid
import Derived.Test.YtkpffnihnhlghaaGreatDoorHOpen
import Derived.Deep.Slices
namespace Go.Proofs.YtkpffnihnhlghaaGreatDoor
open Go.ChangeShapes Go.WideShapes Go.ChangeAt Go.RowKit Go.Deep
theorem cells_set10 : Tryz.prog.cellsOf 55 = 5 := by kernel_rfl

set_option maxRecDepth 100000 in
theorem set_cells {H : Type} {enc : TypeId × Value → H} {W : World} {n : Nat} {cs : List Value} {x : DataW H × List MemPlace}
    (h : DataW.trod enc Tryz.prog W 0 (fun _ => true) true n 55 cs = some x) : ∃ o : S5, cs = [o.cell 0, o.cell 1, o.cell 2, o.cell 3, o.cell 4] := by
  obtain ⟨xs, n', _, _, hlen, hxl, hg⟩ := DataW.trod_struct Tryz.underlying55 h
  rw [cells_set10] at hlen
  match cs, hlen with
  | [v0, v1, v2, v3, v4], _ =>
    match xs, hxl with
    | [x0, x1, x2, x3, x4], _ =>
      have g0 := hg 0 _ rfl
      have g1 := hg 1 _ rfl
      have g2 := hg 2 _ rfl
      have g3 := hg 3 _ rfl
      have g4 := hg 4 _ rfl
      simp only [List.getElem?_cons_zero, List.getElem?_cons_succ] at g0 g1 g2 g3 g4
      obtain ⟨a0, e0, _, _⟩ := DataW.trod_int Tryz.underlying3 g0
      obtain ⟨a1, e1, _, _⟩ := DataW.trod_int Tryz.underlying3 g1
      obtain ⟨a2, e2, _, w2⟩ := DataW.trod_int Tryz.underlying53 g2
      obtain ⟨a3, e3, _, w3⟩ := DataW.trod_int Tryz.underlying34 g3
      obtain ⟨a4, e4, _⟩ := DataW.trod_bool Tryz.underlying4 g4
      injection e0 with e0
      injection e1 with e1
      injection e2 with e2
      injection e3 with e3
      injection e4 with e4
      subst e0 e1 e2 e3 e4
      obtain ⟨p2, q2⟩ := u32_fits w2
      obtain ⟨p3, q3⟩ := u64_fits w3
      obtain ⟨m2, rfl⟩ : ∃ m : Nat, a2 = m := ⟨a2.toNat, by omega⟩
      obtain ⟨m3, rfl⟩ : ∃ m : Nat, a3 = m := ⟨a3.toNat, by omega⟩
      exact ⟨⟨a0, a1, m2, m3, a4, by omega, by omega⟩, rfl⟩

set_option maxRecDepth 100000 in
theorem sets_of_trod {H : Type} {enc : TypeId × Value → H} {W : World} {A : Option Addr} {len cap : Nat} {d : DataW H} {p : List MemPlace}
    (h : DataW.Trod enc Tryz.prog W 0 (fun _ => true) true 23 (.slice A len cap) d p) : len ≤ cap ∧ cap ≤ 9223372036854775807 ∧ ∃ f, SRow W A len f := by
  obtain ⟨fuel, hf⟩ := h
  rcases open_slice Tryz.underlying23 hf with ⟨hcs, _⟩ | ⟨a, len', cap', m, n, D, Pl, hcs, _, hl, hm, hmm, _, hi⟩
  · simp [Value.cells] at hcs
    obtain ⟨rfl, rfl, rfl⟩ := hcs
    exact ⟨Nat.le_refl _, by omega, fun _ => ⟨0, 0, 0, 0, false, by omega, by omega⟩, fun h => absurd h (by omega)⟩
  · simp [Value.cells] at hcs
    obtain ⟨rfl, rfl, rfl⟩ := hcs
    simp only [if_true] at hmm
    rw [cells_set10] at hi
    have hex : ∀ i, ∃ o : S5, i < len → ∀ q, q < 5 → W.cell? ((a.add (i * 5)).add q) = some (o.cell q) := fun i => by
      by_cases hil : i < len
      · obtain ⟨cs', hc, ht⟩ := hi i (by omega)
        obtain ⟨o, rfl⟩ := set_cells ht
        obtain ⟨_, _, hat⟩ := World.cells?_some hc
        exact ⟨o, fun _ q hq => by
          rw [hat q hq]
          match q, hq with
          | 0, _ => rfl
          | 1, _ => rfl
          | 2, _ => rfl
          | 3, _ => rfl
          | 4, _ => rfl⟩
      · exact ⟨⟨0, 0, 0, 0, false, by omega, by omega⟩, fun h => absurd h hil⟩
    obtain ⟨f, hf'⟩ := Classical.axiomOfChoice hex
    refine ⟨hl, by unfold maxLen at hm; omega, f, fun h0 => ?_⟩
    obtain ⟨b, off, spot⟩ := a
    have c0 := hf' 0 h0 0 (by omega)
    have hsp : spot = none := by
      have := World.cell?_spot c0
      simpa [Addr.add] using this
    subst hsp
    refine ⟨b, off, rfl, ?_, fun j hj q hq => ?_⟩
    · rw [addr_add, addr_add] at c0
      unfold World.cell? at c0
      rcases Nat.lt_or_ge b W.heap.size with h | h
      · exact h
      · simp [Array.getElem?_eq_none h] at c0
    · have := hf' j hj q hq
      rw [addr_add, addr_add] at this
      exact this

end Go.Proofs.YtkpffnihnhlghaaGreatDoor
