/- An argument that is a row of words. -/
import Derived.Test.YthelhimaoeimbaaLawTexts
import Derived.ChangeSlices
namespace Go.Proofs.Ythelhimaoeimbaa
open Go.ChangeShapes Go.WideShapes Go.ChangeAt Go.RowKit

theorem addr_add (b off k : Nat) : (⟨b, off, none⟩ : Addr).add k = ⟨b, off + k, none⟩ := by
  unfold Addr.add
  by_cases h : k = 0 <;> simp [h]

theorem wrow_of_trod {H : Type} {enc : TypeId × Value → H} {W : World} {A : Option Addr} {len cap : Nat} {d : DataW H} {p : List MemPlace}
    (h : DataW.Trod enc Try.prog W 0 (fun _ => true) true 22 (.slice A len cap) d p) : len ≤ cap ∧ cap ≤ 9223372036854775807 ∧ ∃ f, WRow W A len f := by
  obtain ⟨fuel, hf⟩ := h
  rcases open_ints Try.underlying22 Try.underlying31 cells31 hf with ⟨hcs, _⟩ | ⟨a, len', cap', zs, hcs, _, hl, hm, hlen, _, hcell, hwf⟩
  · simp [Value.cells] at hcs
    obtain ⟨rfl, rfl, rfl⟩ := hcs
    exact ⟨Nat.le_refl _, by omega, fun _ => 0, fun _ h => absurd h (by omega), fun h => absurd h (by omega)⟩
  · simp [Value.cells] at hcs
    obtain ⟨rfl, rfl, rfl⟩ := hcs
    simp only [if_true] at hlen
    have hb : ∀ i, i < len → 0 ≤ zs.getD i 0 ∧ zs.getD i 0 < 18446744073709551616 := fun i hi => by
      have hz : zs.getD i 0 = zs[i] := by simp [List.getD, List.getElem?_eq_getElem (show i < zs.length by omega)]
      rw [hz]
      have := bounds_u64 (hwf zs[i] (List.getElem_mem _))
      omega
    refine ⟨hl, by unfold maxLen at hm; omega, fun i => (zs.getD i 0).toNat, fun j hj => by have := hb j hj; omega, fun h0 => ?_⟩
    obtain ⟨b, off, spot⟩ := a
    have c0 := hcell 0 (by omega)
    have hsp : spot = none := by
      have := World.cell?_spot c0
      simpa [Addr.add] using this
    subst hsp
    refine ⟨b, off, rfl, ?_, fun j hj => ?_⟩
    · rw [addr_add] at c0
      unfold World.cell? at c0
      rcases Nat.lt_or_ge b W.heap.size with h | h
      · exact h
      · simp [Array.getElem?_eq_none h] at c0
    · have := hcell j (by omega)
      rw [addr_add] at this
      rw [this]
      have h2 := hb j hj
      simp only [Option.some.injEq, Value.int.injEq, true_and]
      omega

end Go.Proofs.Ythelhimaoeimbaa
