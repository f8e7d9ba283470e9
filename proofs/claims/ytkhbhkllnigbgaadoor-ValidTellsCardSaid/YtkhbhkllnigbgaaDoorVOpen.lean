/- Arguments of the laws of layer 8. -/
import Derived.Test.YtkhbhkllnigbgaaDoorTOpen
import Derived.Test.YtkhbhkllnigbgaaDoorQAll
namespace Go.Proofs.YtkhbhkllnigbgaaDoor
open Go.ChangeShapes Go.WideShapes Go.ChangeAt Go.RowKit Go.Deep Go.Joins
theorem cells_spec8 : Tryd.prog.cellsOf 25 = 3 := by kernel_rfl
set_option maxRecDepth 100000 in
theorem open_spec8 {H : Type} {enc : TypeId × Value → H} {W : World} {r : Reach} {b0 : Nat} {v : Value} {d : DataW H} {p : List MemPlace} (hv : Value.okWide Tryd.prog W r b0 25 v) (h : DataW.Trod enc Tryd.prog W 0 (fun _ => true) true 25 v d p) :
    ∃ (A1 : Option Addr) (L1 c1 : Nat) (A2 : Option Addr) (L2 c2 : Nat) (T : Int), v = .agg #[.slice A1 L1 c1, .slice A2 L2 c2, .int .i64 T] ∧ NumsAt W A1 L1 c1 ∧ NumsAt W A2 L2 c2 := by
  obtain ⟨v0, v1, v2, y0, y1, y2, n, rfl, _, _, g0, g1, g2⟩ := open_agg3 Tryd.underlying25 (by kernel_rfl) cells_spec8 hv h
  obtain ⟨A1, L1, c1, rfl, h1⟩ := nums_of_trod g0
  obtain ⟨A2, L2, c2, rfl, h2⟩ := nums_of_trod g1
  obtain ⟨T, e, _, _⟩ := DataW.trod_int Tryd.underlying3 g2
  injection e with e
  subst e
  exact ⟨A1, L1, c1, A2, L2, c2, T, rfl, h1, h2⟩
theorem cells_u64 : Tryd.prog.cellsOf 26 = 1 := by kernel_rfl
theorem wrow_of_trod {H : Type} {enc : TypeId × Value → H} {W : World} {A : Option Addr} {len cap : Nat} {d : DataW H} {p : List MemPlace}
    (h : DataW.Trod enc Tryd.prog W 0 (fun _ => true) true 22 (.slice A len cap) d p) : len ≤ cap ∧ cap ≤ 9223372036854775807 ∧ ∃ f, WRow W A len f := by
  obtain ⟨fuel, hf⟩ := h
  rcases open_ints Tryd.underlying22 Tryd.underlying26 cells_u64 hf with ⟨hcs, _⟩ | ⟨a, len', cap', zs, hcs, _, hl, hm, hlen, _, hcell, hwf⟩
  · simp [Value.cells] at hcs
    obtain ⟨rfl, rfl, rfl⟩ := hcs
    exact ⟨Nat.le_refl _, by omega, fun _ => 0, fun _ h => absurd h (by omega), fun h => absurd h (by omega)⟩
  · simp [Value.cells] at hcs
    obtain ⟨rfl, rfl, rfl⟩ := hcs
    simp only [if_true] at hlen
    have hb : ∀ i, i < len → 0 ≤ zs.getD i 0 ∧ zs.getD i 0 < 18446744073709551616 := fun i hi => by
      have hz : zs.getD i 0 = zs[i] := by simp [List.getD, List.getElem?_eq_getElem (show i < zs.length by omega)]
      rw [hz]
      have := u64_fits (hwf zs[i] (List.getElem_mem _))
      omega
    refine ⟨hl, by unfold maxLen at hm; omega, fun i => (zs.getD i 0).toNat, fun j hj => by have := hb j hj; omega, fun h0 => ?_⟩
    obtain ⟨b, off, spot⟩ := a
    have c0 := hcell 0 (by omega)
    have hsp : spot = none := by
      have := World.cell?_spot c0
      simpa [Addr.add] using this
    subst hsp
    refine ⟨b, off, rfl, ?_, fun j hj => ?_⟩
    · rw [addr_add] at c0
      exact block_lt c0
    · have := hcell j (by omega)
      rw [addr_add] at this
      rw [this]
      have h2 := hb j hj
      simp only [Option.some.injEq, Value.int.injEq, true_and]
      omega


end Go.Proofs.YtkhbhkllnigbgaaDoor
