/- Arguments: rows of numbers, of words, schemas; errors.errorType, as it is laid. -/
import Derived.Test.YtfafffeeembceaaDoorQFew
import Derived.Test.YtfafffeeembceaaDoorQMade
import Derived.Deep.Slices
import Derived.ProofKit
import Derived.OpenShut
import Derived.ShutString
import Derived.ChangeOld
import Derived.ChangeSlices
import Derived.ChangeSame
namespace Go.Proofs.YtfafffeeembceaaDoor
open Go.ChangeShapes Go.WideShapes Go.ChangeAt Go.RowKit Go.Deep
theorem own : ownKnob Tryd.prog.godebug = none := by kernel_rfl
theorem laidOut : laidOutB Tryd.prog = true := by kernel_rfl
theorem cells_int : Tryd.prog.cellsOf 3 = 1 := by kernel_rfl
theorem cells_u64 : Tryd.prog.cellsOf 34 = 1 := by kernel_rfl
theorem cells_field : Tryd.prog.cellsOf 48 = 2 := by kernel_rfl
theorem cells_fs : Tryd.prog.cellsOf 46 = 1 := by kernel_rfl

set_option maxRecDepth 100000 in
theorem field_cells {H : Type} {enc : TypeId × Value → H} {W : World} {n : Nat} {cs : List Value} {x : DataW H × List MemPlace}
    (h : DataW.trod enc Tryd.prog W 0 (fun _ => true) true n 48 cs = some x) : ∃ o : Int × Int, cs = [.int .i64 o.1, .int .i64 o.2] := by
  obtain ⟨xs, n', _, _, hlen, hxl, hg⟩ := DataW.trod_struct Tryd.underlying48 h
  rw [cells_field] at hlen
  match cs, hlen with
  | [v0, v1], _ =>
    match xs, hxl with
    | [x0, x1], _ =>
      have g0 := hg 0 _ rfl
      have g1 := hg 1 _ rfl
      simp only [List.getElem?_cons_zero, List.getElem?_cons_succ] at g0 g1
      obtain ⟨a0, e0, _, _⟩ := DataW.trod_int Tryd.underlying3 g0
      obtain ⟨a1, e1, _, _⟩ := DataW.trod_int Tryd.underlying3 g1
      injection e0 with e0
      injection e1 with e1
      subst e0 e1
      exact ⟨(a0, a1), rfl⟩
theorem block_lt {W : World} {b o : Nat} {v : Value} (h : W.cell? ⟨b, o, none⟩ = some v) : b < W.heap.size := World.block_lt_of_cell? W _ h

theorem frow_of_trod {H : Type} {enc : TypeId × Value → H} {W : World} {fuel : Nat} {v : Value} {x : DataW H × List MemPlace}
    (h : DataW.trod enc Tryd.prog W 0 (fun _ => true) true fuel 46 [v] = some x) : ∃ (A : Option Addr) (L c : Nat) (f : Nat → Int × Int), v = .slice A L c ∧ L ≤ c ∧ c ≤ 9223372036854775807 ∧ FRow W A L (fun j => (f j).1) (fun j => (f j).2) := by
  rcases open_slice Tryd.underlying46 h with ⟨hcs, _⟩ | ⟨a, len, cap, m, n, D, Pl, hcs, _, hl, hm, hmm, _, hi⟩
  · simp at hcs
    subst hcs
    exact ⟨none, 0, 0, fun _ => (0, 0), rfl, Nat.le_refl _, by omega, ⟨fun h => absurd h (by omega)⟩⟩
  · simp at hcs
    subst hcs
    simp only [if_true] at hmm
    rw [cells_field] at hi
    have hex : ∀ i, ∃ o : Int × Int, i < len → W.cell? ((a.add (i * 2)).add 0) = some (.int .i64 o.1) ∧ W.cell? ((a.add (i * 2)).add 1) = some (.int .i64 o.2) := fun i => by
      by_cases hil : i < len
      · obtain ⟨cs', hc, ht⟩ := hi i (by omega)
        obtain ⟨o, rfl⟩ := field_cells ht
        obtain ⟨_, _, hat⟩ := World.cells?_some hc
        exact ⟨o, fun _ => ⟨by rw [hat 0 (by simp)]; rfl, by rw [hat 1 (by simp)]; rfl⟩⟩
      · exact ⟨(0, 0), fun h => absurd h hil⟩
    obtain ⟨f, hf⟩ := Classical.axiomOfChoice hex
    refine ⟨some a, len, cap, f, rfl, hl, by unfold maxLen at hm; omega, ⟨fun h0 => ?_⟩⟩
    obtain ⟨b, off, spot⟩ := a
    have c0 := (hf 0 h0).1
    have hsp : spot = none := by
      have := World.cell?_spot c0
      simpa [Addr.add] using this
    subst hsp
    refine ⟨b, off, rfl, ?_, fun j hj => ?_⟩
    · rw [addr_add, addr_add] at c0
      exact block_lt c0
    · obtain ⟨k1, k2⟩ := hf j hj
      rw [addr_add, addr_add] at k1 k2
      exact ⟨k1, k2⟩

theorem raw_of_trod {H : Type} {enc : TypeId × Value → H} {W : World} {A : Option Addr} {len cap : Nat} {d : DataW H} {p : List MemPlace}
    (h : DataW.Trod enc Tryd.prog W 0 (fun _ => true) true 23 (.slice A len cap) d p) : ∃ s : Sch, s.n = len ∧ (∀ i, i < s.n → s.len i ≤ 9223372036854775807) ∧ RawAt W A s := by
  obtain ⟨fuel, hf⟩ := h
  rcases open_slice1 Tryd.underlying23 cells_fs hf with ⟨hcs, _⟩ | ⟨a, len', cap', m, n, V, D, Pl, hcs, _, hl, hm, hmm, _, hi⟩
  · simp [Value.cells] at hcs
    obtain ⟨rfl, rfl, rfl⟩ := hcs
    exact ⟨⟨0, fun _ => 0, fun _ _ => 0, fun _ _ => 0⟩, rfl, fun i hi => absurd hi (Nat.not_lt_zero i), fun h => absurd h (Nat.lt_irrefl 0)⟩
  · simp [Value.cells] at hcs
    obtain ⟨rfl, rfl, rfl⟩ := hcs
    simp only [if_true] at hmm
    have hex : ∀ i, ∃ o : (Option Addr × Nat × Nat) × (Nat → Int × Int), i < len → W.cell? (a.add i) = some (.slice o.1.1 o.1.2.1 o.1.2.2) ∧ o.1.2.1 ≤ o.1.2.2 ∧ o.1.2.2 ≤ 9223372036854775807 ∧ FRow W o.1.1 o.1.2.1 (fun j => (o.2 j).1) (fun j => (o.2 j).2) := fun i => by
      by_cases hil : i < len
      · obtain ⟨h1, h2⟩ := hi i (by omega)
        obtain ⟨A', L', c', f, e, k1, k2, k3⟩ := frow_of_trod h2
        exact ⟨((A', L', c'), f), fun _ => ⟨by rw [h1, e], k1, k2, k3⟩⟩
      · exact ⟨((none, 0, 0), fun _ => (0, 0)), fun h => absurd h hil⟩
    obtain ⟨f, hf'⟩ := Classical.axiomOfChoice hex
    refine ⟨⟨len, fun i => (f i).1.2.1, fun i j => ((f i).2 j).1, fun i j => ((f i).2 j).2⟩, rfl, fun i hi => ?_, fun h0 => ?_⟩
    · obtain ⟨_, k1, k2, _⟩ := hf' i hi
      exact Nat.le_trans k1 k2
    · obtain ⟨b, off, spot⟩ := a
      have c0 := (hf' 0 h0).1
      have hsp : spot = none := by
        have := World.cell?_spot c0
        simpa [Addr.add] using this
      subst hsp
      refine ⟨b, off, rfl, ?_, fun i hi => ?_⟩
      · rw [addr_add] at c0
        exact block_lt c0
      · obtain ⟨k1, k2, k3, k4⟩ := hf' i hi
        rw [addr_add] at k1
        exact ⟨_, _, k1, k2, k4⟩

theorem irow_of_trod {H : Type} {enc : TypeId × Value → H} {W : World} {A : Option Addr} {len cap : Nat} {d : DataW H} {p : List MemPlace}
    (h : DataW.Trod enc Tryd.prog W 0 (fun _ => true) true 24 (.slice A len cap) d p) : len ≤ 9223372036854775807 ∧ IRow W A len := by
  obtain ⟨fuel, hf⟩ := h
  rcases open_ints Tryd.underlying24 Tryd.underlying3 cells_int hf with ⟨hcs, _⟩ | ⟨a, len', cap', zs, hcs, _, hl, hm, hlen, _, hcell, hwf⟩
  · simp [Value.cells] at hcs
    obtain ⟨rfl, rfl, rfl⟩ := hcs
    exact ⟨by omega, fun h => absurd h (by omega)⟩
  · simp [Value.cells] at hcs
    obtain ⟨rfl, rfl, rfl⟩ := hcs
    simp only [if_true] at hlen
    refine ⟨by unfold maxLen at hm; omega, fun h0 => ?_⟩
    obtain ⟨b, off, spot⟩ := a
    have c0 := hcell 0 (by omega)
    have hsp : spot = none := by
      have := World.cell?_spot c0
      simpa [Addr.add] using this
    subst hsp
    refine ⟨b, off, rfl, ?_, fun j hj => ⟨zs.getD j 0, ?_⟩⟩
    · rw [addr_add] at c0
      exact block_lt c0
    · have := hcell j (by omega)
      rw [addr_add] at this
      exact this

theorem wrow_of_trod {H : Type} {enc : TypeId × Value → H} {W : World} {A : Option Addr} {len cap : Nat} {d : DataW H} {p : List MemPlace}
    (h : DataW.Trod enc Tryd.prog W 0 (fun _ => true) true 31 (.slice A len cap) d p) : len ≤ cap ∧ cap ≤ 9223372036854775807 ∧ ∃ f, WRow W A len f := by
  obtain ⟨fuel, hf⟩ := h
  rcases open_ints Tryd.underlying31 Tryd.underlying34 cells_u64 hf with ⟨hcs, _⟩ | ⟨a, len', cap', zs, hcs, _, hl, hm, hlen, _, hcell, hwf⟩
  · simp [Value.cells] at hcs
    obtain ⟨rfl, rfl, rfl⟩ := hcs
    exact ⟨Nat.le_refl _, by omega, fun _ => 0, fun _ h => absurd h (by omega), fun h => absurd h (by omega)⟩
  · simp [Value.cells] at hcs
    obtain ⟨rfl, rfl, rfl⟩ := hcs
    simp only [if_true] at hlen
    have hb : ∀ i, i < len → 0 ≤ zs.getD i 0 ∧ zs.getD i 0 < 18446744073709551616 := fun i hi => by
      have hz : zs.getD i 0 = zs[i] := by simp [List.getD, List.getElem?_eq_getElem (show i < zs.length by omega)]
      rw [hz]
      have := bounds_u64 (hwf zs[i] (List.getElem_mem _))
      omega
    refine ⟨hl, by unfold maxLen at hm; omega, fun i => (zs.getD i 0).toNat, fun j hj => by have := hb j hj; omega, fun h0 => ?_⟩
    obtain ⟨b, off, spot⟩ := a
    have c0 := hcell 0 (by omega)
    have hsp : spot = none := by
      have := World.cell?_spot c0
      simpa [Addr.add] using this
    subst hsp
    refine ⟨b, off, rfl, ?_, fun j hj => ?_⟩
    · rw [addr_add] at c0
      exact block_lt c0
    · have := hcell j (by omega)
      rw [addr_add] at this
      rw [this]
      have h2 := hb j hj
      simp only [Option.some.injEq, Value.int.injEq, true_and]
      omega

theorem open_arr {H : Type} {enc : TypeId × Value → H} {P : Program} {w : World} {r : Reach} {b0 base : Nat} {spare : Nat → Bool} {held : Bool} {t e : TypeId} {n : Nat} {k : IntKind} {v : Value} {d : DataW H} {p : List MemPlace}
    (ht : P.underlying t = some (.array n e)) (he : P.underlying e = some (.int k)) (hce : P.cellsOf e = 1) (hct : P.cellsOf t = n)
    (hv : Value.okWide P w r b0 t v) (h : DataW.Trod enc P w base spare held t v d p) :
    ∃ zs : List Int, zs.length = n ∧ v = .agg (zs.map (Value.int k)).toArray ∧ ∀ z ∈ zs, (Lit.int k z).wf = true := by
  simp only [Value.okWide, ht] at hv
  obtain ⟨cs, rfl, hsz, _⟩ := hv
  obtain ⟨fuel, hf⟩ := h
  obtain ⟨xs, m, -, -, -, hxl, hx⟩ := DataW.trod_array ht hf
  have hc : ∀ i, i < n → ∃ z, cs[i]? = some (Value.int k z) ∧ (Lit.int k z).wf = true := by
    intro i hi
    have h1 := hx i hi
    rw [hce, Nat.mul_one, List.getElem?_eq_getElem (by omega)] at h1
    obtain ⟨z, hz, _, hw⟩ := DataW.trod_int he h1
    refine ⟨z, ?_, hw⟩
    have h2 : (((Value.agg cs).cells.toList.drop i).take 1)[0]? = some (Value.int k z) := by rw [hz]; rfl
    rw [List.getElem?_take_of_lt (by omega), List.getElem?_drop] at h2
    simpa [Value.cells] using h2
  have hz : ∀ i : Nat, ∃ z, i < n → cs[i]? = some (Value.int k z) ∧ (Lit.int k z).wf = true := by
    intro i
    by_cases hi : i < n
    · obtain ⟨z, h⟩ := hc i hi
      exact ⟨z, fun _ => h⟩
    · exact ⟨0, fun h => absurd h hi⟩
  obtain ⟨f, hf'⟩ := Classical.axiomOfChoice hz
  refine ⟨(List.range n).map f, by simp, ?_, ?_⟩
  · congr 1
    apply Array.ext_getElem?
    intro i
    by_cases hi : i < n
    · rw [(hf' i hi).1]; simp [hi]
    · rw [Array.getElem?_eq_none (by omega), Array.getElem?_eq_none (by simp; omega)]
  · intro z hz
    obtain ⟨i, hi, rfl⟩ := List.mem_map.1 hz
    exact (hf' i (List.mem_range.1 hi)).2
theorem cells_arr2 : Tryd.prog.cellsOf 25 = 2 := by kernel_rfl
set_option maxRecDepth 100000 in
theorem open_arr2 {H : Type} {enc : TypeId × Value → H} {w : World} {r : Reach} {b0 base : Nat} {spare : Nat → Bool} {held : Bool} {v : Value} {d : DataW H} {p : List MemPlace}
    (hv : Value.okWide Tryd.prog w r b0 25 v) (h : DataW.Trod enc Tryd.prog w base spare held 25 v d p) :
    ∃ a0 a1 : Int, v = .agg #[.int .i64 a0, .int .i64 a1] := by
  obtain ⟨zs, hl, rfl, _⟩ := open_arr Tryd.underlying25 Tryd.underlying3 cells_int cells_arr2 hv h
  match zs, hl with
  | [a0, a1], _ => exact ⟨a0, a1, rfl⟩

end Go.Proofs.YtfafffeeembceaaDoor
