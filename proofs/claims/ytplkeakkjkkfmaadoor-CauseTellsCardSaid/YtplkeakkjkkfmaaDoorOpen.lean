/- Steps that come in, opened to their cells; the tables that are laid. -/
import Derived.Test.YtplkeakkjkkfmaaDoorAwake
import Derived.ProofKit
import Derived.LaidMore
import Derived.Stop.Joined
import Derived.Deep.Slices
namespace Go.Proofs.YtplkeakkjkkfmaaDoor
open Go.ChangeShapes Go.WideShapes Go.ChangeAt Go.RowKit Go.Deep

theorem ownKnob_none : ownKnob Tryd.prog.godebug = none := by kernel_rfl
theorem laidOut : laidOutB Tryd.prog = true := by kernel_rfl
theorem cells55 : Tryd.prog.cellsOf 55 = 3 := by kernel_rfl
theorem cells3 : Tryd.prog.cellsOf 3 = 1 := by kernel_rfl
theorem cells4 : Tryd.prog.cellsOf 4 = 1 := by kernel_rfl

theorem addr_add (b off k : Nat) : (⟨b, off, none⟩ : Addr).add k = ⟨b, off + k, none⟩ := by
  unfold Addr.add
  by_cases h : k = 0 <;> simp [h]

set_option maxRecDepth 100000 in
theorem script_of_trod {H : Type} {enc : TypeId × Value → H} {W : World} {A : Option Addr} {len cap : Nat} {d : DataW H} {p : List MemPlace}
    (h : DataW.Trod enc Tryd.prog W 0 (fun _ => true) true 22 (.slice A len cap) d p) : Script W A len := by
  obtain ⟨fuel, hf⟩ := h
  rcases open_slice Tryd.underlying22 hf with ⟨hcs, _⟩ | ⟨a, len', cap', m, n, D, Pl, hcs, _, hl, hm, hmm, _, hi⟩
  · simp [Value.cells] at hcs
    obtain ⟨rfl, rfl, rfl⟩ := hcs
    exact ⟨Nat.zero_le _, fun i hi => absurd hi (by omega)⟩
  · simp [Value.cells] at hcs
    obtain ⟨rfl, rfl, rfl⟩ := hcs
    refine ⟨by omega, fun i hlt => ?_⟩
    simp only [if_true] at hmm
    obtain ⟨b, off, spot⟩ := a
    have hsp : spot = none := by
      obtain ⟨cs0, hc0, _⟩ := hi 0 (by omega)
      rw [cells55] at hc0
      obtain ⟨_, hl0, hat0⟩ := World.cells?_some hc0
      have h0 := hat0 0 (by omega)
      rw [List.getElem?_eq_getElem (by omega)] at h0
      have := World.cell?_spot h0
      simpa [Addr.add] using this
    subst hsp
    obtain ⟨cs, hc, ht⟩ := hi i (by omega)
    rw [cells55, addr_add] at hc
    obtain ⟨_, hcl, hat⟩ := World.cells?_some hc
    obtain ⟨xs, k, _, _, _, hx3, hfs⟩ := DataW.trod_struct Tryd.underlying55 ht
    obtain ⟨c0, c1, c2, rfl⟩ : ∃ c0 c1 c2, cs = [c0, c1, c2] := by
      match cs, hcl with
      | [c0, c1, c2], _ => exact ⟨c0, c1, c2, rfl⟩
    have f0 : DataW.trod enc Tryd.prog W 0 (fun _ => true) true k 3 [c0] = xs[0]? := by
      have h : DataW.trod enc Tryd.prog W 0 (fun _ => true) true k 3 (([c0, c1, c2].drop 0).take (Tryd.prog.cellsOf 3)) = xs[0]? := hfs 0 _ rfl
      rw [cells3] at h
      exact h
    have f1 : DataW.trod enc Tryd.prog W 0 (fun _ => true) true k 4 [c1] = xs[1]? := by
      have h : DataW.trod enc Tryd.prog W 0 (fun _ => true) true k 4 (([c0, c1, c2].drop 1).take (Tryd.prog.cellsOf 4)) = xs[1]? := hfs 1 _ rfl
      rw [cells4] at h
      exact h
    have f2 : DataW.trod enc Tryd.prog W 0 (fun _ => true) true k 4 [c2] = xs[2]? := by
      have h : DataW.trod enc Tryd.prog W 0 (fun _ => true) true k 4 (([c0, c1, c2].drop 2).take (Tryd.prog.cellsOf 4)) = xs[2]? := hfs 2 _ rfl
      rw [cells4] at h
      exact h
    have hxl : xs.length = 3 := hx3
    rw [List.getElem?_eq_getElem (by omega)] at f0 f1 f2
    have g0 := hat 0 (by omega)
    have g1 := hat 1 (by omega)
    have g2 := hat 2 (by omega)
    obtain ⟨z, e0, _, wz⟩ := DataW.trod_int Tryd.underlying3 f0
    obtain ⟨wd, e1, _⟩ := DataW.trod_bool Tryd.underlying4 f1
    obtain ⟨fr, e2, _⟩ := DataW.trod_bool Tryd.underlying4 f2
    simp only [List.cons.injEq, and_true] at e0 e1 e2
    subst e0 e1 e2
    refine ⟨b, off, z, wd, fr, rfl, ?_, ?_, ?_, ?_, bounds_i64 wz⟩
    · have := World.block_lt_of_cell? W _ (show W.cell? _ = some (Value.int .i64 z) from g0)
      rw [addr_add] at this
      exact this
    · rw [addr_add] at g0; exact g0
    · rw [addr_add] at g1; exact g1
    · rw [addr_add] at g2; exact g2

theorem gPow : Tryd.prog.globalNamed "internal/strconv.uint64pow10" = some 1 := by kernel_rfl
theorem tPow : (Tryd.prog.globals[1]?).map (·.type) = some 122 := by kernel_rfl
theorem cells122 : Tryd.prog.cellsOf 122 = 20 := by kernel_rfl
theorem cells97 : Tryd.prog.cellsOf 97 = 1 := by kernel_rfl

/-- The three tables that are laid, as the rows list them. -/
theorem tab_of_three {W : World} (h : laidMet Tryd.prog [("math/bits.deBruijn32tab", Rows.laid_math_bits_deBruijn32tab), ("math/bits.deBruijn64tab", Rows.laid_math_bits_deBruijn64tab), ("internal/strconv.uint64pow10", Rows.laid_internal_strconv_uint64pow10)] W) : Tab W := by
  obtain ⟨ps, ⟨g0, t0, cs0, f0, p0, q0, _, _, _, _, ⟨g1, t1, cs1, f1, p1, q1, _, _, _, _, ⟨g2, t2, cs2, f2, p2, q2, hg2, ht2, hv2, hd2, _, _⟩, _⟩, _⟩, _, _⟩ := h
  obtain rfl := Option.some.inj (gPow.symm.trans hg2)
  obtain rfl := Option.some.inj (tPow.symm.trans ht2)
  unfold Tab Lib.TabIs
  rw [hv2]
  have hd : DataW.trod _ Tryd.prog W 0 _ _ f2 122 cs2.toList = some (Lib.tabData .u64 Lib.pow10Tab, p2) := hd2
  rw [← Lib.cells_of_tab Tryd.underlying122 Tryd.underlying97 cells97 cells122 hd]

theorem tab_of_laid {W : World} (h : laidMetH Tryd.prog Rows.causeTextsRow.laid W) : Tab W := by
  rw [MakeChecks.laidMetH_plain _ _ _ (by kernel_rfl)] at h
  exact tab_of_three h

end Go.Proofs.YtplkeakkjkkfmaaDoor
