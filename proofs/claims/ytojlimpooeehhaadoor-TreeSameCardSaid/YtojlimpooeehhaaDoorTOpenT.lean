/- Arguments: how a struct is spoilt; a path. -/
import Derived.Test.YtojlimpooeehhaaDoorTOpen
import Derived.Test.YtojlimpooeehhaaDoorTGetM
namespace Go.Proofs.YtojlimpooeehhaaDoor
open Go.ChangeShapes Go.WideShapes Go.ChangeAt Go.RowKit Go.Deep Go.Joins
theorem cells_turn : Tryd.prog.cellsOf 26 = 5 := by kernel_rfl
theorem cells_str : Tryd.prog.cellsOf 9 = 1 := by kernel_rfl
theorem cells_bool : Tryd.prog.cellsOf 4 = 1 := by kernel_rfl
theorem list5 {α : Type} {l : List α} (h : l.length = 5) : ∃ a b c d e, l = [a, b, c, d, e] := by
  match l, h with
  | [a, b, c, d, e], _ => exact ⟨a, b, c, d, e, rfl⟩
set_option maxRecDepth 100000 in
theorem open_turn {H : Type} {enc : TypeId × Value → H} {W : World} {r : Reach} {b0 : Nat} {v : Value} {d : DataW H} {p : List MemPlace} (hv : Value.okWide Tryd.prog W r b0 26 v) (h : DataW.Trod enc Tryd.prog W 0 (fun _ => true) true 26 v d p) :
    ∃ (how at_ n : Int) (str : ByteArray) (dn : Bool), v = .agg #[.int .i64 how, .int .i64 at_, .int .i64 n, .string str, .bool dn] ∧ str.size ≤ 9223372036854775807 := by
  obtain ⟨⟨l⟩, rfl, hsz⟩ := okWide_struct Tryd.underlying26 hv
  obtain ⟨a0, a1, a2, a3, a4, rfl⟩ := list5 (l := l) (hsz.trans cells_turn)
  obtain ⟨fuel, hf⟩ := h
  obtain ⟨xs, m, _, _, _, hlen, hg⟩ := DataW.trod_struct Tryd.underlying26 hf
  obtain ⟨x0, x1, x2, x3, x4, rfl⟩ := list5 (l := xs) hlen
  have g0 : DataW.trod enc Tryd.prog W 0 (fun _ => true) true m 3 [a0] = some x0 := by simpa [Value.cells, cells_int] using hg 0 _ rfl
  have g1 : DataW.trod enc Tryd.prog W 0 (fun _ => true) true m 3 [a1] = some x1 := by simpa [Value.cells, cells_int] using hg 1 _ rfl
  have g2 : DataW.trod enc Tryd.prog W 0 (fun _ => true) true m 3 [a2] = some x2 := by simpa [Value.cells, cells_int] using hg 2 _ rfl
  have g3 : DataW.trod enc Tryd.prog W 0 (fun _ => true) true m 9 [a3] = some x3 := by simpa [Value.cells, cells_str] using hg 3 _ rfl
  have g4 : DataW.trod enc Tryd.prog W 0 (fun _ => true) true m 4 [a4] = some x4 := by simpa [Value.cells, cells_bool] using hg 4 _ rfl
  obtain ⟨n0, e0, _, _⟩ := DataW.trod_int Tryd.underlying3 g0
  obtain ⟨n1, e1, _, _⟩ := DataW.trod_int Tryd.underlying3 g1
  obtain ⟨n2, e2, _, _⟩ := DataW.trod_int Tryd.underlying3 g2
  obtain ⟨s3, e3, _, hs⟩ := DataW.trod_string Tryd.underlying9 g3
  obtain ⟨b4, e4, _⟩ := DataW.trod_bool Tryd.underlying4 g4
  injection e0 with e0
  injection e1 with e1
  injection e2 with e2
  injection e3 with e3
  injection e4 with e4
  subst e0 e1 e2 e3 e4
  exact ⟨n0, n1, n2, s3, b4, rfl, by unfold maxLen at hs; omega⟩
theorem prow_of_trod {H : Type} {enc : TypeId × Value → H} {W : World} {A : Option Addr} {L c : Nat} {d : DataW H} {p : List MemPlace} (h : DataW.Trod enc Tryd.prog W 0 (fun _ => true) true 22 (.slice A L c) d p) :
    ∃ pp : List Int, pp.length = L ∧ L ≤ c ∧ c ≤ 9223372036854775807 ∧ PRow W A pp := by
  obtain ⟨fuel, h⟩ := h
  rcases open_ints Tryd.underlying22 Tryd.underlying3 cells_int h with ⟨hcs, _⟩ | ⟨a, len, cap, zs, hcs, _, hl, hm, hlen, _, hcell, hwf⟩
  · simp [Value.cells] at hcs
    obtain ⟨rfl, rfl, rfl⟩ := hcs
    exact ⟨[], rfl, Nat.le_refl _, by omega, fun h => absurd h (Nat.lt_irrefl 0)⟩
  · simp [Value.cells] at hcs
    obtain ⟨rfl, rfl, rfl⟩ := hcs
    simp only [if_true] at hlen
    have hzl : (zs.take L).length = L := by rw [List.length_take]; omega
    refine ⟨zs.take L, hzl, hl, by unfold maxLen at hm; omega, fun h0 => ?_⟩
    rw [hzl] at h0
    obtain ⟨b, off, spot⟩ := a
    have c0 := hcell 0 (by omega)
    have hsp : spot = none := by
      have := World.cell?_spot c0
      simpa [Addr.add] using this
    subst hsp
    refine ⟨b, off, rfl, ?_, fun j hj => ?_⟩
    · rw [addr_add] at c0
      exact block_lt c0
    · rw [hzl] at hj
      have := hcell j (by omega)
      rw [addr_add] at this
      rw [this]
      simp only [List.getD_eq_getElem?_getD, List.getElem?_take_of_lt hj]

end Go.Proofs.YtojlimpooeehhaaDoor
