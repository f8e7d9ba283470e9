/- Turns as arguments. -/
import Derived.Test.YtkhbhkllnigbgaaDoorVOpen
import Derived.Test.YtkhbhkllnigbgaaDoorVLawEnds
namespace Go.Proofs.YtkhbhkllnigbgaaDoor
open Go.ChangeShapes Go.WideShapes Go.ChangeAt Go.RowKit Go.Deep Go.Joins
theorem cells_turn8 : Tryd.prog.cellsOf 28 = 4 := by kernel_rfl
theorem cells_arr2t8 : Tryd.prog.cellsOf 29 = 8 := by kernel_rfl
theorem list4 {α : Type} {l : List α} (h : l.length = 4) : ∃ a b c d, l = [a, b, c, d] := by
  match l, h with
  | [a, b, c, d], _ => exact ⟨a, b, c, d, rfl⟩
theorem list8 {α : Type} {l : List α} (h : l.length = 8) : ∃ a0 a1 a2 a3 a4 a5 a6 a7, l = [a0, a1, a2, a3, a4, a5, a6, a7] := by
  match l, h with
  | [a0, a1, a2, a3, a4, a5, a6, a7], _ => exact ⟨a0, a1, a2, a3, a4, a5, a6, a7, rfl⟩
theorem list12 {α : Type} {l : List α} (h : l.length = 12) : ∃ a0 a1 a2 a3 a4 a5 a6 a7 a8 a9 a10 a11, l = [a0, a1, a2, a3, a4, a5, a6, a7, a8, a9, a10, a11] := by
  match l, h with
  | [a0, a1, a2, a3, a4, a5, a6, a7, a8, a9, a10, a11], _ => exact ⟨a0, a1, a2, a3, a4, a5, a6, a7, a8, a9, a10, a11, rfl⟩
theorem turn8_cells {H : Type} {enc : TypeId × Value → H} {W : World} {m : Nat} {cs : List Value} {x : DataW H × List MemPlace} (h : DataW.trod enc Tryd.prog W 0 (fun _ => true) true m 28 cs = some x) : ∃ q : T8, cs = q.cells := by
  obtain ⟨xs, m', _, _, hl, hlen, hg⟩ := DataW.trod_struct Tryd.underlying28 h
  obtain ⟨a0, a1, a2, a3, rfl⟩ := list4 (hl.trans cells_turn8)
  obtain ⟨x0, x1, x2, x3, rfl⟩ := list4 (l := xs) hlen
  have g0 : DataW.trod enc Tryd.prog W 0 (fun _ => true) true m' 3 [a0] = some x0 := by simpa [cells_int] using hg 0 _ rfl
  have g1 : DataW.trod enc Tryd.prog W 0 (fun _ => true) true m' 3 [a1] = some x1 := by simpa [cells_int] using hg 1 _ rfl
  have g2 : DataW.trod enc Tryd.prog W 0 (fun _ => true) true m' 3 [a2] = some x2 := by simpa [cells_int] using hg 2 _ rfl
  have g3 : DataW.trod enc Tryd.prog W 0 (fun _ => true) true m' 26 [a3] = some x3 := by simpa [cells_u64] using hg 3 _ rfl
  obtain ⟨n0, e0, _, _⟩ := DataW.trod_int Tryd.underlying3 g0
  obtain ⟨n1, e1, _, _⟩ := DataW.trod_int Tryd.underlying3 g1
  obtain ⟨n2, e2, _, _⟩ := DataW.trod_int Tryd.underlying3 g2
  obtain ⟨n3, e3, _, hw⟩ := DataW.trod_int Tryd.underlying26 g3
  injection e0 with e0
  injection e1 with e1
  injection e2 with e2
  injection e3 with e3
  subst e0 e1 e2 e3
  obtain ⟨h1, h2⟩ := u64_fits hw
  refine ⟨⟨n0, n1, n2, n3.toNat, by omega⟩, ?_⟩
  have e : ((n3.toNat : Nat) : Int) = n3 := by omega
  simp [T8.cells, e]
def arr2 (q0 q1 : T8) : Array Value := #[.int .i64 q0.h, .int .i64 q0.a, .int .i64 q0.b, .int .u64 (q0.d : Nat), .int .i64 q1.h, .int .i64 q1.a, .int .i64 q1.b, .int .u64 (q1.d : Nat)]
set_option maxRecDepth 100000 in
theorem open_turns2 {H : Type} {enc : TypeId × Value → H} {W : World} {r : Reach} {b0 : Nat} {v : Value} {d : DataW H} {p : List MemPlace} (hv : Value.okWide Tryd.prog W r b0 29 v) (h : DataW.Trod enc Tryd.prog W 0 (fun _ => true) true 29 v d p) :
    ∃ q0 q1 : T8, v = .agg (arr2 q0 q1) := by
  simp only [Value.okWide, Tryd.underlying29] at hv
  obtain ⟨⟨l⟩, rfl, hsz, _⟩ := hv
  obtain ⟨fuel, hf⟩ := h
  obtain ⟨xs, m, -, -, hl, hxl, hx⟩ := DataW.trod_array Tryd.underlying29 hf
  obtain ⟨a0, a1, a2, a3, a4, a5, a6, a7, rfl⟩ := list8 (l := l) (by simpa [Value.cells, cells_arr2t8] using hl)
  have g0 : ∃ y, DataW.trod enc Tryd.prog W 0 (fun _ => true) true m 28 [a0, a1, a2, a3] = some y := by
    have h1 := hx 0 (by omega)
    rw [cells_turn8, List.getElem?_eq_getElem (by omega)] at h1
    exact ⟨_, h1⟩
  obtain ⟨y0, g0⟩ := g0
  obtain ⟨q0, e0⟩ := turn8_cells g0
  simp only [T8.cells, List.cons.injEq, and_true] at e0
  obtain ⟨rfl, rfl, rfl, rfl⟩ := e0
  have g1 : ∃ y, DataW.trod enc Tryd.prog W 0 (fun _ => true) true m 28 [a4, a5, a6, a7] = some y := by
    have h1 := hx 1 (by omega)
    rw [cells_turn8, List.getElem?_eq_getElem (by omega)] at h1
    exact ⟨_, h1⟩
  obtain ⟨y1, g1⟩ := g1
  obtain ⟨q1, e1⟩ := turn8_cells g1
  simp only [T8.cells, List.cons.injEq, and_true] at e1
  obtain ⟨rfl, rfl, rfl, rfl⟩ := e1
  exact ⟨q0, q1, rfl⟩

end Go.Proofs.YtkhbhkllnigbgaaDoor
