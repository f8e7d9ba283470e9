/- PlanApart: what is counted. -/
import Derived.Test.YtohncolnnkmljaaDoorPApS
namespace Go.Proofs.YtohncolnnkmljaaDoor
open Go.RowKit
theorem pc_get (L : List (Int × Int)) (i : Nat) (h : i < L.length) : (pc L)[i * 2]? = some (.int .i64 (L.getD i (0, 0)).1) ∧ (pc L)[i * 2 + 1]? = some (.int .i64 (L.getD i (0, 0)).2) := by
  induction L generalizing i with
  | nil => simp at h
  | cons p L ih =>
    have e : pc (p :: L) = .int .i64 p.1 :: .int .i64 p.2 :: pc L := by simp [pc]
    rw [e]
    match i, h with
    | 0, _ => exact ⟨rfl, rfl⟩
    | i + 1, h =>
      have := ih i (by simpa using h)
      rw [show (i + 1) * 2 = i * 2 + 1 + 1 by omega]
      simpa using this
theorem ind_01 (a b j : Int) : 0 ≤ ind a b j ∧ ind a b j ≤ 1 := by unfold ind; split <;> omega
theorem cnt_bound (L : List (Int × Int)) (j : Int) : 0 ≤ cnt L j ∧ cnt L j ≤ L.length := by
  induction L with
  | nil => simp [cnt]
  | cons p L ih =>
    have := ind_01 p.1 (p.1 + p.2) j
    rw [cnt, List.length_cons]
    omega
theorem take_succ_cnt (L : List (Int × Int)) (i : Nat) (h : i < L.length) (j : Int) : cnt (L.take (i + 1)) j = cnt (L.take i) j + ind (L.getD i (0, 0)).1 ((L.getD i (0, 0)).1 + (L.getD i (0, 0)).2) j := by
  rw [List.take_succ_eq_append_getElem h, cnt_append, cnt, cnt, Int.add_zero]
  simp [List.getD, h]
theorem ind_succ (a k : Int) (h : 0 ≤ k) (j : Int) : ind a (a + (k + 1)) j = ind a (a + k) j + if j = a + k then 1 else 0 := by
  have e := ind_add (a := a) (b := a + k) (c := a + (k + 1)) (by omega) (by omega) j
  rw [← e]
  congr 1
  unfold ind
  by_cases h : j = a + k
  · rw [if_pos (by omega), if_pos h]
  · rw [if_neg (by omega), if_neg h]

/-- Counted words at q, rows at g. -/
structure CN (w0 : World) (g q N : Nat) (L : List (Int × Int)) (f : Nat → Int) (W : World) : Prop where
  row : W.rowIs q 3 N (fun j => .int .i64 (f j))
  cs : ∀ i, i < L.length → W.cell? ⟨g, i * 2, none⟩ = some (.int .i64 (L.getD i (0, 0)).1) ∧ W.cell? ⟨g, i * 2 + 1, none⟩ = some (.int .i64 (L.getD i (0, 0)).2)
  ne : g ≠ q
  hq : w0.heap.size ≤ q
  be : Below w0.heap.size w0 W
theorem CN.drewN {w0 : World} {g q N : Nat} {L : List (Int × Int)} {f : Nat → Int} {W : World} (h : CN w0 g q N L f W) (m : Nat) : CN w0 g q N L f (W.drewN m) := ⟨drewN_row h.row, h.cs, h.ne, h.hq, below_drewN h.be m⟩
theorem CN.put {w0 : World} {g q N : Nat} {L : List (Int × Int)} {f f' : Nat → Int} {W : World} (h : CN w0 g q N L f W) (m : Nat) (u : Int) (hf : ∀ j, j < N → f' j = if j = m then u else f j) : CN w0 g q N L f' (W.setCell ⟨q, m, none⟩ (.int .i64 u)) :=
  ⟨(h.row.set m _).congr (by intro j hj; rw [hf j hj]; by_cases e : j = m <;> simp [e]), fun i hi => by
      have e : ∀ o, (W.setCell ⟨q, m, none⟩ (.int .i64 u)).cell? ⟨g, o, none⟩ = W.cell? ⟨g, o, none⟩ := fun o => World.cell?_of_block (w := W) (Below.heap_setCell _ _ _ _ h.ne)
      rw [e, e]; exact h.cs i hi, h.ne, h.hq, h.be.setCell (p := ⟨q, m, none⟩) h.hq _⟩
theorem CN.congr {w0 : World} {g q N : Nat} {L : List (Int × Int)} {f f' : Nat → Int} {W : World} (h : CN w0 g q N L f W) (hf : ∀ j, j < N → f' j = f j) : CN w0 g q N L f' W := ⟨h.row.congr (by intro j hj; rw [hf j hj]), h.cs, h.ne, h.hq, h.be⟩
theorem PS.cn {w0 : World} {b q : Nat} {x : Cfg} {N : Nat} {L : List (Int × Int)} {v : Value} {W : World} (h : PS w0 b q x N L v W) (hl : 0 < L.length) : ∃ g cap, v = .slice (some ⟨g, 0, none⟩) L.length cap ∧ CN w0 g q N L (fun _ => 0) W := by
  obtain ⟨g, cap, rfl, hg, _⟩ := h.own.form hl
  have h1 := h.hb
  have h2 := h.hq
  refine ⟨g, cap, rfl, h.row, fun i hi => ?_, by omega, by omega, h.be⟩
  have c := pc_get L i hi
  rw [h.own.cellAt (i * 2) (by omega), h.own.cellAt (i * 2 + 1) (by omega)]
  exact c

end Go.Proofs.YtohncolnnkmljaaDoor
