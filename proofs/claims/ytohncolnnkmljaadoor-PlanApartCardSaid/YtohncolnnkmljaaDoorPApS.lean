/- PlanApart: its state; slots. -/
import Derived.Test.YtohncolnnkmljaaDoorPApM
import Derived.Test.YtohncolnnkmljaaDoorPArr
import Derived.OwnWalk
import Derived.Deep.AppendLies
import Derived.Deep.RegionHeld3
namespace Go.Proofs.YtohncolnnkmljaaDoor
open Go.RowKit
/-- Rows as cells. -/
def pc (L : List (Int × Int)) : List Value := L.flatMap fun p => [.int .i64 p.1, .int .i64 p.2]
theorem pc_append (L M : List (Int × Int)) : pc (L ++ M) = pc L ++ pc M := by simp [pc]
theorem pc_length (L : List (Int × Int)) : (pc L).length = L.length * 2 := by
  induction L with
  | nil => rfl
  | cons p L ih => simp [pc] at ih ⊢; omega
theorem info_arr2 : ∃ i : TypeInfo, Tryd.prog.info? 35 = some i ∧ i.zero = some (.agg #[.int .i64 0, .int .i64 0]) ∧ i.size = 2 ∧ i.bytes = 16 := by
  have h : (Tryd.prog.info? 35).map (fun i => (i.zero, i.size, i.bytes)) = some (some (.agg #[.int .i64 0, .int .i64 0]), 2, 16) := by kernel_rfl
  obtain ⟨i, h, h'⟩ := Option.map_eq_some_iff.1 h
  simp only [Prod.mk.injEq] at h'
  exact ⟨i, h, h'⟩
theorem info_int' : (Tryd.prog.info? 3).map (fun i => (i.zero, i.size, i.bytes)) = some (some (.int .i64 0), 1, 8) := by kernel_rfl
theorem cell_newA (w : World) (cs : Array Value) (t : TypeId) : ∀ j u, cs.toList[j]? = some u → (w.alloc (.cells cs t)).cell? ((⟨w.heap.size, 0, none⟩ : Addr).add j) = some u := by
  intro j u h
  have hl : j < cs.size := by
    have := (List.getElem?_eq_some_iff.1 h).1
    simpa using this
  have e : ((⟨w.heap.size, 0, none⟩ : Addr).add j) = ⟨w.heap.size, j, none⟩ := by simp [Addr.add]; intro h; exact h.symm
  rw [e, (arrAt_box w cs t).get j hl]
  simpa using h
theorem owns_below {W W' : World} {B : Nat} {e : TypeId} {s : Nat} {v : Value} {n : Nat} {xs : List Value} (h : W.ownsRow B e s v n xs) (hb : Below W.heap.size W W') : W'.ownsRow B e s v n xs := by
  refine ⟨h.1, ?_⟩
  rcases h.2 with h2 | ⟨g, cap, cur, h1, h2, h3, h4⟩
  · exact .inl h2
  · refine .inr ⟨g, cap, cur, h1, h2, ?_, h4⟩
    rw [hb.block g (Array.getElem?_eq_some_iff.1 h3).1]
    exact h3

/-- A config at b, words that are counted at q, rows that the slice v holds. -/
structure PS (w0 : World) (b q : Nat) (x : Cfg) (N : Nat) (L : List (Int × Int)) (v : Value) (W : World) : Prop where
  cfg : CfgAt W b x
  row : W.rowIs q 3 N (fun _ => .int .i64 0)
  own : W.ownsRow (q + 1) 35 2 v L.length (pc L)
  be : Below w0.heap.size w0 W
  hb : w0.heap.size ≤ b
  hq : b < q
theorem PS.up {w0 : World} {b q : Nat} {x : Cfg} {N : Nat} {L L' : List (Int × Int)} {v v' : Value} {W W' : World} (h : PS w0 b q x N L v W) (hB : Below (q + 1) W W') (ho : W'.ownsRow (q + 1) 35 2 v' L'.length (pc L')) : PS w0 b q x N L' v' W' :=
  have h1 := h.hb
  have h2 := h.hq
  ⟨h.cfg.of_block (hB.block _ (by omega)), h.row.of_block (hB.block _ (by omega)), ho, h.be.trans (hB.mono (by omega)), h.hb, h.hq⟩
theorem PS.lt {w0 : World} {b q : Nat} {x : Cfg} {N : Nat} {L : List (Int × Int)} {v : Value} {W : World} (h : PS w0 b q x N L v W) : q + 1 ≤ W.heap.size := h.row.lt
theorem PS.below {w0 : World} {b q : Nat} {x : Cfg} {N : Nat} {L : List (Int × Int)} {v : Value} {W W' : World} (h : PS w0 b q x N L v W) (hb : Below W.heap.size W W') : PS w0 b q x N L v W' := h.up (hb.mono h.lt) (owns_below h.own hb)
theorem PS.drew {w0 : World} {b q : Nat} {x : Cfg} {N : Nat} {L : List (Int × Int)} {v : Value} {W : World} (h : PS w0 b q x N L v W) : PS w0 b q x N L v W.drew := h.below (Below.refl _ _).drew
theorem PS.alloc {w0 : World} {b q : Nat} {x : Cfg} {N : Nat} {L : List (Int × Int)} {v : Value} {W : World} (h : PS w0 b q x N L v W) (o : Obj) : PS w0 b q x N L v (W.alloc o) := h.below ((Below.refl _ _).alloc (Nat.le_refl _) o)
theorem PS.grown {w0 : World} {b q : Nat} {x : Cfg} {N : Nat} {L M : List (Int × Int)} {v v' : Value} {W W' : World} (h : PS w0 b q x N L v W) (hg : W.grownBy W' v.ownBlock) {n : Nat} (hn : n = (L ++ M).length) (ho : W'.ownsRow (q + 1) 35 2 v' n (pc L ++ pc M)) : PS w0 b q x N (L ++ M) v' W' := by
  subst hn
  exact h.up ((Below.refl (q + 1) W).grown hg h.lt (fun k hk => (h.own.lt k hk).1)) (by rw [pc_append]; exact ho)
theorem PS.all {w0 : World} {b q : Nat} {x : Cfg} {N : Nat} {L : List (Int × Int)} {v : Value} {W : World} (h : PS w0 b q x N L v W) : W.cell? ⟨b, 0, none⟩ = some (.int .i64 x.t) ∧ W.cell? ⟨b, 1, none⟩ = some (.int .i64 x.s) ∧ W.cell? ⟨b, 2, none⟩ = some (.int .i64 x.l) ∧ W.cell? ⟨b, 3, none⟩ = some (.int .i64 x.c) ∧ W.cell? ⟨b, 4, none⟩ = some (.int .i64 x.s0) ∧ W.cell? ⟨b, 5, none⟩ = some (.int .i64 x.n0) ∧ W.cell? ⟨b, 6, none⟩ = some (.int .i64 x.s1) ∧ W.cell? ⟨b, 7, none⟩ = some (.int .i64 x.n1) ∧ W.cell? ⟨b, 8, none⟩ = some (.int .i64 x.r) ∧ PS w0 b q x N L v W := by
  obtain ⟨c0, c1, c2, c3, c4, c5, c6, c7, c8⟩ := h.cfg.cells
  exact ⟨c0, c1, c2, c3, c4, c5, c6, c7, c8, h⟩
/-- A config at b; nothing old has changed. -/
structure PB (w0 : World) (b : Nat) (x : Cfg) (W : World) : Prop where
  cfg : CfgAt W b x
  be : Below w0.heap.size w0 W
theorem PS.base {w0 : World} {b q : Nat} {x : Cfg} {N : Nat} {L : List (Int × Int)} {v : Value} {W : World} (h : PS w0 b q x N L v W) : W.cell? ⟨b, 0, none⟩ = some (.int .i64 x.t) ∧ W.cell? ⟨b, 1, none⟩ = some (.int .i64 x.s) ∧ W.cell? ⟨b, 2, none⟩ = some (.int .i64 x.l) ∧ W.cell? ⟨b, 3, none⟩ = some (.int .i64 x.c) ∧ W.cell? ⟨b, 4, none⟩ = some (.int .i64 x.s0) ∧ W.cell? ⟨b, 5, none⟩ = some (.int .i64 x.n0) ∧ W.cell? ⟨b, 6, none⟩ = some (.int .i64 x.s1) ∧ W.cell? ⟨b, 7, none⟩ = some (.int .i64 x.n1) ∧ W.cell? ⟨b, 8, none⟩ = some (.int .i64 x.r) ∧ PB w0 b x W := by
  obtain ⟨c0, c1, c2, c3, c4, c5, c6, c7, c8⟩ := h.cfg.cells
  exact ⟨c0, c1, c2, c3, c4, c5, c6, c7, c8, h.cfg, h.be⟩
theorem slotsL_len (x : Cfg) (k : Nat) : (slotsL x k).length = k := by simp [slotsL]
theorem topicsL_len (x : Cfg) (k : Nat) : (topicsL x k).length = 4 * k := by
  induction k with
  | zero => rfl
  | succ k ih => rw [topicsL_succ, List.length_append, ih]; simp [four]; omega
theorem blocksL_len (x : Cfg) (k : Nat) : (blocksL x k).length = k := by simp [blocksL]

end Go.Proofs.YtohncolnnkmljaaDoor
