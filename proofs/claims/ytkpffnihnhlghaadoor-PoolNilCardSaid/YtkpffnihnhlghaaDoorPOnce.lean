/- PlanOnce: the walk. -/
import Derived.Test.YtkpffnihnhlghaaDoorPOf
import Derived.Test.YtkpffnihnhlghaaDoorPArr
import Derived.Test.YtkpffnihnhlghaaDoorPEq
import Derived.Test.YtkpffnihnhlghaaDoorCsTwo
namespace Go.Proofs.YtkpffnihnhlghaaDoor
open Go.RowKit
/-- What cause.Top tells of a trouble of one code, or of none. -/
theorem top_none (w : World) (hE : Cs.ErrT w) : Calls Tryd.prog 16 #[.nilIface] w fun r w' => r = .returned (.int .i64 0) ∧ Below w.heap.size w w' := by
  have h := Cs.top_any [] (by simp [Cs.Ok]) (by simp) w hE
  exact h
theorem top_one (c : Int) (hc : ¬ c = 0) (w : World) (hE : Cs.ErrT w) : Calls Tryd.prog 16 #[.iface 46 (.int .i64 c)] w fun r w' => r = .returned (.int .i64 c) ∧ Below w.heap.size w w' := by
  have h := Cs.top_any [(c, 0)] (by simpa [Cs.Ok] using hc) (by simp) w hE
  rw [Cs.top_code _ _ hc, Cs.enc_code _ _ hc] at h
  exact h

/-- Two configs, and what came back of them, in memory. -/
structure OW (w0 : World) (p q r s : Nat) (x y : Cfg) (W : World) : Prop where
  a : CfgAt W p x
  b : CfgAt W q y
  c : CfgAt W r x
  d : CfgAt W s y
  be : Below w0.heap.size w0 W
theorem OW.below {w0 : World} {p q r s : Nat} {x y : Cfg} {W W' : World} (h : OW w0 p q r s x y W) (hb : Below W.heap.size W W') : OW w0 p q r s x y W' := ⟨h.a.below hb, h.b.below hb, h.c.below hb, h.d.below hb, h.be.trans (hb.mono h.be.size)⟩
theorem OW.drew {w0 : World} {p q r s : Nat} {x y : Cfg} {W : World} (h : OW w0 p q r s x y W) : OW w0 p q r s x y W.drew := h.below (Below.refl _ _).drew
theorem OW.all {w0 : World} {p q r s : Nat} {x y : Cfg} {W : World} (h : OW w0 p q r s x y W) : W.cell? ⟨p, 0, none⟩ = some (.int .i64 x.t) ∧ W.cell? ⟨p, 1, none⟩ = some (.int .i64 x.s) ∧ W.cell? ⟨p, 2, none⟩ = some (.int .i64 x.l) ∧ W.cell? ⟨p, 3, none⟩ = some (.int .i64 x.c) ∧ W.cell? ⟨p, 4, none⟩ = some (.int .i64 x.s0) ∧ W.cell? ⟨p, 5, none⟩ = some (.int .i64 x.n0) ∧ W.cell? ⟨p, 6, none⟩ = some (.int .i64 x.s1) ∧ W.cell? ⟨p, 7, none⟩ = some (.int .i64 x.n1) ∧ W.cell? ⟨p, 8, none⟩ = some (.int .i64 x.r) ∧ W.cell? ⟨q, 0, none⟩ = some (.int .i64 y.t) ∧ W.cell? ⟨q, 1, none⟩ = some (.int .i64 y.s) ∧ W.cell? ⟨q, 2, none⟩ = some (.int .i64 y.l) ∧ W.cell? ⟨q, 3, none⟩ = some (.int .i64 y.c) ∧ W.cell? ⟨q, 4, none⟩ = some (.int .i64 y.s0) ∧ W.cell? ⟨q, 5, none⟩ = some (.int .i64 y.n0) ∧ W.cell? ⟨q, 6, none⟩ = some (.int .i64 y.s1) ∧ W.cell? ⟨q, 7, none⟩ = some (.int .i64 y.n1) ∧ W.cell? ⟨q, 8, none⟩ = some (.int .i64 y.r) ∧ W.cell? ⟨r, 0, none⟩ = some (.int .i64 x.t) ∧ W.cell? ⟨r, 1, none⟩ = some (.int .i64 x.s) ∧ W.cell? ⟨r, 2, none⟩ = some (.int .i64 x.l) ∧ W.cell? ⟨r, 3, none⟩ = some (.int .i64 x.c) ∧ W.cell? ⟨r, 4, none⟩ = some (.int .i64 x.s0) ∧ W.cell? ⟨r, 5, none⟩ = some (.int .i64 x.n0) ∧ W.cell? ⟨r, 6, none⟩ = some (.int .i64 x.s1) ∧ W.cell? ⟨r, 7, none⟩ = some (.int .i64 x.n1) ∧ W.cell? ⟨r, 8, none⟩ = some (.int .i64 x.r) ∧ W.cell? ⟨s, 0, none⟩ = some (.int .i64 y.t) ∧ W.cell? ⟨s, 1, none⟩ = some (.int .i64 y.s) ∧ W.cell? ⟨s, 2, none⟩ = some (.int .i64 y.l) ∧ W.cell? ⟨s, 3, none⟩ = some (.int .i64 y.c) ∧ W.cell? ⟨s, 4, none⟩ = some (.int .i64 y.s0) ∧ W.cell? ⟨s, 5, none⟩ = some (.int .i64 y.n0) ∧ W.cell? ⟨s, 6, none⟩ = some (.int .i64 y.s1) ∧ W.cell? ⟨s, 7, none⟩ = some (.int .i64 y.n1) ∧ W.cell? ⟨s, 8, none⟩ = some (.int .i64 y.r) ∧ OW w0 p q r s x y W := by
  obtain ⟨a0, a1, a2, a3, a4, a5, a6, a7, a8⟩ := h.a.cells
  obtain ⟨b0, b1, b2, b3, b4, b5, b6, b7, b8⟩ := h.b.cells
  obtain ⟨c0, c1, c2, c3, c4, c5, c6, c7, c8⟩ := h.c.cells
  obtain ⟨d0, d1, d2, d3, d4, d5, d6, d7, d8⟩ := h.d.cells
  exact ⟨a0, a1, a2, a3, a4, a5, a6, a7, a8, b0, b1, b2, b3, b4, b5, b6, b7, b8, c0, c1, c2, c3, c4, c5, c6, c7, c8, d0, d1, d2, d3, d4, d5, d6, d7, d8, h⟩


end Go.Proofs.YtkpffnihnhlghaaDoor
