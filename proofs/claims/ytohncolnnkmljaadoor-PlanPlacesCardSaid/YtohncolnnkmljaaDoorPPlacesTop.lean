/- PlanPlaces: the walk. -/
import Derived.Test.YtohncolnnkmljaaDoorPPlacesIn
import Derived.Test.YtohncolnnkmljaaDoorPArr
namespace Go.Proofs.YtohncolnnkmljaaDoor
open Go.RowKit
theorem zeroC_not : rightB zeroC = false := rightB_false fun h => by have := h.b; simp [zeroC] at this
/-- A config at block b, two numbers at block q; nothing old has changed. -/
structure QW (w0 : World) (q : Nat) (q0 q1 : Int) (b : Nat) (x : Cfg) (W : World) : Prop where
  c : CW w0 b x W
  q : ArrAt W q 35 #[.int .i64 q0, .int .i64 q1]
theorem QW.below {w0 : World} {q : Nat} {q0 q1 : Int} {b : Nat} {x : Cfg} {W W' : World} (h : QW w0 q q0 q1 b x W) (hb : Below W.heap.size W W') : QW w0 q q0 q1 b x W' := ⟨h.c.below hb, h.q.below hb⟩
theorem QW.drew {w0 : World} {q : Nat} {q0 q1 : Int} {b : Nat} {x : Cfg} {W : World} (h : QW w0 q q0 q1 b x W) : QW w0 q q0 q1 b x W.drew := h.below (Below.refl _ _).drew
theorem QW.all {w0 : World} {q : Nat} {q0 q1 : Int} {b : Nat} {x : Cfg} {W : World} (h : QW w0 q q0 q1 b x W) : W.cell? ⟨b, 0, none⟩ = some (.int .i64 x.t) ∧ W.cell? ⟨b, 1, none⟩ = some (.int .i64 x.s) ∧ W.cell? ⟨b, 2, none⟩ = some (.int .i64 x.l) ∧ W.cell? ⟨b, 3, none⟩ = some (.int .i64 x.c) ∧ W.cell? ⟨b, 4, none⟩ = some (.int .i64 x.s0) ∧ W.cell? ⟨b, 5, none⟩ = some (.int .i64 x.n0) ∧ W.cell? ⟨b, 6, none⟩ = some (.int .i64 x.s1) ∧ W.cell? ⟨b, 7, none⟩ = some (.int .i64 x.n1) ∧ W.cell? ⟨b, 8, none⟩ = some (.int .i64 x.r) ∧ W.cell? ⟨q, 0, none⟩ = some (.int .i64 q0) ∧ W.cell? ⟨q, 1, none⟩ = some (.int .i64 q1) ∧ QW w0 q q0 q1 b x W := by
  obtain ⟨c0, c1, c2, c3, c4, c5, c6, c7, c8⟩ := h.c.cfg.cells
  exact ⟨c0, c1, c2, c3, c4, c5, c6, c7, c8, h.q.two.1, h.q.two.2, h⟩

theorem blocks_zero (w : World) (hL : Lim w) : Calls Tryd.prog 16 #[.agg #[.int .i64 0, .int .i64 0, .int .i64 0, .int .i64 0, .int .i64 0, .int .i64 0, .int .i64 0, .int .i64 0, .int .i64 0]] w fun e w' => e = .returned (.int .i64 0) ∧ Below w.heap.size w w' := blocks_no zeroC w hL zeroC_not

set_option maxRecDepth 100000 in
set_option maxHeartbeats 4000000 in
theorem lawPlaces_any (a0 a1 a2 a3 a4 a5 a6 a7 a8 q0 q1 : Int) (w : World) (hL : Lim w) : Calls Tryd.prog 4 #[.agg #[.int .i64 a0, .int .i64 a1, .int .i64 a2, .int .i64 a3, .int .i64 a4, .int .i64 a5, .int .i64 a6, .int .i64 a7, .int .i64 a8], .agg #[.int .i64 q0, .int .i64 q1]] w fun e w' => e = .returned (.bool true) ∧ Below w.heap.size w w' := by
  have HL := Lib.hid hL
  clear hL
  go_enter Tryd.func4, Tryd.ntmps4
  go_wp2_with fail
  refine (awake4_any _ (HL.out.below (by (repeat (first | with_reducible exact Below.refl _ _ | with_reducible refine Below.drew ?_ | (with_reducible refine Below.setCell ?_ ?side _; case side => exact (by first | (simp; done) | (simp; omega) | omega)) | (with_reducible refine Below.alloc ?_ ?side _; case side => exact (by first | (simp; done) | (simp; omega) | omega))))))).mono ?_
  rintro e w1 ⟨rfl, hb⟩
  have H1 := Lib.hid (Below.step (B := w.heap.size) (a := w) (by (repeat (first | with_reducible exact Below.refl _ _ | with_reducible refine Below.drew ?_ | (with_reducible refine Below.setCell ?_ ?side _; case side => exact (by first | (simp; done) | (simp; omega) | omega)) | (with_reducible refine Below.alloc ?_ ?side _; case side => exact (by first | (simp; done) | (simp; omega) | omega))))) hb (by first | (simp; done) | (simp; omega) | omega))
  have hA : ArrAt w1 w.heap.size 27 #[.int .i64 a0, .int .i64 a1, .int .i64 a2, .int .i64 a3, .int .i64 a4, .int .i64 a5, .int .i64 a6, .int .i64 a7, .int .i64 a8] := ArrAt.below ((arrAt_box w _ _).alloc _) hb
  have hQ0 := arrAt_box (w.alloc (.cells #[.int .i64 a0, .int .i64 a1, .int .i64 a2, .int .i64 a3, .int .i64 a4, .int .i64 a5, .int .i64 a6, .int .i64 a7, .int .i64 a8] 27)) #[.int .i64 q0, .int .i64 q1] 35
  simp only [World.size_alloc] at hQ0
  have HQ1 := Lib.hid (ArrAt.below hQ0 hb)
  clear hb hQ0
  obtain ⟨c0, c1, c2, c3, c4, c5, c6, c7, c8⟩ := hA.nine
  go_wp2_with fail
  refine (config_any a0 a1 a2 a3 a4 a5 a6 a7 a8 _).mono ?_
  rintro e w2 ⟨x, rfl, hr, hb⟩
  have HR := Lib.hid hr
  have H2 := Lib.hid (Below.step H1.out hb H1.out.size)
  have HQ2 := Lib.hid (HQ1.out.below hb)
  clear hb hA H1 HQ1 c0 c1 c2 c3 c4 c5 c6 c7 c8 hr
  go_wp2_with fail
  have hcb := HR.out.b
  have H0 := Lib.hid (show QW w (w.heap.size + 1) q0 q1 w2.heap.size x (w2.alloc (.cells #[.int .i64 x.t, .int .i64 x.s, .int .i64 x.l, .int .i64 x.c, .int .i64 x.s0, .int .i64 x.n0, .int .i64 x.s1, .int .i64 x.n1, .int .i64 x.r] 26)) from ⟨⟨cfgAt_box w2 x, by (repeat (first | with_reducible exact Below.refl _ _ | with_reducible exact H2.out | with_reducible refine Below.drew ?_ | (with_reducible refine Below.setCell ?_ ?side _; case side => exact (by have := (H2.out).size; first | (simp; done) | (simp; omega) | omega)) | (with_reducible refine Below.alloc ?_ ?side _; case side => exact (by have := (H2.out).size; first | (simp; done) | (simp; omega) | omega))))⟩, HQ2.out.alloc _⟩)
  clear H2 HQ2
  generalize w2.alloc (.cells #[.int .i64 x.t, .int .i64 x.s, .int .i64 x.l, .int .i64 x.c, .int .i64 x.s0, .int .i64 x.n0, .int .i64 x.s1, .int .i64 x.n1, .int .i64 x.r] 26) = W0 at H0 ⊢
  generalize w2.heap.size = b at H0 ⊢
  generalize w.heap.size + 1 = q at H0 ⊢
  go_region_held3 (fun w' => w'.cell? ⟨b, 0, none⟩ = some (.int .i64 x.t) ∧ w'.cell? ⟨b, 1, none⟩ = some (.int .i64 x.s) ∧ w'.cell? ⟨b, 2, none⟩ = some (.int .i64 x.l) ∧ w'.cell? ⟨b, 3, none⟩ = some (.int .i64 x.c) ∧ w'.cell? ⟨b, 4, none⟩ = some (.int .i64 x.s0) ∧ w'.cell? ⟨b, 5, none⟩ = some (.int .i64 x.n0) ∧ w'.cell? ⟨b, 6, none⟩ = some (.int .i64 x.s1) ∧ w'.cell? ⟨b, 7, none⟩ = some (.int .i64 x.n1) ∧ w'.cell? ⟨b, 8, none⟩ = some (.int .i64 x.r) ∧ w'.cell? ⟨q, 0, none⟩ = some (.int .i64 q0) ∧ w'.cell? ⟨q, 1, none⟩ = some (.int .i64 q1) ∧ QW w q q0 q1 b x w')
    (first | exact H0.out.drew.all | exact H1.out.all | exact H2.out.all | exact H3.out.all | exact H4.out.all | exact H5.out.all | assumption)
    (first
      | (go_at_call 14; (with_reducible refine (places_any x _ _ _ (HL.out.below H0.out.drew.c.be) HR.out).mono ?_); rintro e w1 ⟨rfl, hb⟩; have H1 := Lib.hid (H0.out.drew.below hb); clear hb)
      | (go_at_call 14; (with_reducible refine (places_any x _ _ _ (HL.out.below H1.out.c.be) HR.out).mono ?_); rintro e w2 ⟨rfl, hb⟩; have H2 := Lib.hid (H1.out.below hb); clear hb)
      | (go_at_call 15; (with_reducible refine (seq_any _).mono ?_); rintro e w' ⟨rfl, rfl⟩)
      | (go_at_call 16; (with_reducible refine (blocks_any x _ (HL.out.below H2.out.c.be) HR.out).mono ?_); rintro e w3 ⟨rfl, hb⟩; have H3 := Lib.hid (H2.out.below hb); clear hb)
      | (go_at_call 17; (with_reducible refine (r4Blocks_any x _ (by omega) (by omega) (by omega) (by omega)).mono ?_); rintro e w4 ⟨rfl, hb⟩; have H4 := Lib.hid (H3.out.below hb); clear hb)
      | (go_at_call 16; (with_reducible refine (blocks_zero _ (HL.out.below H4.out.c.be)).mono ?_); rintro e w5 ⟨rfl, hb⟩; have H5 := Lib.hid (H4.out.below hb); clear hb))
  all_goals
    go_wp2
    go_ret
    exact ⟨rfl, H5.out.c.be⟩

end Go.Proofs.YtohncolnnkmljaaDoor
