/- The laws' configs; an arena as made; two rows that are the same. -/
import Derived.Test.YtkpffnihnhlghaaGreatDoorPMkRe
import Derived.Test.YtkpffnihnhlghaaGreatDoorPOf
namespace Go.Proofs.YtkpffnihnhlghaaGreatDoor
open Go.RowKit
def r6 (q : Int) : Int := (wrap64 (q.tmod 6 + 6)).tmod 6
set_option maxRecDepth 100000 in
set_option maxHeartbeats 1000000 in
theorem cfg10_any (a0 a1 a2 a3 : Int) (w : World) : Calls Tryz.prog 5 #[.agg #[.int .i64 a0, .int .i64 a1, .int .i64 a2, .int .i64 a3]] w fun e w' => ∃ x : Cfg, e = .returned (.agg #[.int .i64 x.t, .int .i64 x.s, .int .i64 x.l, .int .i64 x.c, .int .i64 x.s0, .int .i64 x.n0, .int .i64 x.s1, .int .i64 x.n1, .int .i64 x.r]) ∧ Right x ∧ x.n0 = r6 a2 ∧ x.n1 = r6 a3 ∧ x.n0 ≤ 5 ∧ x.n1 ≤ 5 ∧ Below w.heap.size w w' := by
  obtain ⟨m0, b0, h0'⟩ := and_mask a0 1 (by omega)
  obtain ⟨m1, b1, h1'⟩ := and_mask a1 1 (by omega)
  obtain ⟨m2, b2, g2⟩ := rest a2 6 (by omega) (by omega)
  obtain ⟨m3, b3, g3⟩ := rest a3 6 (by omega) (by omega)
  have h0 : bits .and .i64 a0 1 = (m0 : Int) := h0'
  have h1 : bits .and .i64 a1 1 = (m1 : Int) := h1'
  have h2 : (wrap64 (a2.tmod 6 + 6)).tmod 6 = (m2 : Int) := g2
  have h3 : (wrap64 (a3.tmod 6 + 6)).tmod 6 = (m3 : Int) := g3
  have H2 : Hid ((m2 : Int) = r6 a2) := Lib.hid h2.symm
  have H3 : Hid ((m3 : Int) = r6 a3) := Lib.hid h3.symm
  clear g2 g3 h0' h1'
  obtain ⟨x, ex⟩ : ∃ x : Cfg, x = ⟨1 + m0, 4, 1 + m1, 2, 4, m2, 6, m3, 2⟩ := ⟨_, rfl⟩
  have HX : Hid (Right x) := Lib.hid (by subst ex; apply Right.of; dsimp only; omega)
  have HN : Hid (x.n0 = (m2 : Int) ∧ x.n1 = (m3 : Int)) := Lib.hid (by subst ex; exact ⟨rfl, rfl⟩)
  have EX := Lib.hid ex
  clear ex
  go_enter Tryz.func5, Tryz.ntmps5
  go_wp2_with fail
  refine (of_any x _ _ (fun j hj => ?_)).mono ?_
  · rw [EX.out]
    obtain rfl | rfl | rfl | rfl | rfl | rfl | rfl | rfl | rfl : j = 0 ∨ j = 1 ∨ j = 2 ∨ j = 3 ∨ j = 4 ∨ j = 5 ∨ j = 6 ∨ j = 7 ∨ j = 8 := by omega
    all_goals (go_simp; try rfl)
  rintro e w1 ⟨rfl, hb⟩
  have H1 := Lib.hid (Below.step (B := w.heap.size) (a := w) (by (repeat (first | with_reducible exact Below.refl _ _ | with_reducible refine Below.drew ?_ | (with_reducible refine Below.setCell ?_ ?side _; case side => exact (by first | (simp; done) | (simp; omega) | omega)) | (with_reducible refine Below.alloc ?_ ?side _; case side => exact (by first | (simp; done) | (simp; omega) | omega))))) hb (by first | (simp; done) | (simp; omega) | omega))
  have hz : CfgAt (w.alloc (.cells #[.int .i64 a0, .int .i64 a1, .int .i64 a2, .int .i64 a3] 22) |>.alloc (.cells #[.int .i64 zeroC.t, .int .i64 zeroC.s, .int .i64 zeroC.l, .int .i64 zeroC.c, .int .i64 zeroC.s0, .int .i64 zeroC.n0, .int .i64 zeroC.s1, .int .i64 zeroC.n1, .int .i64 zeroC.r] 30)) (w.heap.size + 1) zeroC := by
    have h := cfgAt_box (w.alloc (.cells #[.int .i64 a0, .int .i64 a1, .int .i64 a2, .int .i64 a3] 22)) zeroC
    simp only [World.size_alloc] at h
    exact h
  have hz1 := CfgAt.below (hz.alloc _) hb
  obtain ⟨z0, z1, z2, z3, z4, z5, z6, z7, z8⟩ := hz1.cells
  have zf := hz1.frozen
  clear hz hz1 hb h0 h1 h2 h3
  have hz := H1.out.size
  go_wp2
  refine bodyPost_ret (v := (.agg #[.int .i64 x.t, .int .i64 x.s, .int .i64 x.l, .int .i64 x.c, .int .i64 x.s0, .int .i64 x.n0, .int .i64 x.s1, .int .i64 x.n1, .int .i64 x.r])) (by simp [results, Tryz.results5, go_sem, z0, z1, z2, z3, z4, z5, z6, z7, z8]) rfl ⟨x, rfl, HX.out, by rw [HN.out.1, H2.out], by rw [HN.out.2, H3.out], by have := HN.out.1; omega, by have := HN.out.2; omega, ?_⟩
  (repeat (first | with_reducible exact Below.refl _ _ | with_reducible exact H1.out | with_reducible refine Below.drew ?_ | (with_reducible refine Below.setCell ?_ ?side _; case side => exact (by have := (H1.out).size; first | (simp; done) | (simp; omega) | omega)) | (with_reducible refine Below.alloc ?_ ?side _; case side => exact (by have := (H1.out).size; first | (simp; done) | (simp; omega) | omega))))

end Go.Proofs.YtkpffnihnhlghaaGreatDoor
