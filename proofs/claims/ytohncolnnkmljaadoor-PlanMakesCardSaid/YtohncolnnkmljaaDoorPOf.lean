/- The document's Of; the law's config: a right one. -/
import Derived.Test.YtohncolnnkmljaaDoorPUnp
namespace Go.Proofs.YtohncolnnkmljaaDoor
open Go.RowKit
theorem below_setG {W : World} {b m : Nat} (j : Nat) (u : Value) (hb : b ≤ m) {w : World} (h : Below b W w) : Below b W (w.setCell ⟨m, j, none⟩ u) := h.setCell (p := ⟨m, j, none⟩) hb u

set_option maxRecDepth 100000 in
set_option maxHeartbeats 4000000 in
theorem of_any (x : Cfg) (b : Nat) (w : World) (hc : ∀ j, j < 9 → w.cell? ⟨b, j, none⟩ = some (.int .i64 (x.p j))) : Calls Tryd.prog 42 #[.slice (some ⟨b, 0, none⟩) 9 9] w fun e w' => e = .returned (.agg #[.int .i64 x.t, .int .i64 x.s, .int .i64 x.l, .int .i64 x.c, .int .i64 x.s0, .int .i64 x.n0, .int .i64 x.s1, .int .i64 x.n1, .int .i64 x.r]) ∧ Below w.heap.size w w' := by
  have hl : b < w.heap.size := World.block_lt_of_cell? w _ (hc 0 (by omega))
  have p0 := hc 0 (by omega)
  have p1 := hc 1 (by omega)
  have p2 := hc 2 (by omega)
  have p3 := hc 3 (by omega)
  have p4 := hc 4 (by omega)
  have p5 := hc 5 (by omega)
  have p6 := hc 6 (by omega)
  have p7 := hc 7 (by omega)
  have p8 := hc 8 (by omega)
  simp only [Cfg.p] at p0 p1 p2 p3 p4 p5 p6 p7 p8
  clear hc
  have hne : b ≠ w.heap.size := by omega
  have hne1 : b ≠ w.heap.size + 1 := by omega
  go_enter Tryd.func42, Tryd.ntmps42
  go_wp2_with fail
  go_region
  go_wp2_with fail
  go_region
  go_wp2_with fail
  go_region
  go_wp2
  refine bodyPost_ret (v := (.agg #[.int .i64 x.t, .int .i64 x.s, .int .i64 x.l, .int .i64 x.c, .int .i64 x.s0, .int .i64 x.n0, .int .i64 x.s1, .int .i64 x.n1, .int .i64 x.r])) (by simp [results, Tryd.results42, go_sem]) rfl ⟨rfl, ?_⟩
  (repeat (first | with_reducible exact Below.refl _ _ | with_reducible refine Below.drew ?_ | (with_reducible refine Below.setCell ?_ ?side _; case side => exact (by first | (simp; done) | (simp; omega) | omega)) | (with_reducible refine Below.alloc ?_ ?side _; case side => exact (by first | (simp; done) | (simp; omega) | omega))))

/-- A number by a mask. -/
theorem and_mask (q : Int) (M : Nat) (hM : M < 4611686018427387904) : ∃ m : Nat, m ≤ M ∧ bits .and .i64 q (M : Int) = (m : Int) := by
  have e : (BitVec.ofInt 64 (M : Int)).toNat = M := by
    rw [BitVec.ofInt_natCast, BitVec.toNat_ofNat]; exact Nat.mod_eq_of_lt (by omega)
  refine ⟨(BitVec.ofInt 64 q &&& BitVec.ofInt 64 (M : Int)).toNat, ?_, ?_⟩
  · rw [BitVec.toNat_and, e]; exact Nat.and_le_right
  · have h : (BitVec.ofInt 64 q &&& BitVec.ofInt 64 (M : Int)).toNat ≤ M := by rw [BitVec.toNat_and, e]; exact Nat.and_le_right
    show IntKind.i64.wrap ((BitVec.ofInt 64 q &&& BitVec.ofInt 64 (M : Int)).toNat : Int) = _
    generalize (BitVec.ofInt 64 q &&& BitVec.ofInt 64 (M : Int)).toNat = m at h ⊢
    simp [IntKind.wrap, IntKind.bits, IntKind.signed]
    omega
theorem mask7 (q : Int) : ∃ m : Nat, m ≤ 7 ∧ bits .and .i64 q 7 = (m : Int) := and_mask q 7 (by omega)
theorem mask31 (q : Int) : ∃ m : Nat, m ≤ 31 ∧ bits .and .i64 q 31 = (m : Int) := and_mask q 31 (by omega)
theorem rest (q : Int) (n : Nat) (h1 : 1 ≤ n) (h2 : n ≤ 1000) : ∃ m : Nat, m < n ∧ (wrap64 (q.tmod (n : Int) + (n : Int))).tmod (n : Int) = (m : Int) := by
  have b1 : -(n : Int) < q.tmod (n : Int) := Int.lt_tmod_of_pos q (by omega)
  have b2 : q.tmod (n : Int) < (n : Int) := Int.tmod_lt_of_pos q (by omega)
  have e1 : wrap64 (q.tmod (n : Int) + (n : Int)) = q.tmod (n : Int) + (n : Int) := by unfold wrap64; omega
  rw [e1]
  have b3 : (q.tmod (n : Int) + (n : Int)).tmod (n : Int) < (n : Int) := Int.tmod_lt_of_pos _ (by omega)
  have b4 : 0 ≤ (q.tmod (n : Int) + (n : Int)).tmod (n : Int) := Int.tmod_nonneg _ (by omega)
  exact ⟨((q.tmod (n : Int) + (n : Int)).tmod (n : Int)).toNat, by omega, by omega⟩

set_option maxRecDepth 100000 in
set_option maxHeartbeats 4000000 in
theorem config_any (a0 a1 a2 a3 a4 a5 a6 a7 a8 : Int) (w : World) : Calls Tryd.prog 10 #[.agg #[.int .i64 a0, .int .i64 a1, .int .i64 a2, .int .i64 a3, .int .i64 a4, .int .i64 a5, .int .i64 a6, .int .i64 a7, .int .i64 a8]] w fun e w' => ∃ x : Cfg, e = .returned (.agg #[.int .i64 x.t, .int .i64 x.s, .int .i64 x.l, .int .i64 x.c, .int .i64 x.s0, .int .i64 x.n0, .int .i64 x.s1, .int .i64 x.n1, .int .i64 x.r]) ∧ Right x ∧ Below w.heap.size w w' := by
  obtain ⟨m0, b0, h0⟩ := mask7 a0
  obtain ⟨m2, b2, h2⟩ := mask7 a2
  obtain ⟨m3, b3, h3⟩ := mask7 a3
  obtain ⟨m4, b4, h4⟩ := mask7 a4
  obtain ⟨m7, b7, h7⟩ := mask31 a7
  obtain ⟨m1, b1, g1⟩ := rest a1 29 (by omega) (by omega)
  obtain ⟨m5, b5, g5⟩ := rest a5 60 (by omega) (by omega)
  obtain ⟨m6, b6, g6⟩ := rest a6 13 (by omega) (by omega)
  obtain ⟨m8, b8, g8⟩ := rest a8 13 (by omega) (by omega)
  have h1 : (wrap64 (a1.tmod 29 + 29)).tmod 29 = (m1 : Int) := g1
  have h5 : (wrap64 (a5.tmod 60 + 60)).tmod 60 = (m5 : Int) := g5
  have h6 : (wrap64 (a6.tmod 13 + 13)).tmod 13 = (m6 : Int) := g6
  have h8 : (wrap64 (a8.tmod 13 + 13)).tmod 13 = (m8 : Int) := g8
  clear g1 g5 g6 g8
  obtain ⟨x, ex⟩ : ∃ x : Cfg, x = ⟨1 + m0, 4 + m1, 1 + m2, 1 + m3, 4 + m5, m6, 4 + m5 + 1 + m7, m8, 1 + m4⟩ := ⟨_, rfl⟩
  have HX : Hid (Right x) := Lib.hid (by subst ex; apply Right.of; dsimp only; omega)
  have EX := Lib.hid ex
  clear ex
  go_enter Tryd.func10, Tryd.ntmps10
  go_wp2_with fail
  refine (of_any x _ _ (fun j hj => ?_)).mono ?_
  · rw [EX.out]
    obtain rfl | rfl | rfl | rfl | rfl | rfl | rfl | rfl | rfl : j = 0 ∨ j = 1 ∨ j = 2 ∨ j = 3 ∨ j = 4 ∨ j = 5 ∨ j = 6 ∨ j = 7 ∨ j = 8 := by omega
    all_goals (go_simp; try rfl)
  rintro e w1 ⟨rfl, hb⟩
  have H1 := Lib.hid (Below.step (B := w.heap.size) (a := w) (by (repeat (first | with_reducible exact Below.refl _ _ | with_reducible refine Below.drew ?_ | (with_reducible refine Below.setCell ?_ ?side _; case side => exact (by first | (simp; done) | (simp; omega) | omega)) | (with_reducible refine Below.alloc ?_ ?side _; case side => exact (by first | (simp; done) | (simp; omega) | omega))))) hb (by first | (simp; done) | (simp; omega) | omega))
  have hz : CfgAt (w.alloc (.cells #[.int .i64 a0, .int .i64 a1, .int .i64 a2, .int .i64 a3, .int .i64 a4, .int .i64 a5, .int .i64 a6, .int .i64 a7, .int .i64 a8] 27) |>.alloc (.cells #[.int .i64 zeroC.t, .int .i64 zeroC.s, .int .i64 zeroC.l, .int .i64 zeroC.c, .int .i64 zeroC.s0, .int .i64 zeroC.n0, .int .i64 zeroC.s1, .int .i64 zeroC.n1, .int .i64 zeroC.r] 26)) (w.heap.size + 1) zeroC := by
    have h := cfgAt_box (w.alloc (.cells #[.int .i64 a0, .int .i64 a1, .int .i64 a2, .int .i64 a3, .int .i64 a4, .int .i64 a5, .int .i64 a6, .int .i64 a7, .int .i64 a8] 27)) zeroC
    simp only [World.size_alloc] at h
    exact h
  have hz1 := CfgAt.below (hz.alloc _) hb
  obtain ⟨z0, z1, z2, z3, z4, z5, z6, z7, z8⟩ := hz1.cells
  have zf := hz1.frozen
  clear hz hz1 hb h0 h1 h2 h3 h4 h5 h6 h7 h8
  have hz := H1.out.size
  go_wp2
  refine bodyPost_ret (v := (.agg #[.int .i64 x.t, .int .i64 x.s, .int .i64 x.l, .int .i64 x.c, .int .i64 x.s0, .int .i64 x.n0, .int .i64 x.s1, .int .i64 x.n1, .int .i64 x.r])) (by simp [results, Tryd.results10, go_sem, z0, z1, z2, z3, z4, z5, z6, z7, z8]) rfl ⟨x, rfl, HX.out, ?_⟩
  (repeat (first | with_reducible exact Below.refl _ _ | with_reducible exact H1.out | with_reducible refine Below.drew ?_ | (with_reducible refine Below.setCell ?_ ?side _; case side => exact (by have := (H1.out).size; first | (simp; done) | (simp; omega) | omega)) | (with_reducible refine Below.alloc ?_ ?side _; case side => exact (by have := (H1.out).size; first | (simp; done) | (simp; omega) | omega))))

end Go.Proofs.YtohncolnnkmljaaDoor
