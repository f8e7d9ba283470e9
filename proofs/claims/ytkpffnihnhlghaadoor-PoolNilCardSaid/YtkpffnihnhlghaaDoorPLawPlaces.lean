/- The document's Block; PlanPlaces: the walk. -/
import Derived.Test.YtkpffnihnhlghaaDoorPBlock
import Derived.Test.YtkpffnihnhlghaaDoorPOf
namespace Go.Proofs.YtkpffnihnhlghaaDoor
open Go.RowKit
theorem blockC_one {x : Cfg} (hr : Right x) (h : 1 ≤ x.n0 + x.n1) : blockC x 1 = bB x := by
  have := hr.b
  rw [blockC, if_neg (by omega)]
  by_cases h2 : (1 : Int) < 1 + x.n0
  · rw [if_pos h2, Int.sub_self, Int.zero_mul, Int.add_zero]
  · rw [if_neg h2, bB1, show x.n0 = 0 by omega]; simp
theorem blockC_0 {x : Cfg} (hr : Right x) {k : Int} (h1 : 1 ≤ k) (h2 : k + 1 ≤ x.n0 + x.n1) (h3 : k < 1 + x.n0) : blockC x (k + 1) = blockC x k + 1 + x.s0 := by
  have := hr.b
  have e : blockC x k = bB x + (k - 1) * (1 + x.s0) := by rw [blockC, if_neg (by omega), if_pos h3]
  have e2 : (k - 1) * (1 + x.s0) = k * (1 + x.s0) - (1 + x.s0) := by rw [Int.sub_mul, Int.one_mul]
  by_cases h4 : k + 1 < 1 + x.n0
  · rw [e, blockC, if_neg (by omega), if_pos h4, e2, show k + 1 - 1 = k by omega]; omega
  · have hk : k = x.n0 := by omega
    rw [e, e2, blockC, if_neg (by omega), if_neg h4, bB1, hk, show x.n0 + 1 - (1 + x.n0) = 0 by omega, Int.zero_mul]; omega
theorem blockC_1 {x : Cfg} (hr : Right x) {k : Int} (h1 : 1 ≤ k) (h2 : k + 1 ≤ x.n0 + x.n1) (h3 : ¬ k < 1 + x.n0) : blockC x (k + 1) = blockC x k + 1 + x.s1 := by
  have := hr.b
  rw [blockC, if_neg (by omega), if_neg (by omega), blockC, if_neg (by omega), if_neg h3, show k + 1 - (1 + x.n0) = k - (1 + x.n0) + 1 by omega, Int.add_mul, Int.one_mul]
  omega
theorem blockC_bound {x : Cfg} (hr : Right x) {k : Int} (h1 : 1 ≤ k) (h2 : k ≤ x.n0 + x.n1) : 7 ≤ blockC x k ∧ blockC x k ≤ 3000 := by
  have hb := hr.b
  have hs := hr.sizes
  rw [blockC, if_neg (by omega)]
  by_cases h3 : k < 1 + x.n0
  · rw [if_pos h3]
    have a1 : 0 ≤ (k - 1) * (1 + x.s0) := Int.mul_nonneg (by omega) (by omega)
    have a2 : (k - 1) * (1 + x.s0) ≤ 12 * 97 := Int.mul_le_mul (by omega) (by omega) (by omega) (by omega)
    omega
  · rw [if_neg h3]
    have a1 : 0 ≤ (k - (1 + x.n0)) * (1 + x.s1) := Int.mul_nonneg (by omega) (by omega)
    have a2 : (k - (1 + x.n0)) * (1 + x.s1) ≤ 12 * 97 := Int.mul_le_mul (by omega) (by omega) (by omega) (by omega)
    omega

set_option maxRecDepth 100000 in
set_option maxHeartbeats 2000000 in
theorem r4Block_in (x : Cfg) (b : Nat) (w : World) (hr : Right x) (h1 : 1 ≤ b) (h2 : (b : Int) ≤ x.n0 + x.n1) : Calls Tryd.prog 71 #[(.agg #[.int .i64 x.t, .int .i64 x.s, .int .i64 x.l, .int .i64 x.c, .int .i64 x.s0, .int .i64 x.n0, .int .i64 x.s1, .int .i64 x.n1, .int .i64 x.r]), .int .i64 b] w fun e w' => e = .returned (.int .i64 (blockC x b)) ∧ Below w.heap.size w w' := by
  have HR := Lib.hid hr
  have hcb := hr.b
  have h3 : (1 : Int) ≤ (b : Int) := by omega
  have d1 : decide ((b : Int) < 1) = false := by simp; omega
  have d2 : decide (x.n0 + x.n1 < (b : Int)) = false := by simp; omega
  have m0 : 0 ≤ x.t * (1 + 2 * x.s) := Int.mul_nonneg (by omega) (by omega)
  have m1 : x.t * (1 + 2 * x.s) ≤ 8 * 65 := Int.mul_le_mul (by omega) (by omega) (by omega) (by omega)
  have HB1 := Lib.hid (show 5 + x.l + x.t + x.t * (1 + 2 * x.s) = blockC x 1 by rw [blockC_one hr (by omega), bB, bC, bE])
  clear hr
  go_enter Tryd.func71, Tryd.ntmps71
  go_wp2_with fail
  refine (r4Blocks_any x _ (by omega) (by omega) (by omega) (by omega)).mono ?_
  rintro e w1 ⟨rfl, hb⟩
  have H1 := Lib.hid (show CW w w.heap.size x w1 from ⟨(cfgAt_box w x).below hb, Below.step (B := w.heap.size) (a := w) (by (repeat (first | with_reducible exact Below.refl _ _ | with_reducible refine Below.drew ?_ | (with_reducible refine Below.setCell ?_ ?side _; case side => exact (by first | (simp; done) | (simp; omega) | omega)) | (with_reducible refine Below.alloc ?_ ?side _; case side => exact (by first | (simp; done) | (simp; omega) | omega))))) hb (by first | (simp; done) | (simp; omega) | omega)⟩)
  clear hb
  obtain ⟨c0, c1, c2, c3, c4, c5, c6, c7, c8⟩ := H1.out.cfg.cells
  go_wp2_with fail
  rw [HB1.out]
  clear c0 c1 c2 c3 c4 c5 c6 c7 c8 d1 d2 m0 m1
  go_loopw [5, 6] (fun a i wr => ∃ k : Nat, 1 ≤ k ∧ k ≤ b ∧ i = .int .i64 k ∧ a = .int .i64 (blockC x k) ∧ CW w w.heap.size x wr) (fun _ i _ => b - (intOf i).toNat)
  case atStart => exact ⟨1, by omega, by omega, rfl, rfl, H1.out⟩
  case round =>
    clear H1 HB1
    obtain ⟨k, hk1, hk2, rfl, rfl, hC⟩ := hrel
    have HC := Lib.hid hC
    clear hC
    by_cases hlt : k < b
    · have bb := blockC_bound HR.out (k := (k : Int)) (by omega) (by omega)
      obtain ⟨bb1, bb2⟩ := bb
      by_cases h5 : (k : Int) < 1 + x.n0
      · have HK := Lib.hid (class_0 (x := x) (b := (k : Int)) (by omega) h5)
        have HN := Lib.hid (blockC_0 HR.out (k := (k : Int)) (by omega) (by omega) h5)
        clear h5
        obtain ⟨c0, c1, c2, c3, c4, c5, c6, c7, c8⟩ := HC.out.cfg.cells
        go_wp2_with fail
        refine (r4Class_any x k _ HR.out).mono ?_
        rintro e w2 ⟨rfl, hb⟩
        have H2 := Lib.hid (HC.out.below hb)
        clear hb c0 c1 c2 c3 c4 c5 c6 c7 c8 HC
        obtain ⟨c0, c1, c2, c3, c4, c5, c6, c7, c8⟩ := H2.out.cfg.cells
        rw [HK.out]
        go_wp2
        go_roundw
        case rel => exact ⟨k + 1, by omega, by omega, by go_num, by rw [← HN.out]; go_num, H2.out⟩
        case measure => simp [intOf]; omega
      · have HK := Lib.hid (class_1 (x := x) (b := (k : Int)) (by omega) h5)
        have HN := Lib.hid (blockC_1 HR.out (k := (k : Int)) (by omega) (by omega) h5)
        clear h5
        obtain ⟨c0, c1, c2, c3, c4, c5, c6, c7, c8⟩ := HC.out.cfg.cells
        go_wp2_with fail
        refine (r4Class_any x k _ HR.out).mono ?_
        rintro e w2 ⟨rfl, hb⟩
        have H2 := Lib.hid (HC.out.below hb)
        clear hb c0 c1 c2 c3 c4 c5 c6 c7 c8 HC
        obtain ⟨c0, c1, c2, c3, c4, c5, c6, c7, c8⟩ := H2.out.cfg.cells
        rw [HK.out]
        go_wp2
        go_roundw
        case rel => exact ⟨k + 1, by omega, by omega, by go_num, by rw [← HN.out]; go_num, H2.out⟩
        case measure => simp [intOf]; omega
    · obtain rfl : k = b := by omega
      go_wp2
      go_ret
      exact ⟨rfl, HC.out.be⟩

set_option maxHeartbeats 1000000 in
theorem r4Block_out (x : Cfg) (b : Int) (w : World) (hr : Right x) (h : b < 1 ∨ x.n0 + x.n1 < b) : Calls Tryd.prog 71 #[(.agg #[.int .i64 x.t, .int .i64 x.s, .int .i64 x.l, .int .i64 x.c, .int .i64 x.s0, .int .i64 x.n0, .int .i64 x.s1, .int .i64 x.n1, .int .i64 x.r]), .int .i64 b] w fun e w' => e = .returned (.int .i64 (-1)) ∧ Below w.heap.size w w' := by
  have hcb := hr.b
  clear hr
  by_cases h1 : b < 1
  · have d1 : decide (b < 1) = true := by simpa using h1
    clear h h1
    go_enter Tryd.func71, Tryd.ntmps71
    go_wp2
    go_ret
    refine ⟨rfl, ?_⟩
    (repeat (first | with_reducible exact Below.refl _ _ | with_reducible refine Below.drew ?_ | (with_reducible refine Below.setCell ?_ ?side _; case side => exact (by first | (simp; done) | (simp; omega) | omega)) | (with_reducible refine Below.alloc ?_ ?side _; case side => exact (by first | (simp; done) | (simp; omega) | omega))))
  · have d1 : decide (b < 1) = false := by simpa using h1
    have d2 : decide (x.n0 + x.n1 < b) = true := by simp; omega
    clear h h1
    go_enter Tryd.func71, Tryd.ntmps71
    go_wp2_with fail
    refine (r4Blocks_any x _ (by omega) (by omega) (by omega) (by omega)).mono ?_
    rintro e w1 ⟨rfl, hb⟩
    have H1 := Lib.hid (Below.step (B := w.heap.size) (a := w) (by (repeat (first | with_reducible exact Below.refl _ _ | with_reducible refine Below.drew ?_ | (with_reducible refine Below.setCell ?_ ?side _; case side => exact (by first | (simp; done) | (simp; omega) | omega)) | (with_reducible refine Below.alloc ?_ ?side _; case side => exact (by first | (simp; done) | (simp; omega) | omega))))) hb (by first | (simp; done) | (simp; omega) | omega))
    clear hb
    go_wp2
    go_ret
    exact ⟨rfl, H1.out⟩

theorem r4Block_any (x : Cfg) (b : Int) (w : World) (hr : Right x) : Calls Tryd.prog 71 #[(.agg #[.int .i64 x.t, .int .i64 x.s, .int .i64 x.l, .int .i64 x.c, .int .i64 x.s0, .int .i64 x.n0, .int .i64 x.s1, .int .i64 x.n1, .int .i64 x.r]), .int .i64 b] w fun e w' => e = .returned (.int .i64 (blockC x b)) ∧ Below w.heap.size w w' := by
  by_cases h : b < 1 ∨ x.n0 + x.n1 < b
  · have e : blockC x b = -1 := by rw [blockC, if_pos h]
    rw [e]; exact r4Block_out x b w hr h
  · have e : b = ((b.toNat : Nat) : Int) := by omega
    have k := r4Block_in x b.toNat w hr (by omega) (by omega)
    rw [← e] at k
    exact k

end Go.Proofs.YtkpffnihnhlghaaDoor
