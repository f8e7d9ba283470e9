/- Block; the document's places. -/
import Derived.Test.YtkpffnihnhlghaaDoorPPlace2
namespace Go.Proofs.YtkpffnihnhlghaaDoor
open Go.RowKit
def blockC (x : Cfg) (b : Int) : Int := if b < 1 ∨ x.n0 + x.n1 < b then -1 else if b < 1 + x.n0 then bB x + (b - 1) * (1 + x.s0) else bB1 x + (b - (1 + x.n0)) * (1 + x.s1)
theorem class_out {x : Cfg} {b : Int} (h : b < 1 ∨ x.n0 + x.n1 < b) : classC x b = -1 := by rw [classC, if_pos h]
theorem class_0 {x : Cfg} {b : Int} (h : ¬ (b < 1 ∨ x.n0 + x.n1 < b)) (h2 : b < 1 + x.n0) : classC x b = 0 := by rw [classC, if_neg h, if_pos h2]
theorem class_1 {x : Cfg} {b : Int} (h : ¬ (b < 1 ∨ x.n0 + x.n1 < b)) (h2 : ¬ b < 1 + x.n0) : classC x b = 1 := by rw [classC, if_neg h, if_neg h2]

set_option maxRecDepth 100000 in
set_option maxHeartbeats 2000000 in
theorem block_out (x : Cfg) (b : Int) (w : World) (hL : Lim w) (hr : Right x) (h : b < 1 ∨ x.n0 + x.n1 < b) : Calls Tryd.prog 84 #[(.agg #[.int .i64 x.t, .int .i64 x.s, .int .i64 x.l, .int .i64 x.c, .int .i64 x.s0, .int .i64 x.n0, .int .i64 x.s1, .int .i64 x.n1, .int .i64 x.r]), .int .i64 b] w fun e w' => e = .returned (.int .i64 (-1)) ∧ Below w.heap.size w w' := by
  have HL := Lib.hid hL
  have HR := Lib.hid hr
  have HC := Lib.hid (class_out h)
  clear hL hr h
  go_enter Tryd.func84, Tryd.ntmps84
  go_wp2_with fail
  refine (class_any x b _ (HL.out.below ((Below.refl _ _).alloc (Nat.le_refl _) _)) HR.out).mono ?_
  rintro e w1 ⟨rfl, hb⟩
  have H1 := Lib.hid (Below.step (B := w.heap.size) (a := w) (by (repeat (first | with_reducible exact Below.refl _ _ | with_reducible refine Below.drew ?_ | (with_reducible refine Below.setCell ?_ ?side _; case side => exact (by first | (simp; done) | (simp; omega) | omega)) | (with_reducible refine Below.alloc ?_ ?side _; case side => exact (by first | (simp; done) | (simp; omega) | omega))))) hb (by first | (simp; done) | (simp; omega) | omega))
  clear hb
  rw [HC.out]
  go_wp2
  go_ret
  exact ⟨rfl, H1.out⟩

theorem Rowf.cells {B : Nat} {w : World} {a b c : Nat} {f n s : Int} (h : Rowf B w (.func (.func 141) #[] #[.pointer (some ⟨a, 0, none⟩), .pointer (some ⟨b, 0, none⟩), .pointer (some ⟨c, 0, none⟩)]) f n s) : w.cell? ⟨a, 0, none⟩ = some (.int .i64 n) ∧ w.cell? ⟨b, 0, none⟩ = some (.int .i64 f) ∧ w.cell? ⟨c, 0, none⟩ = some (.int .i64 s) := by
  obtain ⟨a', b', c', e, _, _, _, h4, h5, h6⟩ := h
  simp only [Value.func.injEq, true_and, Array.mk.injEq, List.cons.injEq, Value.pointer.injEq, Option.some.injEq, Addr.mk.injEq, and_true] at e
  obtain ⟨rfl, rfl, rfl⟩ := e
  exact ⟨h4, h5, h6⟩

theorem place_in0 (x : Cfg) (b : Int) (h0 : 0 ≤ (b - 1)) (h1 : (b - 1) < x.n0) : place (bB x) x.n0 (1 + x.s0) (b - 1) = bB x + (b - 1) * (1 + x.s0) := by
  rw [place, if_neg (by omega)]
set_option maxRecDepth 100000 in
set_option maxHeartbeats 4000000 in
theorem block_0 (x : Cfg) (b : Int) (w : World) (hL : Lim w) (hr : Right x) (h : ¬ (b < 1 ∨ x.n0 + x.n1 < b)) (h2 : b < 1 + x.n0) : Calls Tryd.prog 84 #[(.agg #[.int .i64 x.t, .int .i64 x.s, .int .i64 x.l, .int .i64 x.c, .int .i64 x.s0, .int .i64 x.n0, .int .i64 x.s1, .int .i64 x.n1, .int .i64 x.r]), .int .i64 b] w fun e w' => e = .returned (.int .i64 (bB x + (b - 1) * (1 + x.s0))) ∧ Below w.heap.size w w' := by
  have HL := Lib.hid hL
  have HR := Lib.hid hr
  have hcb := hr.b
  obtain ⟨s1, s2, s3, s4, s5, s6, s7, s8, s9, s10⟩ := hr.sizes
  have HC := Lib.hid (class_0 h h2)
  have HP := Lib.hid (place_in0 x b (by omega) (by omega))
  have b1 : 0 ≤ (b - 1) := by omega
  have b3 : (b - 1) < x.n0 := by omega
  have hw : IntKind.i64.wrap (b - 1) = (b - 1) := IntWalk.i64_in _ (by omega)
  have b2 : b ≤ 24 := by omega
  clear hL hr h h2
  go_enter Tryd.func84, Tryd.ntmps84
  go_wp2_with fail
  refine (class_any x b _ (HL.out.below ((Below.refl _ _).alloc (Nat.le_refl _) _)) HR.out).mono ?_
  rintro e w1 ⟨rfl, hb⟩
  have H1 := Lib.hid (show CW w w.heap.size x w1 from ⟨(cfgAt_box w x).below hb, Below.step (B := w.heap.size) (a := w) (by (repeat (first | with_reducible exact Below.refl _ _ | with_reducible refine Below.drew ?_ | (with_reducible refine Below.setCell ?_ ?side _; case side => exact (by first | (simp; done) | (simp; omega) | omega)) | (with_reducible refine Below.alloc ?_ ?side _; case side => exact (by first | (simp; done) | (simp; omega) | omega))))) hb (by first | (simp; done) | (simp; omega) | omega)⟩)
  clear hb
  rw [HC.out]
  go_wp2_with fail
  have f3 := lfld_3
  have i0 := lidx_0
  go_region_held3 (fun w' => w'.cell? ⟨w.heap.size, 0, none⟩ = some (.int .i64 x.t) ∧ w'.cell? ⟨w.heap.size, 1, none⟩ = some (.int .i64 x.s) ∧ w'.cell? ⟨w.heap.size, 2, none⟩ = some (.int .i64 x.l) ∧ w'.cell? ⟨w.heap.size, 3, none⟩ = some (.int .i64 x.c) ∧ w'.cell? ⟨w.heap.size, 4, none⟩ = some (.int .i64 x.s0) ∧ w'.cell? ⟨w.heap.size, 5, none⟩ = some (.int .i64 x.n0) ∧ w'.cell? ⟨w.heap.size, 6, none⟩ = some (.int .i64 x.s1) ∧ w'.cell? ⟨w.heap.size, 7, none⟩ = some (.int .i64 x.n1) ∧ w'.cell? ⟨w.heap.size, 8, none⟩ = some (.int .i64 x.r) ∧ CW w w.heap.size x w')
    (first | exact H1.out.drew.all | exact H2.out.all | exact H3.out.all | assumption)
    (first
      | (go_at_call 111; refine (lay_any x _ (HL.out.below H1.out.drew.be) HR.out).mono ?_; rintro e w2 ⟨v0, v1, v2, v3, v4, rfl, -, -, -, hf, -, hb⟩; obtain ⟨a, c, d, rfl, q1, q2, q3, q4, q5, q6⟩ := id hf; have HF := Lib.hid hf; have H2 := Lib.hid (H1.out.drew.below hb); clear hb hf q1 q2 q3 q4 q5 q6)
      | (go_at_call 113; refine (firstBlock_0 x _).mono ?_; rintro e w3 ⟨rfl, hb⟩; have H3 := Lib.hid (H2.out.below hb); have HF3 := Lib.hid (HF.out.below hb); clear hb)
      | (go_at_call 141; refine (row_any _ (bB x) x.n0 (1 + x.s0) a c d HF3.out.cells.1 HF3.out.cells.2.1 HF3.out.cells.2.2 (b - 1) (by omega) (by omega) (by omega) (by omega) (by omega)).mono ?_; rintro e w4 ⟨rfl, rfl⟩))
  all_goals
    go_wp2
    go_ret
    exact ⟨by rw [← HP.out]; rfl, H3.out.be⟩

theorem place_in1 (x : Cfg) (b : Int) (h0 : 0 ≤ (b - (1 + x.n0))) (h1 : (b - (1 + x.n0)) < x.n1) : place (bB1 x) x.n1 (1 + x.s1) (b - (1 + x.n0)) = bB1 x + (b - (1 + x.n0)) * (1 + x.s1) := by
  rw [place, if_neg (by omega)]
set_option maxRecDepth 100000 in
set_option maxHeartbeats 4000000 in
theorem block_1 (x : Cfg) (b : Int) (w : World) (hL : Lim w) (hr : Right x) (h : ¬ (b < 1 ∨ x.n0 + x.n1 < b)) (h2 : ¬ b < 1 + x.n0) : Calls Tryd.prog 84 #[(.agg #[.int .i64 x.t, .int .i64 x.s, .int .i64 x.l, .int .i64 x.c, .int .i64 x.s0, .int .i64 x.n0, .int .i64 x.s1, .int .i64 x.n1, .int .i64 x.r]), .int .i64 b] w fun e w' => e = .returned (.int .i64 (bB1 x + (b - (1 + x.n0)) * (1 + x.s1))) ∧ Below w.heap.size w w' := by
  have HL := Lib.hid hL
  have HR := Lib.hid hr
  have hcb := hr.b
  obtain ⟨s1, s2, s3, s4, s5, s6, s7, s8, s9, s10⟩ := hr.sizes
  have HC := Lib.hid (class_1 h h2)
  have HP := Lib.hid (place_in1 x b (by omega) (by omega))
  have b1 : 0 ≤ (b - (1 + x.n0)) := by omega
  have b3 : (b - (1 + x.n0)) < x.n1 := by omega
  have hw : IntKind.i64.wrap (b - (1 + x.n0)) = (b - (1 + x.n0)) := IntWalk.i64_in _ (by omega)
  have b2 : b ≤ 24 := by omega
  clear hL hr h h2
  go_enter Tryd.func84, Tryd.ntmps84
  go_wp2_with fail
  refine (class_any x b _ (HL.out.below ((Below.refl _ _).alloc (Nat.le_refl _) _)) HR.out).mono ?_
  rintro e w1 ⟨rfl, hb⟩
  have H1 := Lib.hid (show CW w w.heap.size x w1 from ⟨(cfgAt_box w x).below hb, Below.step (B := w.heap.size) (a := w) (by (repeat (first | with_reducible exact Below.refl _ _ | with_reducible refine Below.drew ?_ | (with_reducible refine Below.setCell ?_ ?side _; case side => exact (by first | (simp; done) | (simp; omega) | omega)) | (with_reducible refine Below.alloc ?_ ?side _; case side => exact (by first | (simp; done) | (simp; omega) | omega))))) hb (by first | (simp; done) | (simp; omega) | omega)⟩)
  clear hb
  rw [HC.out]
  go_wp2_with fail
  have f3 := lfld_3
  have i0 := lidx_1
  go_region_held3 (fun w' => w'.cell? ⟨w.heap.size, 0, none⟩ = some (.int .i64 x.t) ∧ w'.cell? ⟨w.heap.size, 1, none⟩ = some (.int .i64 x.s) ∧ w'.cell? ⟨w.heap.size, 2, none⟩ = some (.int .i64 x.l) ∧ w'.cell? ⟨w.heap.size, 3, none⟩ = some (.int .i64 x.c) ∧ w'.cell? ⟨w.heap.size, 4, none⟩ = some (.int .i64 x.s0) ∧ w'.cell? ⟨w.heap.size, 5, none⟩ = some (.int .i64 x.n0) ∧ w'.cell? ⟨w.heap.size, 6, none⟩ = some (.int .i64 x.s1) ∧ w'.cell? ⟨w.heap.size, 7, none⟩ = some (.int .i64 x.n1) ∧ w'.cell? ⟨w.heap.size, 8, none⟩ = some (.int .i64 x.r) ∧ CW w w.heap.size x w')
    (first | exact H1.out.drew.all | exact H2.out.all | exact H3.out.all | assumption)
    (first
      | (go_at_call 111; refine (lay_any x _ (HL.out.below H1.out.drew.be) HR.out).mono ?_; rintro e w2 ⟨v0, v1, v2, v3, v4, rfl, -, -, -, -, hf, hb⟩; obtain ⟨a, c, d, rfl, q1, q2, q3, q4, q5, q6⟩ := id hf; have HF := Lib.hid hf; have H2 := Lib.hid (H1.out.drew.below hb); clear hb hf q1 q2 q3 q4 q5 q6)
      | (go_at_call 113; refine (firstBlock_1 x _ (by omega) (by omega)).mono ?_; rintro e w3 ⟨rfl, hb⟩; have H3 := Lib.hid (H2.out.below hb); have HF3 := Lib.hid (HF.out.below hb); clear hb)
      | (go_at_call 141; refine (row_any _ (bB1 x) x.n1 (1 + x.s1) a c d HF3.out.cells.1 HF3.out.cells.2.1 HF3.out.cells.2.2 (b - (1 + x.n0)) (by omega) (by omega) (by omega) (by omega) (by omega)).mono ?_; rintro e w4 ⟨rfl, rfl⟩))
  all_goals
    go_wp2
    go_ret
    exact ⟨by rw [← HP.out]; rfl, H3.out.be⟩

theorem block_any (x : Cfg) (b : Int) (w : World) (hL : Lim w) (hr : Right x) : Calls Tryd.prog 84 #[(.agg #[.int .i64 x.t, .int .i64 x.s, .int .i64 x.l, .int .i64 x.c, .int .i64 x.s0, .int .i64 x.n0, .int .i64 x.s1, .int .i64 x.n1, .int .i64 x.r]), .int .i64 b] w fun e w' => e = .returned (.int .i64 (blockC x b)) ∧ Below w.heap.size w w' := by
  by_cases h : b < 1 ∨ x.n0 + x.n1 < b
  · rw [blockC, if_pos h]; exact block_out x b w hL hr h
  · rw [blockC, if_neg h]
    by_cases h2 : b < 1 + x.n0
    · rw [if_pos h2]; exact block_0 x b w hL hr h h2
    · rw [if_neg h2]; exact block_1 x b w hL hr h h2

/- The document's places. -/
set_option maxHeartbeats 400000 in
theorem r4Blocks_any (x : Cfg) (w : World) (h0 : 0 ≤ x.n0) (h1 : x.n0 ≤ 12) (h2 : 0 ≤ x.n1) (h3 : x.n1 ≤ 12) : Calls Tryd.prog 38 #[(.agg #[.int .i64 x.t, .int .i64 x.s, .int .i64 x.l, .int .i64 x.c, .int .i64 x.s0, .int .i64 x.n0, .int .i64 x.s1, .int .i64 x.n1, .int .i64 x.r])] w fun e w' => e = .returned (.int .i64 (x.n0 + x.n1)) ∧ Below w.heap.size w w' := by
  go_enter Tryd.func38, Tryd.ntmps38
  go_wp2
  go_ret
  refine ⟨rfl, ?_⟩
  (repeat (first | with_reducible exact Below.refl _ _ | with_reducible refine Below.drew ?_ | (with_reducible refine Below.setCell ?_ ?side _; case side => exact (by first | (simp; done) | (simp; omega) | omega)) | (with_reducible refine Below.alloc ?_ ?side _; case side => exact (by first | (simp; done) | (simp; omega) | omega))))

set_option maxHeartbeats 1000000 in
theorem r4Class_any (x : Cfg) (b : Int) (w : World) (hr : Right x) : Calls Tryd.prog 70 #[(.agg #[.int .i64 x.t, .int .i64 x.s, .int .i64 x.l, .int .i64 x.c, .int .i64 x.s0, .int .i64 x.n0, .int .i64 x.s1, .int .i64 x.n1, .int .i64 x.r]), .int .i64 b] w fun e w' => e = .returned (.int .i64 (classC x b)) ∧ Below w.heap.size w w' := by
  have hcb := hr.b
  have HU := Lib.hid (show classC x b = if b < 1 ∨ x.n0 + x.n1 < b then -1 else if b < 1 + x.n0 then 0 else 1 from rfl)
  clear hr
  by_cases h1 : b < 1
  · have d1 : decide (b < 1) = true := by simpa using h1
    have HK := Lib.hid h1
    clear h1
    go_enter Tryd.func70, Tryd.ntmps70
    go_wp2
    go_ret
    refine ⟨by rw [HU.out, if_pos (.inl HK.out)]; rfl, ?_⟩
    (repeat (first | with_reducible exact Below.refl _ _ | with_reducible refine Below.drew ?_ | (with_reducible refine Below.setCell ?_ ?side _; case side => exact (by first | (simp; done) | (simp; omega) | omega)) | (with_reducible refine Below.alloc ?_ ?side _; case side => exact (by first | (simp; done) | (simp; omega) | omega))))
  · have d1 : decide (b < 1) = false := by simpa using h1
    by_cases h2 : x.n0 + x.n1 < b
    · have d2 : decide (x.n0 + x.n1 < b) = true := by simpa using h2
      have HK := Lib.hid h2
      clear h1 h2
      go_enter Tryd.func70, Tryd.ntmps70
      go_wp2_with fail
      refine (r4Blocks_any x _ (by omega) (by omega) (by omega) (by omega)).mono ?_
      rintro e w1 ⟨rfl, hb⟩
      have H1 := Lib.hid (Below.step (B := w.heap.size) (a := w) (by (repeat (first | with_reducible exact Below.refl _ _ | with_reducible refine Below.drew ?_ | (with_reducible refine Below.setCell ?_ ?side _; case side => exact (by first | (simp; done) | (simp; omega) | omega)) | (with_reducible refine Below.alloc ?_ ?side _; case side => exact (by first | (simp; done) | (simp; omega) | omega))))) hb (by first | (simp; done) | (simp; omega) | omega))
      clear hb
      go_wp2
      go_ret
      exact ⟨by rw [HU.out, if_pos (.inr HK.out)]; rfl, H1.out⟩
    · have d2 : decide (x.n0 + x.n1 < b) = false := by simpa using h2
      have HI := Lib.hid (show ¬ (b < 1 ∨ x.n0 + x.n1 < b) by omega)
      clear h1 h2
      go_enter Tryd.func70, Tryd.ntmps70
      go_wp2_with fail
      refine (r4Blocks_any x _ (by omega) (by omega) (by omega) (by omega)).mono ?_
      rintro e w1 ⟨rfl, hb⟩
      have H1 := Lib.hid (Below.step (B := w.heap.size) (a := w) (by (repeat (first | with_reducible exact Below.refl _ _ | with_reducible refine Below.drew ?_ | (with_reducible refine Below.setCell ?_ ?side _; case side => exact (by first | (simp; done) | (simp; omega) | omega)) | (with_reducible refine Below.alloc ?_ ?side _; case side => exact (by first | (simp; done) | (simp; omega) | omega))))) hb (by first | (simp; done) | (simp; omega) | omega))
      obtain ⟨c0, c1, c2, c3, c4, c5, c6, c7, c8⟩ := ((cfgAt_box w x).below hb).cells
      clear hb
      by_cases h3 : b < 1 + x.n0
      · have d3 : decide (b ≤ x.n0) = true := by simp; omega
        have HK := Lib.hid h3
        clear h3
        go_wp2
        go_ret
        exact ⟨by rw [HU.out, if_neg HI.out, if_pos HK.out]; rfl, H1.out⟩
      · have d3 : decide (b ≤ x.n0) = false := by simp; omega
        have HK := Lib.hid h3
        clear h3
        go_wp2
        go_ret
        exact ⟨by rw [HU.out, if_neg HI.out, if_neg (by have := HK.out; omega)]; rfl, H1.out⟩

end Go.Proofs.YtkpffnihnhlghaaDoor
