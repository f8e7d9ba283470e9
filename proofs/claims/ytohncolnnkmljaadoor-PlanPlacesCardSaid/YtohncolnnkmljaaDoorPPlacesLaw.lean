/- The law's places: of a config, and numbers. -/
import Derived.Test.YtohncolnnkmljaaDoorPLawPlaces
namespace Go.Proofs.YtohncolnnkmljaaDoor
open Go.RowKit
theorem head_in (i : Int) (h : i = 0 ∨ i = 1) (w : World) : Calls Tryd.prog 19 #[.int .i64 i] w fun e w' => e = .returned (.int .i64 (3 + i)) ∧ w = w' := by
  have k := head_any i w
  rw [headC, if_neg (by omega)] at k
  exact k
theorem head_out (i : Int) (h : ¬ (i = 0 ∨ i = 1)) (w : World) : Calls Tryd.prog 19 #[.int .i64 i] w fun e w' => e = .returned (.int .i64 (-1)) ∧ w = w' := by
  have k := head_any i w
  rw [headC, if_pos (by omega)] at k
  exact k

set_option maxRecDepth 100000 in
set_option maxHeartbeats 8000000 in
theorem places_out (x : Cfg) (i k : Int) (w : World) (hL : Lim w) (hr : Right x) (h : ¬ (i = 0 ∨ i = 1)) : Calls Tryd.prog 14 #[(.agg #[.int .i64 x.t, .int .i64 x.s, .int .i64 x.l, .int .i64 x.c, .int .i64 x.s0, .int .i64 x.n0, .int .i64 x.s1, .int .i64 x.n1, .int .i64 x.r]), .int .i64 i, .int .i64 k] w fun e w' => e = .returned (.bool true) ∧ Below w.heap.size w w' := by
  have HL := Lib.hid hL
  have HR := Lib.hid hr
  have HI := Lib.hid h
  have d1 : (i == 0) = false := by simp; omega
  have d2 : (i == 1) = false := by simp; omega
  clear hL hr h
  go_enter Tryd.func14, Tryd.ntmps14
  go_wp2_with fail
  have H0 := Lib.hid (show CW w w.heap.size x (w.alloc (.cells #[.int .i64 x.t, .int .i64 x.s, .int .i64 x.l, .int .i64 x.c, .int .i64 x.s0, .int .i64 x.n0, .int .i64 x.s1, .int .i64 x.n1, .int .i64 x.r] 26)) from ⟨cfgAt_box w x, ((Below.refl _ _).alloc (Nat.le_refl _) _)⟩)
  clear d1 d2
  generalize w.alloc (.cells #[.int .i64 x.t, .int .i64 x.s, .int .i64 x.l, .int .i64 x.c, .int .i64 x.s0, .int .i64 x.n0, .int .i64 x.s1, .int .i64 x.n1, .int .i64 x.r] 26) = W0 at H0 ⊢
  go_region_held3 (fun w' => w'.cell? ⟨w.heap.size, 0, none⟩ = some (.int .i64 x.t) ∧ w'.cell? ⟨w.heap.size, 1, none⟩ = some (.int .i64 x.s) ∧ w'.cell? ⟨w.heap.size, 2, none⟩ = some (.int .i64 x.l) ∧ w'.cell? ⟨w.heap.size, 3, none⟩ = some (.int .i64 x.c) ∧ w'.cell? ⟨w.heap.size, 4, none⟩ = some (.int .i64 x.s0) ∧ w'.cell? ⟨w.heap.size, 5, none⟩ = some (.int .i64 x.n0) ∧ w'.cell? ⟨w.heap.size, 6, none⟩ = some (.int .i64 x.s1) ∧ w'.cell? ⟨w.heap.size, 7, none⟩ = some (.int .i64 x.n1) ∧ w'.cell? ⟨w.heap.size, 8, none⟩ = some (.int .i64 x.r) ∧ CW w w.heap.size x w')
      (first | exact H0.out.drew.all | exact H1.out.all | exact H2.out.all | exact H3.out.all | exact H4.out.all | exact H5.out.all | exact H6.out.all | exact H7.out.all | exact H8.out.all | exact H9.out.all | exact H10.out.all | exact H11.out.all | exact H12.out.all | assumption)
      (first
        | (go_at_call 19; refine (head_out i HI.out _).mono ?_; rintro e w' ⟨rfl, rfl⟩)
        | (go_at_call 20; refine (slot_any x i _ (HL.out.below H0.out.drew.be) HR.out).mono ?_; rintro e w1 ⟨rfl, hb⟩; have H1 := Lib.hid (H0.out.drew.below hb); clear hb)
        | (go_at_call 45; refine (r4Slot_any x i _ HR.out).mono ?_; rintro e w2 ⟨rfl, hb⟩; have H2 := Lib.hid (H1.out.below hb); clear hb)
        | (go_at_call 21; refine (entry_any x i _ (HL.out.below H2.out.be) HR.out).mono ?_; rintro e w3 ⟨rfl, hb⟩; have H3 := Lib.hid (H2.out.below hb); clear hb)
        | (go_at_call 46; refine (r4Entry_any x i _ HR.out).mono ?_; rintro e w4 ⟨rfl, hb⟩; have H4 := Lib.hid (H3.out.below hb); clear hb)
        | (go_at_call 22; refine (control_any x i _ (HL.out.below H4.out.be) HR.out).mono ?_; rintro e w5 ⟨rfl, hb⟩; have H5 := Lib.hid (H4.out.below hb); clear hb)
        | (go_at_call 47; refine (r4Control_any x i _ HR.out).mono ?_; rintro e w6 ⟨rfl, hb⟩; have H6 := Lib.hid (H5.out.below hb); clear hb)
        | (go_at_call 23; refine (buffer_any x i k _ (HL.out.below H6.out.be) HR.out).mono ?_; rintro e w7 ⟨rfl, hb⟩; have H7 := Lib.hid (H6.out.below hb); clear hb)
        | (go_at_call 48; refine (r4Buffer_any x i k _ HR.out).mono ?_; rintro e w8 ⟨rfl, hb⟩; have H8 := Lib.hid (H7.out.below hb); clear hb)
        | (go_at_call 25; refine (block_any x i _ (HL.out.below H8.out.be) HR.out).mono ?_; rintro e w9 ⟨rfl, hb⟩; have H9 := Lib.hid (H8.out.below hb); clear hb)
        | (go_at_call 49; refine (r4Block_any x i _ HR.out).mono ?_; rintro e w10 ⟨rfl, hb⟩; have H10 := Lib.hid (H9.out.below hb); clear hb)
        | (go_at_call 24; refine (class_any x i _ (HL.out.below H10.out.be) HR.out).mono ?_; rintro e w11 ⟨rfl, hb⟩; have H11 := Lib.hid (H10.out.below hb); clear hb)
        | (go_at_call 50; refine (r4Class_any x i _ HR.out).mono ?_; rintro e w12 ⟨rfl, hb⟩; have H12 := Lib.hid (H11.out.below hb); clear hb))
  all_goals
    go_wp2
    go_ret
    exact ⟨rfl, H12.out.be⟩

end Go.Proofs.YtohncolnnkmljaaDoor
