/- NewTake, NewGive. -/
import Derived.Test.YtkpffnihnhlghaaDoorOGive
namespace Go.Proofs.YtkpffnihnhlghaaDoor
open Go.RowKit
set_option maxRecDepth 100000 in
set_option maxHeartbeats 2000000 in
theorem newtake_no (x : Cfg) (cls : Int) (w : World) (hL : Lim w) (hr : rightB x = false) : Calls Tryd.prog 40 #[(.agg #[.int .i64 x.t, .int .i64 x.s, .int .i64 x.l, .int .i64 x.c, .int .i64 x.s0, .int .i64 x.n0, .int .i64 x.s1, .int .i64 x.n1, .int .i64 x.r]), .int .i64 cls] w fun e w' => e = .returned (.pointer none) ∧ Below w.heap.size w w' := by
  have HL := Lib.hid hL
  have HR := Lib.hid hr
  clear hL hr
  go_enter Tryd.func40, Tryd.ntmps40
  go_wp2_with fail
  refine (check_no x _ (HL.out.below ((Below.refl _ _).alloc (Nat.le_refl _) _)) HR.out).mono ?_
  rintro e w1 ⟨rfl, hb⟩
  have H1 := Lib.hid (Below.step (B := w.heap.size) (a := w) (by (repeat (first | with_reducible exact Below.refl _ _ | with_reducible refine Below.drew ?_ | (with_reducible refine Below.setCell ?_ ?side _; case side => exact (by first | (simp; done) | (simp; omega) | omega)) | (with_reducible refine Below.alloc ?_ ?side _; case side => exact (by first | (simp; done) | (simp; omega) | omega))))) hb (by first | (simp; done) | (simp; omega) | omega))
  clear hb
  go_wp2
  go_ret
  exact ⟨rfl, H1.out⟩
set_option maxRecDepth 100000 in
set_option maxHeartbeats 2000000 in
theorem newtake_out (x : Cfg) (cls : Int) (hc : cls < 0 ∨ 2 ≤ cls) (w : World) (hL : Lim w) (hr : Right x) : Calls Tryd.prog 40 #[(.agg #[.int .i64 x.t, .int .i64 x.s, .int .i64 x.l, .int .i64 x.c, .int .i64 x.s0, .int .i64 x.n0, .int .i64 x.s1, .int .i64 x.n1, .int .i64 x.r]), .int .i64 cls] w fun e w' => e = .returned (.pointer none) ∧ Below w.heap.size w w' := by
  have HL := Lib.hid hL
  have HR := Lib.hid (rightB_true hr)
  have HH : Hid (∀ W : World, Calls Tryd.prog 81 #[.int .i64 cls] W fun e W' => e = .returned (.int .i64 (-1)) ∧ W = W') := Lib.hid fun W => by
    have h := head_any cls W
    rw [show headC cls = -1 by unfold headC; rw [if_pos (by omega)]] at h
    exact h
  clear hL hr hc
  go_enter Tryd.func40, Tryd.ntmps40
  go_wp2_with fail
  refine (check_yes x _ (HL.out.below ((Below.refl _ _).alloc (Nat.le_refl _) _)) HR.out).mono ?_
  rintro e w1 ⟨rfl, hb⟩
  have H1 := Lib.hid (Below.step (B := w.heap.size) (a := w) (by (repeat (first | with_reducible exact Below.refl _ _ | with_reducible refine Below.drew ?_ | (with_reducible refine Below.setCell ?_ ?side _; case side => exact (by first | (simp; done) | (simp; omega) | omega)) | (with_reducible refine Below.alloc ?_ ?side _; case side => exact (by first | (simp; done) | (simp; omega) | omega))))) hb (by first | (simp; done) | (simp; omega) | omega))
  clear hb
  go_wp2_with fail
  refine (HH.out _).mono ?_
  rintro e w2 ⟨rfl, rfl⟩
  go_wp2
  go_ret
  exact ⟨rfl, H1.out⟩
/-- Behind NewTake. -/
def NewT (x : Cfg) (cls : Int) (w : World) (e : Ending) (w' : World) : Prop := ∃ q, e = .returned (.pointer (some ⟨q, 0, none⟩)) ∧ w.heap.size ≤ q ∧ TakeAt w' q x ⟨cls, 0, 0, 0, 1⟩ ∧ Below w.heap.size w w'
set_option maxRecDepth 100000 in
set_option maxHeartbeats 4000000 in
theorem newtake_any (x : Cfg) (cls : Int) (hc : 0 ≤ cls ∧ cls ≤ 1) (w : World) (hL : Lim w) (hr : Right x) : Calls Tryd.prog 40 #[(.agg #[.int .i64 x.t, .int .i64 x.s, .int .i64 x.l, .int .i64 x.c, .int .i64 x.s0, .int .i64 x.n0, .int .i64 x.s1, .int .i64 x.n1, .int .i64 x.r]), .int .i64 cls] w (NewT x cls w) := by
  have hmk := mk_funcA
  have HL := Lib.hid hL
  have HR := Lib.hid (rightB_true hr)
  have HH : Hid (∀ W : World, Calls Tryd.prog 81 #[.int .i64 cls] W fun e W' => e = .returned (.int .i64 (3 + cls)) ∧ W = W') := Lib.hid fun W => headz cls hc W
  have d0 : decide (3 + cls < 0) = false := by simp; omega
  clear hL hr hc
  go_enter Tryd.func40, Tryd.ntmps40
  go_wp2_with fail
  refine (check_yes x _ (HL.out.below ((Below.refl _ _).alloc (Nat.le_refl _) _)) HR.out).mono ?_
  rintro e w1 ⟨rfl, hb⟩
  have H1 := Lib.hid (Below.step (B := w.heap.size) (a := w) (by (repeat (first | with_reducible exact Below.refl _ _ | with_reducible refine Below.drew ?_ | (with_reducible refine Below.setCell ?_ ?side _; case side => exact (by first | (simp; done) | (simp; omega) | omega)) | (with_reducible refine Below.alloc ?_ ?side _; case side => exact (by first | (simp; done) | (simp; omega) | omega))))) hb (by first | (simp; done) | (simp; omega) | omega))
  have HC1 := Lib.hid ((cfgAt_box w x).below hb)
  clear hb
  obtain ⟨c0, c1, c2, c3, c4, c5, c6, c7, c8⟩ := HC1.out.cells
  go_wp2_with fail
  refine (HH.out _).mono ?_
  rintro e w2 ⟨rfl, rfl⟩
  have hz1 := H1.out.size
  have hby : TakeAt (w1.alloc (.cells #[.int .i64 cls, .int .u64 0, .int .i64 x.t, .int .i64 x.s, .int .i64 x.l, .int .i64 x.c, .int .i64 x.s0, .int .i64 x.n0, .int .i64 x.s1, .int .i64 x.n1, .int .i64 x.r, .int .i64 0, .int .i64 0, .func (.func 82) #[.pointer (some ⟨w1.heap.size, 0, none⟩)] #[]] 140)) w1.heap.size x ⟨cls, 0, 0, 0, 1⟩ := World.rowIs_alloc w1 #[.int .i64 cls, .int .u64 0, .int .i64 x.t, .int .i64 x.s, .int .i64 x.l, .int .i64 x.c, .int .i64 x.s0, .int .i64 x.n0, .int .i64 x.s1, .int .i64 x.n1, .int .i64 x.r, .int .i64 0, .int .i64 0, .func (.func 82) #[.pointer (some ⟨w1.heap.size, 0, none⟩)] #[]] 140 _ (by intro j hj; match j, hj with | 0, _ => rfl | 1, _ => rfl | 2, _ => rfl | 3, _ => rfl | 4, _ => rfl | 5, _ => rfl | 6, _ => rfl | 7, _ => rfl | 8, _ => rfl | 9, _ => rfl | 10, _ => rfl | 11, _ => rfl | 12, _ => rfl | 13, _ => rfl)
  have HBY := Lib.hid hby
  clear hby
  go_wp2
  go_ret
  refine ⟨_, rfl, ?_, HBY.out, ?_⟩
  · omega
  · exact H1.out.alloc hz1 _
set_option maxRecDepth 100000 in
set_option maxHeartbeats 2000000 in
theorem class_no (x : Cfg) (b : Int) (hb1 : 1 ≤ b) (w : World) (hL : Lim w) (hr : rightB x = false) : Calls Tryd.prog 83 #[(.agg #[.int .i64 x.t, .int .i64 x.s, .int .i64 x.l, .int .i64 x.c, .int .i64 x.s0, .int .i64 x.n0, .int .i64 x.s1, .int .i64 x.n1, .int .i64 x.r]), .int .i64 b] w fun e w' => e = .returned (.int .i64 (-1)) ∧ Below w.heap.size w w' := by
  have HL := Lib.hid hL
  have HR := Lib.hid hr
  have d1 : decide (b < 1) = false := by simp; omega
  have d2 : decide (0 < b) = true := by simp; omega
  have g1 : ¬ b < 1 := by omega
  have g2 : 0 < b := by omega
  clear hL hr hb1
  go_enter Tryd.func83, Tryd.ntmps83
  go_wp2_with fail
  refine (blocks_no x _ (HL.out.below ((Below.refl _ _).alloc (Nat.le_refl _) _)) HR.out).mono ?_
  rintro e w1 ⟨rfl, hb⟩
  have H1 := Lib.hid (Below.step (B := w.heap.size) (a := w) (by (repeat (first | with_reducible exact Below.refl _ _ | with_reducible refine Below.drew ?_ | (with_reducible refine Below.setCell ?_ ?side _; case side => exact (by first | (simp; done) | (simp; omega) | omega)) | (with_reducible refine Below.alloc ?_ ?side _; case side => exact (by first | (simp; done) | (simp; omega) | omega))))) hb (by first | (simp; done) | (simp; omega) | omega))
  clear hb
  go_wp2
  go_ret
  exact ⟨rfl, H1.out⟩
set_option maxRecDepth 100000 in
set_option maxHeartbeats 2000000 in
theorem newgive_nil (x : Cfg) (b : Int) (C : Int) (hC : C < 0) (w : World) (h : ∀ W, Below w.heap.size w W → Calls Tryd.prog 83 #[(.agg #[.int .i64 x.t, .int .i64 x.s, .int .i64 x.l, .int .i64 x.c, .int .i64 x.s0, .int .i64 x.n0, .int .i64 x.s1, .int .i64 x.n1, .int .i64 x.r]), .int .i64 b] W fun e W' => e = .returned (.int .i64 C) ∧ Below W.heap.size W W') : Calls Tryd.prog 41 #[(.agg #[.int .i64 x.t, .int .i64 x.s, .int .i64 x.l, .int .i64 x.c, .int .i64 x.s0, .int .i64 x.n0, .int .i64 x.s1, .int .i64 x.n1, .int .i64 x.r]), .int .i64 b] w fun e w' => e = .returned (.pointer none) ∧ Below w.heap.size w w' := by
  have H := Lib.hid h
  have d1 : decide (C < 0) = true := decide_eq_true hC
  clear h hC
  go_enter Tryd.func41, Tryd.ntmps41
  go_wp2_with fail
  refine (H.out _ ((Below.refl _ _).alloc (Nat.le_refl _) _)).mono ?_
  rintro e w1 ⟨rfl, hb⟩
  have H1 := Lib.hid (Below.step (B := w.heap.size) (a := w) (by (repeat (first | with_reducible exact Below.refl _ _ | with_reducible refine Below.drew ?_ | (with_reducible refine Below.setCell ?_ ?side _; case side => exact (by first | (simp; done) | (simp; omega) | omega)) | (with_reducible refine Below.alloc ?_ ?side _; case side => exact (by first | (simp; done) | (simp; omega) | omega))))) hb (by first | (simp; done) | (simp; omega) | omega))
  clear hb
  go_wp2
  go_ret
  exact ⟨rfl, H1.out⟩
/-- Behind NewGive. -/
def NewG (C b wd : Int) (w : World) (e : Ending) (w' : World) : Prop := ∃ q, e = .returned (.pointer (some ⟨q, 0, none⟩)) ∧ w.heap.size ≤ q ∧ GiveAt w' q ⟨C, 0, b, wd, 1⟩ ∧ Below w.heap.size w w'
set_option maxRecDepth 100000 in
set_option maxHeartbeats 4000000 in
theorem newgive_any (x : Cfg) (b C wd : Int) (hcl : classC x b = C) (hC : 0 ≤ C) (hwd : blockC x b = wd) (w : World) (hL : Lim w) (hr : Right x) : Calls Tryd.prog 41 #[(.agg #[.int .i64 x.t, .int .i64 x.s, .int .i64 x.l, .int .i64 x.c, .int .i64 x.s0, .int .i64 x.n0, .int .i64 x.s1, .int .i64 x.n1, .int .i64 x.r]), .int .i64 b] w (NewG C b wd w) := by
  have hmk := mk_funcA
  have HL := Lib.hid hL
  have HCL : Hid (∀ W : World, Lim W → Calls Tryd.prog 83 #[(.agg #[.int .i64 x.t, .int .i64 x.s, .int .i64 x.l, .int .i64 x.c, .int .i64 x.s0, .int .i64 x.n0, .int .i64 x.s1, .int .i64 x.n1, .int .i64 x.r]), .int .i64 b] W fun e W' => e = .returned (.int .i64 C) ∧ Below W.heap.size W W') := Lib.hid fun W h => by rw [← hcl]; exact class_any x b W h hr
  have HBK : Hid (∀ W : World, Lim W → Calls Tryd.prog 84 #[(.agg #[.int .i64 x.t, .int .i64 x.s, .int .i64 x.l, .int .i64 x.c, .int .i64 x.s0, .int .i64 x.n0, .int .i64 x.s1, .int .i64 x.n1, .int .i64 x.r]), .int .i64 b] W fun e W' => e = .returned (.int .i64 wd) ∧ Below W.heap.size W W') := Lib.hid fun W h => by rw [← hwd]; exact block_any x b W h hr
  have d1 : decide (C < 0) = false := by simp; omega
  clear hL hr hcl hwd hC
  go_enter Tryd.func41, Tryd.ntmps41
  go_wp2_with fail
  refine (HCL.out _ (HL.out.below ((Below.refl _ _).alloc (Nat.le_refl _) _))).mono ?_
  rintro e w1 ⟨rfl, hb⟩
  have H1 := Lib.hid (Below.step (B := w.heap.size) (a := w) (by (repeat (first | with_reducible exact Below.refl _ _ | with_reducible refine Below.drew ?_ | (with_reducible refine Below.setCell ?_ ?side _; case side => exact (by first | (simp; done) | (simp; omega) | omega)) | (with_reducible refine Below.alloc ?_ ?side _; case side => exact (by first | (simp; done) | (simp; omega) | omega))))) hb (by first | (simp; done) | (simp; omega) | omega))
  have HC1 := Lib.hid ((cfgAt_box w x).below hb)
  clear hb
  obtain ⟨c0, c1, c2, c3, c4, c5, c6, c7, c8⟩ := HC1.out.cells
  go_wp2_with fail
  refine (HBK.out _ (HL.out.below H1.out)).mono ?_
  rintro e w2 ⟨rfl, hb⟩
  have H2 := Lib.hid (Below.step H1.out hb H1.out.size)
  have hz2 := H2.out.size
  clear hb c0 c1 c2 c3 c4 c5 c6 c7 c8
  have hby : GiveAt (w2.alloc (.cells #[.int .i64 C, .int .u64 0, .int .i64 b, .int .i64 wd, .func (.func 85) #[.pointer (some ⟨w2.heap.size, 0, none⟩)] #[]] 147)) w2.heap.size ⟨C, 0, b, wd, 1⟩ := World.rowIs_alloc w2 #[.int .i64 C, .int .u64 0, .int .i64 b, .int .i64 wd, .func (.func 85) #[.pointer (some ⟨w2.heap.size, 0, none⟩)] #[]] 147 _ (by intro j hj; match j, hj with | 0, _ => rfl | 1, _ => rfl | 2, _ => rfl | 3, _ => rfl | 4, _ => rfl)
  have HBY := Lib.hid hby
  clear hby
  go_wp2
  go_ret
  refine ⟨_, rfl, hz2, HBY.out, ?_⟩
  exact H2.out.alloc hz2 _

end Go.Proofs.YtkpffnihnhlghaaDoor
