/- PlanTells: the walk. -/
import Derived.Test.YtohncolnnkmljaaDoorPRefU
import Derived.Test.YtohncolnnkmljaaDoorPOnce
namespace Go.Proofs.YtohncolnnkmljaaDoor
open Go.RowKit
set_option maxRecDepth 100000 in
set_option maxHeartbeats 4000000 in
theorem tells_yes (x : Cfg) (w : World) (hL : Lim w) (hE : Cs.ErrT w) (hr : rightB x = true) : Calls Tryd.prog 12 #[(.agg #[.int .i64 x.t, .int .i64 x.s, .int .i64 x.l, .int .i64 x.c, .int .i64 x.s0, .int .i64 x.n0, .int .i64 x.s1, .int .i64 x.n1, .int .i64 x.r])] w fun e w' => e = .returned (.bool true) ∧ Below w.heap.size w w' := by
  have HL := Lib.hid hL
  have HE := Lib.hid hE
  have HR := Lib.hid hr
  clear hL hE hr
  go_enter Tryd.func12, Tryd.ntmps12
  go_wp2_with fail
  refine (r4Right_any x _).mono ?_
  rintro e w1 ⟨rfl, hb⟩
  have H0 := Lib.hid (show CW w w.heap.size x w1 from ⟨(cfgAt_box w x).below hb, Below.step (B := w.heap.size) (a := w) (by (repeat (first | with_reducible exact Below.refl _ _ | with_reducible refine Below.drew ?_ | (with_reducible refine Below.setCell ?_ ?side _; case side => exact (by first | (simp; done) | (simp; omega) | omega)) | (with_reducible refine Below.alloc ?_ ?side _; case side => exact (by first | (simp; done) | (simp; omega) | omega))))) hb (by first | (simp; done) | (simp; omega) | omega)⟩)
  clear hb
  rw [HR.out]
  obtain ⟨c0, c1, c2, c3, c4, c5, c6, c7, c8⟩ := H0.out.cfg.cells
  go_wp2_with fail
  refine (r4Size_any x _ (right_of HR.out)).mono ?_
  rintro e w2 ⟨rfl, hb⟩
  have H0' := Lib.hid (H0.out.below hb)
  clear hb H0 c0 c1 c2 c3 c4 c5 c6 c7 c8
  have H0 := Lib.hid H0'.out
  clear H0'
  go_wp2_with fail
  go_region_held3 (fun w' => w'.cell? ⟨w.heap.size, 0, none⟩ = some (.int .i64 x.t) ∧ w'.cell? ⟨w.heap.size, 1, none⟩ = some (.int .i64 x.s) ∧ w'.cell? ⟨w.heap.size, 2, none⟩ = some (.int .i64 x.l) ∧ w'.cell? ⟨w.heap.size, 3, none⟩ = some (.int .i64 x.c) ∧ w'.cell? ⟨w.heap.size, 4, none⟩ = some (.int .i64 x.s0) ∧ w'.cell? ⟨w.heap.size, 5, none⟩ = some (.int .i64 x.n0) ∧ w'.cell? ⟨w.heap.size, 6, none⟩ = some (.int .i64 x.s1) ∧ w'.cell? ⟨w.heap.size, 7, none⟩ = some (.int .i64 x.n1) ∧ w'.cell? ⟨w.heap.size, 8, none⟩ = some (.int .i64 x.r) ∧ CW w w.heap.size x w')
    (first | exact H0.out.drew.all | exact H1.out.all | exact H2.out.all | exact H3.out.all | exact H4.out.all | exact H5.out.all | assumption)
    (first
      | (go_at_call 44; (with_reducible refine (check_yes x _ (HL.out.below H0.out.drew.be) HR.out).mono ?_); rintro e w1 ⟨rfl, hb⟩; have H1 := Lib.hid (H0.out.drew.below hb); clear hb)
      | (go_at_call 28; (with_reducible refine (top_none _ (HE.out.below H1.out.be)).mono ?_); rintro e w2 ⟨rfl, hb⟩; have H2 := Lib.hid (H1.out.below hb); clear hb)
      | (go_at_call 18; (with_reducible refine (size_yes x _ (HL.out.below H2.out.be) (right_of HR.out)).mono ?_); rintro e w3 ⟨rfl, hb⟩; have H3 := Lib.hid (H2.out.below hb); clear hb)
      | (go_at_call 41; (with_reducible refine (pack_yes x _ (HL.out.below H3.out.be) HR.out).mono ?_); rintro e w4 ⟨rfl, hb⟩; have H4 := Lib.hid (H3.out.below hb); clear hb)
      | (go_at_call 11; (with_reducible refine (r4Pack_yes x _ HR.out).mono ?_); rintro e w5 ⟨rfl, hb⟩; have H5 := Lib.hid (H4.out.below hb); clear hb))
  all_goals
    go_wp2
    go_ret
    exact ⟨rfl, H5.out.be⟩

set_option maxRecDepth 100000 in
set_option maxHeartbeats 4000000 in
theorem tells_no (x : Cfg) (w : World) (hL : Lim w) (hE : Cs.ErrT w) (hr : rightB x = false) : Calls Tryd.prog 12 #[(.agg #[.int .i64 x.t, .int .i64 x.s, .int .i64 x.l, .int .i64 x.c, .int .i64 x.s0, .int .i64 x.n0, .int .i64 x.s1, .int .i64 x.n1, .int .i64 x.r])] w fun e w' => e = .returned (.bool true) ∧ Below w.heap.size w w' := by
  have HL := Lib.hid hL
  have HE := Lib.hid hE
  have HR := Lib.hid hr
  clear hL hE hr
  go_enter Tryd.func12, Tryd.ntmps12
  go_wp2_with fail
  refine (r4Right_any x _).mono ?_
  rintro e w1 ⟨rfl, hb⟩
  have H0 := Lib.hid (show CW w w.heap.size x w1 from ⟨(cfgAt_box w x).below hb, Below.step (B := w.heap.size) (a := w) (by (repeat (first | with_reducible exact Below.refl _ _ | with_reducible refine Below.drew ?_ | (with_reducible refine Below.setCell ?_ ?side _; case side => exact (by first | (simp; done) | (simp; omega) | omega)) | (with_reducible refine Below.alloc ?_ ?side _; case side => exact (by first | (simp; done) | (simp; omega) | omega))))) hb (by first | (simp; done) | (simp; omega) | omega)⟩)
  clear hb
  rw [HR.out]
  go_wp2_with fail
  go_region_held3 (fun w' => w'.cell? ⟨w.heap.size, 0, none⟩ = some (.int .i64 x.t) ∧ w'.cell? ⟨w.heap.size, 1, none⟩ = some (.int .i64 x.s) ∧ w'.cell? ⟨w.heap.size, 2, none⟩ = some (.int .i64 x.l) ∧ w'.cell? ⟨w.heap.size, 3, none⟩ = some (.int .i64 x.c) ∧ w'.cell? ⟨w.heap.size, 4, none⟩ = some (.int .i64 x.s0) ∧ w'.cell? ⟨w.heap.size, 5, none⟩ = some (.int .i64 x.n0) ∧ w'.cell? ⟨w.heap.size, 6, none⟩ = some (.int .i64 x.s1) ∧ w'.cell? ⟨w.heap.size, 7, none⟩ = some (.int .i64 x.n1) ∧ w'.cell? ⟨w.heap.size, 8, none⟩ = some (.int .i64 x.r) ∧ CW w w.heap.size x w')
    (first | exact H0.out.drew.all | exact H1.out.all | exact H2.out.all | exact H3.out.all | exact H4.out.all | exact H5.out.all | assumption)
    (first
      | (go_at_call 44; (with_reducible refine (check_no x _ (HL.out.below H0.out.drew.be) HR.out).mono ?_); rintro e w1 ⟨rfl, hb⟩; have H1 := Lib.hid (H0.out.drew.below hb); clear hb)
      | (go_at_call 28; (with_reducible refine (top_one 1 (by omega) _ (HE.out.below H1.out.be)).mono ?_); rintro e w2 ⟨rfl, hb⟩; have H2 := Lib.hid (H1.out.below hb); clear hb)
      | (go_at_call 18; (with_reducible refine (size_no x _ (HL.out.below H2.out.be) HR.out).mono ?_); rintro e w3 ⟨rfl, hb⟩; have H3 := Lib.hid (H2.out.below hb); clear hb)
      | (go_at_call 41; (with_reducible refine (pack_no x _ (HL.out.below H3.out.be) HR.out).mono ?_); rintro e w4 ⟨rfl, hb⟩; have H4 := Lib.hid (H3.out.below hb); clear hb)
      | (go_at_call 11; (with_reducible refine (r4Pack_no x _ HR.out).mono ?_); rintro e w5 ⟨rfl, hb⟩; have H5 := Lib.hid (H4.out.below hb); clear hb))
  all_goals
    go_wp2
    go_ret
    exact ⟨rfl, H5.out.be⟩


theorem tells_any (x : Cfg) (w : World) (hL : Lim w) (hE : Cs.ErrT w) : Calls Tryd.prog 12 #[(.agg #[.int .i64 x.t, .int .i64 x.s, .int .i64 x.l, .int .i64 x.c, .int .i64 x.s0, .int .i64 x.n0, .int .i64 x.s1, .int .i64 x.n1, .int .i64 x.r])] w fun e w' => e = .returned (.bool true) ∧ Below w.heap.size w w' := by
  by_cases h : rightB x = true
  · exact tells_yes x w hL hE h
  · exact tells_no x w hL hE (by simpa using h)

set_option maxRecDepth 100000 in
set_option maxHeartbeats 4000000 in
theorem unpacks_any (W : V) (w : World) (hL : Lim w) (hE : Cs.ErrT w) : Calls Tryd.prog 13 #[.int .u64 (W.toNat : Int)] w fun e w' => e = .returned (.bool true) ∧ Below w.heap.size w w' := by
  have HL := Lib.hid hL
  have HE := Lib.hid hE
  have k1 := unpack_any W w hL
  have HK2 := Lib.hid (r4Unpack_any W)
  have heq := eql_config
  have hgc := guard_config
  have hes := cfgEq_self
  clear hL hE
  by_cases ho : unpOk W.toNat = true
  · rw [unpE, if_pos ho] at k1
    go_enter Tryd.func13, Tryd.ntmps13
    go_wp2_with fail
    refine k1.mono ?_
    rintro e w1 ⟨rfl, hb⟩
    have H1 := Lib.hid hb
    clear hb k1
    have hzw := H1.out.size
    go_wp2_with fail
    refine (HK2.out _).mono ?_
    rintro e w2 ⟨rfl, hb⟩
    have H2 := Lib.hid (Below.step (B := w.heap.size) (a := w) (by (repeat (first | with_reducible exact Below.refl _ _ | with_reducible exact H1.out | with_reducible refine Below.drew ?_ | (with_reducible refine Below.setCell ?_ ?side _; case side => exact (by have := (H1.out).size; first | (simp; done) | (simp; omega) | omega)) | (with_reducible refine Below.alloc ?_ ?side _; case side => exact (by have := (H1.out).size; first | (simp; done) | (simp; omega) | omega))))) hb (by have := (H1.out).size; first | (simp; done) | (simp; omega) | omega))
    have HC := Lib.hid ((cfgAt_box w1 (unpV W.toNat)).below hb)
    clear hb H1
    rw [ho]
    generalize unpV W.toNat = x at HC ⊢
    obtain ⟨c0, c1, c2, c3, c4, c5, c6, c7, c8⟩ := HC.out.cells
    have nlt : w1.heap.size < w2.heap.size := HC.out.lt
    go_wp2_with fail
    refine (top_none _ (HE.out.below (by (repeat (first | with_reducible exact Below.refl _ _ | with_reducible exact H2.out | with_reducible refine Below.drew ?_ | (with_reducible refine Below.setCell ?_ ?side _; case side => exact (by have := (H2.out).size; first | (simp; done) | (simp; omega) | omega)) | (with_reducible refine Below.alloc ?_ ?side _; case side => exact (by have := (H2.out).size; first | (simp; done) | (simp; omega) | omega))))))).mono ?_
    rintro e w3 ⟨rfl, hb⟩
    have H3 := Lib.hid (Below.step (B := w.heap.size) (a := w) (by (repeat (first | with_reducible exact Below.refl _ _ | with_reducible exact H2.out | with_reducible refine Below.drew ?_ | (with_reducible refine Below.setCell ?_ ?side _; case side => exact (by have := (H2.out).size; first | (simp; done) | (simp; omega) | omega)) | (with_reducible refine Below.alloc ?_ ?side _; case side => exact (by have := (H2.out).size; first | (simp; done) | (simp; omega) | omega))))) hb (by have := (H2.out).size; first | (simp; done) | (simp; omega) | omega))
    clear hb H2 HC c0 c1 c2 c3 c4 c5 c6 c7 c8
    go_wp2
    go_ret
    exact ⟨rfl, H3.out⟩
  · have ho' : unpOk W.toNat = false := by simpa using ho
    rw [unpE, if_neg ho] at k1
    go_enter Tryd.func13, Tryd.ntmps13
    go_wp2_with fail
    refine k1.mono ?_
    rintro e w1 ⟨rfl, hb⟩
    have H1 := Lib.hid hb
    clear hb k1
    have hzw := H1.out.size
    go_wp2_with fail
    refine (HK2.out _).mono ?_
    rintro e w2 ⟨rfl, hb⟩
    have H2 := Lib.hid (Below.step (B := w.heap.size) (a := w) (by (repeat (first | with_reducible exact Below.refl _ _ | with_reducible exact H1.out | with_reducible refine Below.drew ?_ | (with_reducible refine Below.setCell ?_ ?side _; case side => exact (by have := (H1.out).size; first | (simp; done) | (simp; omega) | omega)) | (with_reducible refine Below.alloc ?_ ?side _; case side => exact (by have := (H1.out).size; first | (simp; done) | (simp; omega) | omega))))) hb (by have := (H1.out).size; first | (simp; done) | (simp; omega) | omega))
    have HC := Lib.hid ((cfgAt_box w1 (unpV W.toNat)).below hb)
    clear hb H1
    rw [ho']
    generalize unpV W.toNat = x at HC ⊢
    obtain ⟨c0, c1, c2, c3, c4, c5, c6, c7, c8⟩ := HC.out.cells
    have nlt : w1.heap.size < w2.heap.size := HC.out.lt
    go_wp2_with fail
    refine (top_one 10 (by omega) _ (HE.out.below (by (repeat (first | with_reducible exact Below.refl _ _ | with_reducible exact H2.out | with_reducible refine Below.drew ?_ | (with_reducible refine Below.setCell ?_ ?side _; case side => exact (by have := (H2.out).size; first | (simp; done) | (simp; omega) | omega)) | (with_reducible refine Below.alloc ?_ ?side _; case side => exact (by have := (H2.out).size; first | (simp; done) | (simp; omega) | omega))))))).mono ?_
    rintro e w3 ⟨rfl, hb⟩
    have H3 := Lib.hid (Below.step (B := w.heap.size) (a := w) (by (repeat (first | with_reducible exact Below.refl _ _ | with_reducible exact H2.out | with_reducible refine Below.drew ?_ | (with_reducible refine Below.setCell ?_ ?side _; case side => exact (by have := (H2.out).size; first | (simp; done) | (simp; omega) | omega)) | (with_reducible refine Below.alloc ?_ ?side _; case side => exact (by have := (H2.out).size; first | (simp; done) | (simp; omega) | omega))))) hb (by have := (H2.out).size; first | (simp; done) | (simp; omega) | omega))
    clear hb H2 HC c0 c1 c2 c3 c4 c5 c6 c7 c8
    go_wp2_with fail
    refine (top_one 10 (by omega) _ (HE.out.below H3.out)).mono ?_
    rintro e w4 ⟨rfl, hb⟩
    have H4 := Lib.hid (Below.step H3.out hb H3.out.size)
    clear hb H3
    go_wp2
    go_ret
    exact ⟨rfl, H4.out⟩

theorem xor_vec (a b : Int) : ∃ X : V, bits .xor .u64 a b = (X.toNat : Int) := by
  refine ⟨BitVec.ofInt 64 a ^^^ BitVec.ofInt 64 b, ?_⟩
  show IntKind.u64.wrap ((BitVec.ofInt 64 a ^^^ BitVec.ofInt 64 b).toNat : Int) = _
  have h := vlt (BitVec.ofInt 64 a ^^^ BitVec.ofInt 64 b)
  rw [IntKind.wrap_u64]
  omega
theorem unpacks_xor (a b : Int) (w : World) (hL : Lim w) (hE : Cs.ErrT w) : Calls Tryd.prog 13 #[.int .u64 (bits .xor .u64 a b)] w fun e w' => e = .returned (.bool true) ∧ Below w.heap.size w w' := by
  obtain ⟨X, hX⟩ := xor_vec a b
  rw [hX]
  exact unpacks_any X w hL hE
theorem unpacks_nat (n : Nat) (h : n < 18446744073709551616) (w : World) (hL : Lim w) (hE : Cs.ErrT w) : Calls Tryd.prog 13 #[.int .u64 (n : Int)] w fun e w' => e = .returned (.bool true) ∧ Below w.heap.size w w' := by
  obtain ⟨X, rfl⟩ := vec_nat n h
  exact unpacks_any X w hL hE
theorem mask63 (X : V) : ∃ m : Nat, m ≤ 63 ∧ bits .and .u64 (X.toNat : Int) 63 = (m : Int) := by
  have h := v_and X 63#64
  refine ⟨(X &&& 63#64).toNat, ?_, h⟩
  rw [BitVec.toNat_and]
  exact Nat.and_le_right

set_option maxRecDepth 100000 in
set_option maxHeartbeats 4000000 in
theorem lawTells_any (y : Cfg) (a0 a1 a2 a3 a4 a5 a6 a7 a8 : Int) (X : V) (w : World) (hL : Lim w) (hE : Cs.ErrT w) : Calls Tryd.prog 3 #[(.agg #[.int .i64 y.t, .int .i64 y.s, .int .i64 y.l, .int .i64 y.c, .int .i64 y.s0, .int .i64 y.n0, .int .i64 y.s1, .int .i64 y.n1, .int .i64 y.r]), .agg #[.int .i64 a0, .int .i64 a1, .int .i64 a2, .int .i64 a3, .int .i64 a4, .int .i64 a5, .int .i64 a6, .int .i64 a7, .int .i64 a8], .int .u64 (X.toNat : Int)] w fun e w' => e = .returned (.bool true) ∧ Below w.heap.size w w' := by
  have HL := Lib.hid hL
  have HE := Lib.hid hE
  clear hL hE
  obtain ⟨m, hm, hmask⟩ := mask63 X
  go_enter Tryd.func3, Tryd.ntmps3
  go_wp2_with fail
  refine (awake4_any _ (HL.out.below (by (repeat (first | with_reducible exact Below.refl _ _ | with_reducible refine Below.drew ?_ | (with_reducible refine Below.setCell ?_ ?side _; case side => exact (by first | (simp; done) | (simp; omega) | omega)) | (with_reducible refine Below.alloc ?_ ?side _; case side => exact (by first | (simp; done) | (simp; omega) | omega))))))).mono ?_
  rintro e w1 ⟨rfl, hb⟩
  have H1 := Lib.hid (Below.step (B := w.heap.size) (a := w) (by (repeat (first | with_reducible exact Below.refl _ _ | with_reducible refine Below.drew ?_ | (with_reducible refine Below.setCell ?_ ?side _; case side => exact (by first | (simp; done) | (simp; omega) | omega)) | (with_reducible refine Below.alloc ?_ ?side _; case side => exact (by first | (simp; done) | (simp; omega) | omega))))) hb (by first | (simp; done) | (simp; omega) | omega))
  have HY := Lib.hid (CfgAt.below ((cfgAt_box w y).alloc _) hb)
  have hA0 := arrAt_box (w.alloc (.cells #[.int .i64 y.t, .int .i64 y.s, .int .i64 y.l, .int .i64 y.c, .int .i64 y.s0, .int .i64 y.n0, .int .i64 y.s1, .int .i64 y.n1, .int .i64 y.r] 26)) #[.int .i64 a0, .int .i64 a1, .int .i64 a2, .int .i64 a3, .int .i64 a4, .int .i64 a5, .int .i64 a6, .int .i64 a7, .int .i64 a8] 27
  simp only [World.size_alloc] at hA0
  have hA := ArrAt.below hA0 hb
  clear hb hA0
  obtain ⟨c0, c1, c2, c3, c4, c5, c6, c7, c8⟩ := hA.nine
  go_wp2_with fail
  refine (config_any a0 a1 a2 a3 a4 a5 a6 a7 a8 _).mono ?_
  rintro e w2 ⟨x, rfl, hr, hb⟩
  have HR := Lib.hid hr
  have H2 := Lib.hid (Below.step H1.out hb H1.out.size)
  have HY2 := Lib.hid (HY.out.below hb)
  clear hb hA H1 HY c0 c1 c2 c3 c4 c5 c6 c7 c8 hr
  have hzw := H2.out.size
  go_wp2_with fail
  refine (r4Pack_yes x _ (rightB_true HR.out)).mono ?_
  rintro e w3 ⟨rfl, hb⟩
  have H3 := Lib.hid (Below.step (B := w.heap.size) (a := w) (by (repeat (first | with_reducible exact Below.refl _ _ | with_reducible exact H2.out | with_reducible refine Below.drew ?_ | (with_reducible refine Below.setCell ?_ ?side _; case side => exact (by have := (H2.out).size; first | (simp; done) | (simp; omega) | omega)) | (with_reducible refine Below.alloc ?_ ?side _; case side => exact (by have := (H2.out).size; first | (simp; done) | (simp; omega) | omega))))) hb (by have := (H2.out).size; first | (simp; done) | (simp; omega) | omega))
  have HY3 := Lib.hid (CfgAt.below (HY2.out.alloc _) hb)
  have HX3 := Lib.hid ((cfgAt_box w2 x).below hb)
  clear hb H2 HY2
  obtain ⟨y0, y1, y2, y3, y4, y5, y6, y7, y8⟩ := HY3.out.cells
  go_wp2_with fail
  refine (tells_any y _ (HL.out.below H3.out) (HE.out.below H3.out)).mono ?_
  rintro e w4 ⟨rfl, hb⟩
  have H4 := Lib.hid (Below.step H3.out hb H3.out.size)
  have HX4 := Lib.hid (HX3.out.below hb)
  clear hb H3 HY3 HX3 y0 y1 y2 y3 y4 y5 y6 y7 y8
  obtain ⟨y0, y1, y2, y3, y4, y5, y6, y7, y8⟩ := HX4.out.cells
  go_wp2_with fail
  refine (tells_any x _ (HL.out.below H4.out) (HE.out.below H4.out)).mono ?_
  rintro e w5 ⟨rfl, hb⟩
  have H5 := Lib.hid (Below.step H4.out hb H4.out.size)
  clear hb H4 HX4 y0 y1 y2 y3 y4 y5 y6 y7 y8
  go_wp2_with fail
  refine (unpacks_any X _ (HL.out.below H5.out) (HE.out.below H5.out)).mono ?_
  rintro e w6 ⟨rfl, hb⟩
  have H6 := Lib.hid (Below.step H5.out hb H5.out.size)
  clear hb H5
  go_wp2_with fail
  refine (unpacks_nat (packN x) (by have := pack_lt HR.out; omega) _ (HL.out.below H6.out) (HE.out.below H6.out)).mono ?_
  rintro e w7 ⟨rfl, hb⟩
  have H7 := Lib.hid (Below.step H6.out hb H6.out.size)
  clear hb H6
  go_wp2_with fail
  refine (unpacks_xor _ _ _ (HL.out.below H7.out) (HE.out.below H7.out)).mono ?_
  rintro e w8 ⟨rfl, hb⟩
  have H8 := Lib.hid (Below.step H7.out hb H7.out.size)
  clear hb H7
  go_wp2
  go_ret
  exact ⟨rfl, H8.out⟩

end Go.Proofs.YtohncolnnkmljaaDoor
