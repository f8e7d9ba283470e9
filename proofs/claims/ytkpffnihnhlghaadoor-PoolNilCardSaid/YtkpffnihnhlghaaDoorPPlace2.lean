/- Buffer, Blocks, Class, Block, Head, Seq of a right config. -/
import Derived.Test.YtkpffnihnhlghaaDoorPPlace
namespace Go.Proofs.YtkpffnihnhlghaaDoor
open Go.RowKit
theorem Right.control {x : Cfg} (h : Right x) (i : Int) : controlC x i = -1 ∨ (7 ≤ controlC x i ∧ controlC x i ≤ 541) := by
  have hb := h.b
  have hs := h.sizes
  unfold controlC place
  by_cases g : i < 0 ∨ x.t ≤ i
  · rw [if_pos g]; exact .inl rfl
  · rw [if_neg g]
    have a1 : 0 ≤ i * (1 + 2 * x.s) := Int.mul_nonneg (by omega) (by omega)
    have a2 : i * (1 + 2 * x.s) ≤ x.t * (1 + 2 * x.s) := Int.mul_le_mul_of_nonneg_right (by omega) (by omega)
    have e : bB x = bC x + x.t * (1 + 2 * x.s) := rfl
    omega
def bufC (x : Cfg) (i k : Int) : Int := if controlC x i = -1 ∨ k < 0 ∨ 2 ≤ k then -1 else controlC x i + 1 + k * x.s

set_option maxHeartbeats 1000000 in
theorem blocks_any (x : Cfg) (w : World) (hL : Lim w) (hr : Right x) : Calls Tryd.prog 124 #[(.agg #[.int .i64 x.t, .int .i64 x.s, .int .i64 x.l, .int .i64 x.c, .int .i64 x.s0, .int .i64 x.n0, .int .i64 x.s1, .int .i64 x.n1, .int .i64 x.r])] w fun e w' => e = .returned (.int .i64 (x.n0 + x.n1)) ∧ Below w.heap.size w w' := by
  have HL := Lib.hid hL
  have HR := Lib.hid hr
  have hcb := hr.b
  clear hL hr
  go_enter Tryd.func124, Tryd.ntmps124
  go_wp2_with fail
  refine (check_yes x _ (HL.out.below ((Below.refl _ _).alloc (Nat.le_refl _) _)) (rightB_true HR.out)).mono ?_
  rintro e w1 ⟨rfl, hb⟩
  have H1 := Lib.hid (Below.step (B := w.heap.size) (a := w) (by (repeat (first | with_reducible exact Below.refl _ _ | with_reducible refine Below.drew ?_ | (with_reducible refine Below.setCell ?_ ?side _; case side => exact (by first | (simp; done) | (simp; omega) | omega)) | (with_reducible refine Below.alloc ?_ ?side _; case side => exact (by first | (simp; done) | (simp; omega) | omega))))) hb (by first | (simp; done) | (simp; omega) | omega))
  obtain ⟨c0, c1, c2, c3, c4, c5, c6, c7, c8⟩ := ((cfgAt_box w x).below hb).cells
  clear hb
  go_wp2
  go_ret
  exact ⟨rfl, H1.out⟩
set_option maxHeartbeats 1000000 in
theorem blocks_no (x : Cfg) (w : World) (hL : Lim w) (hr : rightB x = false) : Calls Tryd.prog 124 #[(.agg #[.int .i64 x.t, .int .i64 x.s, .int .i64 x.l, .int .i64 x.c, .int .i64 x.s0, .int .i64 x.n0, .int .i64 x.s1, .int .i64 x.n1, .int .i64 x.r])] w fun e w' => e = .returned (.int .i64 0) ∧ Below w.heap.size w w' := by
  have HL := Lib.hid hL
  have HR := Lib.hid hr
  clear hL hr
  go_enter Tryd.func124, Tryd.ntmps124
  go_wp2_with fail
  refine (check_no x _ (HL.out.below ((Below.refl _ _).alloc (Nat.le_refl _) _)) HR.out).mono ?_
  rintro e w1 ⟨rfl, hb⟩
  have H1 := Lib.hid (Below.step (B := w.heap.size) (a := w) (by (repeat (first | with_reducible exact Below.refl _ _ | with_reducible refine Below.drew ?_ | (with_reducible refine Below.setCell ?_ ?side _; case side => exact (by first | (simp; done) | (simp; omega) | omega)) | (with_reducible refine Below.alloc ?_ ?side _; case side => exact (by first | (simp; done) | (simp; omega) | omega))))) hb (by first | (simp; done) | (simp; omega) | omega))
  clear hb
  go_wp2
  go_ret
  exact ⟨rfl, H1.out⟩

set_option maxHeartbeats 400000 in
theorem firstBlock_0 (x : Cfg) (w : World) : Calls Tryd.prog 113 #[(.agg #[.int .i64 x.t, .int .i64 x.s, .int .i64 x.l, .int .i64 x.c, .int .i64 x.s0, .int .i64 x.n0, .int .i64 x.s1, .int .i64 x.n1, .int .i64 x.r]), .int .i64 0] w fun e w' => e = .returned (.int .i64 1) ∧ Below w.heap.size w w' := by
  go_enter Tryd.func113, Tryd.ntmps113
  go_wp2
  go_ret
  refine ⟨rfl, ?_⟩
  (repeat (first | with_reducible exact Below.refl _ _ | with_reducible refine Below.drew ?_ | (with_reducible refine Below.setCell ?_ ?side _; case side => exact (by first | (simp; done) | (simp; omega) | omega)) | (with_reducible refine Below.alloc ?_ ?side _; case side => exact (by first | (simp; done) | (simp; omega) | omega))))
set_option maxHeartbeats 400000 in
theorem firstBlock_1 (x : Cfg) (w : World) (h0 : 0 ≤ x.n0) (h1 : x.n0 ≤ 12) : Calls Tryd.prog 113 #[(.agg #[.int .i64 x.t, .int .i64 x.s, .int .i64 x.l, .int .i64 x.c, .int .i64 x.s0, .int .i64 x.n0, .int .i64 x.s1, .int .i64 x.n1, .int .i64 x.r]), .int .i64 1] w fun e w' => e = .returned (.int .i64 (1 + x.n0)) ∧ Below w.heap.size w w' := by
  go_enter Tryd.func113, Tryd.ntmps113
  go_wp2
  go_ret
  refine ⟨rfl, ?_⟩
  (repeat (first | with_reducible exact Below.refl _ _ | with_reducible refine Below.drew ?_ | (with_reducible refine Below.setCell ?_ ?side _; case side => exact (by first | (simp; done) | (simp; omega) | omega)) | (with_reducible refine Below.alloc ?_ ?side _; case side => exact (by first | (simp; done) | (simp; omega) | omega))))

def classC (x : Cfg) (b : Int) : Int := if b < 1 ∨ x.n0 + x.n1 < b then -1 else if b < 1 + x.n0 then 0 else 1
set_option maxHeartbeats 1000000 in
theorem class_any (x : Cfg) (b : Int) (w : World) (hL : Lim w) (hr : Right x) : Calls Tryd.prog 83 #[(.agg #[.int .i64 x.t, .int .i64 x.s, .int .i64 x.l, .int .i64 x.c, .int .i64 x.s0, .int .i64 x.n0, .int .i64 x.s1, .int .i64 x.n1, .int .i64 x.r]), .int .i64 b] w fun e w' => e = .returned (.int .i64 (classC x b)) ∧ Below w.heap.size w w' := by
  have HL := Lib.hid hL
  have HR := Lib.hid hr
  have hcb := hr.b
  have HU := Lib.hid (show classC x b = if b < 1 ∨ x.n0 + x.n1 < b then -1 else if b < 1 + x.n0 then 0 else 1 from rfl)
  clear hL hr
  by_cases h1 : b < 1
  · have d1 : decide (b < 1) = true := by simpa using h1
    have HK := Lib.hid h1
    clear h1
    go_enter Tryd.func83, Tryd.ntmps83
    go_wp2
    go_ret
    refine ⟨by rw [HU.out, if_pos (.inl HK.out)]; rfl, ?_⟩
    (repeat (first | with_reducible exact Below.refl _ _ | with_reducible refine Below.drew ?_ | (with_reducible refine Below.setCell ?_ ?side _; case side => exact (by first | (simp; done) | (simp; omega) | omega)) | (with_reducible refine Below.alloc ?_ ?side _; case side => exact (by first | (simp; done) | (simp; omega) | omega))))
  · have d1 : decide (b < 1) = false := by simpa using h1
    by_cases h2 : x.n0 + x.n1 < b
    · have d2 : decide (x.n0 + x.n1 < b) = true := by simpa using h2
      have HK := Lib.hid h2
      clear h1 h2
      go_enter Tryd.func83, Tryd.ntmps83
      go_wp2_with fail
      refine (blocks_any x _ (HL.out.below ((Below.refl _ _).alloc (Nat.le_refl _) _)) HR.out).mono ?_
      rintro e w1 ⟨rfl, hb⟩
      have H1 := Lib.hid (Below.step (B := w.heap.size) (a := w) (by (repeat (first | with_reducible exact Below.refl _ _ | with_reducible refine Below.drew ?_ | (with_reducible refine Below.setCell ?_ ?side _; case side => exact (by first | (simp; done) | (simp; omega) | omega)) | (with_reducible refine Below.alloc ?_ ?side _; case side => exact (by first | (simp; done) | (simp; omega) | omega))))) hb (by first | (simp; done) | (simp; omega) | omega))
      clear hb
      go_wp2
      go_ret
      exact ⟨by rw [HU.out, if_pos (.inr HK.out)]; rfl, H1.out⟩
    · have d2 : decide (x.n0 + x.n1 < b) = false := by simpa using h2
      have HI := Lib.hid (show ¬ (b < 1 ∨ x.n0 + x.n1 < b) by omega)
      clear h1 h2
      go_enter Tryd.func83, Tryd.ntmps83
      go_wp2_with fail
      refine (blocks_any x _ (HL.out.below ((Below.refl _ _).alloc (Nat.le_refl _) _)) HR.out).mono ?_
      rintro e w1 ⟨rfl, hb⟩
      have H1 := Lib.hid (Below.step (B := w.heap.size) (a := w) (by (repeat (first | with_reducible exact Below.refl _ _ | with_reducible refine Below.drew ?_ | (with_reducible refine Below.setCell ?_ ?side _; case side => exact (by first | (simp; done) | (simp; omega) | omega)) | (with_reducible refine Below.alloc ?_ ?side _; case side => exact (by first | (simp; done) | (simp; omega) | omega))))) hb (by first | (simp; done) | (simp; omega) | omega))
      obtain ⟨c0, c1, c2, c3, c4, c5, c6, c7, c8⟩ := ((cfgAt_box w x).below hb).cells
      clear hb
      by_cases h3 : b < 1 + x.n0
      · have d3 : decide (b < 1 + x.n0) = true := by simpa using h3
        have HK := Lib.hid h3
        clear h3
        go_wp2_with fail
        refine (firstBlock_1 x _ (by omega) (by omega)).mono ?_
        rintro e w2 ⟨rfl, hb⟩
        have H2 := Lib.hid (Below.step H1.out hb H1.out.size)
        clear hb H1
        go_wp2
        go_ret
        exact ⟨by rw [HU.out, if_neg HI.out, if_pos HK.out]; rfl, H2.out⟩
      · have d3 : decide (b < 1 + x.n0) = false := by simpa using h3
        have HK := Lib.hid h3
        clear h3
        go_wp2_with fail
        refine (firstBlock_1 x _ (by omega) (by omega)).mono ?_
        rintro e w2 ⟨rfl, hb⟩
        have H2 := Lib.hid (Below.step H1.out hb H1.out.size)
        clear hb H1
        go_wp2
        go_ret
        exact ⟨by rw [HU.out, if_neg HI.out, if_neg (by have := HK.out; omega)]; rfl, H2.out⟩

def headC (i : Int) : Int := if i < 0 ∨ 2 ≤ i then -1 else 3 + i
set_option maxHeartbeats 1000000 in
theorem head_any (i : Int) (w : World) : Calls Tryd.prog 81 #[.int .i64 i] w fun e w' => e = .returned (.int .i64 (headC i)) ∧ w = w' := by
  have HU := Lib.hid (show headC i = if i < 0 ∨ 2 ≤ i then -1 else 3 + i from rfl)
  by_cases h1 : i < 0
  · have d1 : decide (i < 0) = true := by simpa using h1
    have HK := Lib.hid h1
    clear h1
    go_enter Tryd.func81, Tryd.ntmps81
    go_wp2
    go_ret
    exact ⟨by rw [HU.out, if_pos (.inl HK.out)]; rfl, rfl⟩
  · have d1 : decide (i < 0) = false := by simpa using h1
    by_cases h2 : 2 ≤ i
    · have d2 : decide (2 ≤ i) = true := by simpa using h2
      have HK := Lib.hid h2
      clear h1 h2
      go_enter Tryd.func81, Tryd.ntmps81
      go_wp2
      go_ret
      exact ⟨by rw [HU.out, if_pos (.inr HK.out)]; rfl, rfl⟩
    · have d2 : decide (2 ≤ i) = false := by simpa using h2
      have HI := Lib.hid (show ¬ (i < 0 ∨ 2 ≤ i) by omega)
      have i0 : 0 ≤ i := by omega
      have i1 : i ≤ 1 := by omega
      clear h1 h2
      go_enter Tryd.func81, Tryd.ntmps81
      go_wp2
      go_ret
      exact ⟨by rw [HU.out, if_neg HI.out]; rfl, rfl⟩
/-- A config lies at block b; nothing old has changed. -/
structure CW (w0 : World) (b : Nat) (x : Cfg) (W : World) : Prop where
  cfg : CfgAt W b x
  be : Below w0.heap.size w0 W
theorem CW.below {w0 : World} {b : Nat} {x : Cfg} {W W' : World} (h : CW w0 b x W) (hb : Below W.heap.size W W') : CW w0 b x W' := ⟨h.cfg.below hb, h.be.trans (hb.mono h.be.size)⟩
theorem CW.drew {w0 : World} {b : Nat} {x : Cfg} {W : World} (h : CW w0 b x W) : CW w0 b x W.drew := h.below (Below.refl _ _).drew
theorem CW.all {w0 : World} {b : Nat} {x : Cfg} {W : World} (h : CW w0 b x W) : W.cell? ⟨b, 0, none⟩ = some (.int .i64 x.t) ∧ W.cell? ⟨b, 1, none⟩ = some (.int .i64 x.s) ∧ W.cell? ⟨b, 2, none⟩ = some (.int .i64 x.l) ∧ W.cell? ⟨b, 3, none⟩ = some (.int .i64 x.c) ∧ W.cell? ⟨b, 4, none⟩ = some (.int .i64 x.s0) ∧ W.cell? ⟨b, 5, none⟩ = some (.int .i64 x.n0) ∧ W.cell? ⟨b, 6, none⟩ = some (.int .i64 x.s1) ∧ W.cell? ⟨b, 7, none⟩ = some (.int .i64 x.n1) ∧ W.cell? ⟨b, 8, none⟩ = some (.int .i64 x.r) ∧ CW w0 b x W := by
  obtain ⟨c0, c1, c2, c3, c4, c5, c6, c7, c8⟩ := h.cfg.cells
  exact ⟨c0, c1, c2, c3, c4, c5, c6, c7, c8, h⟩

end Go.Proofs.YtkpffnihnhlghaaDoor
