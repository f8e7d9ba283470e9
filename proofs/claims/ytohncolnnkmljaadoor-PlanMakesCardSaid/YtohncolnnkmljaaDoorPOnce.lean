/- PlanOnce: the walk. -/
import Derived.Test.YtohncolnnkmljaaDoorPOf
import Derived.Test.YtohncolnnkmljaaDoorPArr
import Derived.Test.YtohncolnnkmljaaDoorPEq
import Derived.Test.YtohncolnnkmljaaDoorCsTop
namespace Go.Proofs.YtohncolnnkmljaaDoor
open Go.RowKit
/-- What cause.Top tells of a trouble of one code, or of none. -/
theorem top_none (w : World) (hE : Cs.ErrT w) : Calls Tryd.prog 28 #[.nilIface] w fun r w' => r = .returned (.int .i64 0) ∧ Below w.heap.size w w' := by
  have h := Cs.top_any [] (by simp [Cs.Ok]) (by simp) w hE
  exact h
theorem top_one (c : Int) (hc : ¬ c = 0) (w : World) (hE : Cs.ErrT w) : Calls Tryd.prog 28 #[.iface 54 (.int .i64 c)] w fun r w' => r = .returned (.int .i64 c) ∧ Below w.heap.size w w' := by
  have h := Cs.top_any [(c, 0)] (by simpa [Cs.Ok] using hc) (by simp) w hE
  rw [Cs.top_code _ _ hc, Cs.enc_code _ _ hc] at h
  exact h

/-- A right config's word gives it back. -/
theorem unpack_pack (x : Cfg) (hr : Right x) (w : World) (hL : Lim w) : Calls Tryd.prog 40 #[.int .u64 (packN x : Int)] w fun e w' => e = .returned (.tuple #[(.agg #[.int .i64 x.t, .int .i64 x.s, .int .i64 x.l, .int .i64 x.c, .int .i64 x.s0, .int .i64 x.n0, .int .i64 x.s1, .int .i64 x.n1, .int .i64 x.r]), .nilIface]) ∧ Below w.heap.size w w' := by
  have hlt := pack_lt hr
  obtain ⟨W, hW⟩ := vec_nat (packN x) (by omega)
  have h := unpack_any W w hL
  have ho : unpOk W.toNat = true := by rw [unpOk, hW, unp_pack hr, rightB_true hr]; simpa using hlt
  rw [unpV, unpE, if_pos ho, if_pos ho, hW, unp_pack hr] at h
  exact h

/-- Two configs, and what came back of them, in memory. -/
structure OW (w0 : World) (p q r s : Nat) (x y : Cfg) (W : World) : Prop where
  a : CfgAt W p x
  b : CfgAt W q y
  c : CfgAt W r x
  d : CfgAt W s y
  be : Below w0.heap.size w0 W
theorem OW.below {w0 : World} {p q r s : Nat} {x y : Cfg} {W W' : World} (h : OW w0 p q r s x y W) (hb : Below W.heap.size W W') : OW w0 p q r s x y W' := ⟨h.a.below hb, h.b.below hb, h.c.below hb, h.d.below hb, h.be.trans (hb.mono h.be.size)⟩
theorem OW.drew {w0 : World} {p q r s : Nat} {x y : Cfg} {W : World} (h : OW w0 p q r s x y W) : OW w0 p q r s x y W.drew := h.below (Below.refl _ _).drew
theorem OW.all {w0 : World} {p q r s : Nat} {x y : Cfg} {W : World} (h : OW w0 p q r s x y W) : W.cell? ⟨p, 0, none⟩ = some (.int .i64 x.t) ∧ W.cell? ⟨p, 1, none⟩ = some (.int .i64 x.s) ∧ W.cell? ⟨p, 2, none⟩ = some (.int .i64 x.l) ∧ W.cell? ⟨p, 3, none⟩ = some (.int .i64 x.c) ∧ W.cell? ⟨p, 4, none⟩ = some (.int .i64 x.s0) ∧ W.cell? ⟨p, 5, none⟩ = some (.int .i64 x.n0) ∧ W.cell? ⟨p, 6, none⟩ = some (.int .i64 x.s1) ∧ W.cell? ⟨p, 7, none⟩ = some (.int .i64 x.n1) ∧ W.cell? ⟨p, 8, none⟩ = some (.int .i64 x.r) ∧ W.cell? ⟨q, 0, none⟩ = some (.int .i64 y.t) ∧ W.cell? ⟨q, 1, none⟩ = some (.int .i64 y.s) ∧ W.cell? ⟨q, 2, none⟩ = some (.int .i64 y.l) ∧ W.cell? ⟨q, 3, none⟩ = some (.int .i64 y.c) ∧ W.cell? ⟨q, 4, none⟩ = some (.int .i64 y.s0) ∧ W.cell? ⟨q, 5, none⟩ = some (.int .i64 y.n0) ∧ W.cell? ⟨q, 6, none⟩ = some (.int .i64 y.s1) ∧ W.cell? ⟨q, 7, none⟩ = some (.int .i64 y.n1) ∧ W.cell? ⟨q, 8, none⟩ = some (.int .i64 y.r) ∧ W.cell? ⟨r, 0, none⟩ = some (.int .i64 x.t) ∧ W.cell? ⟨r, 1, none⟩ = some (.int .i64 x.s) ∧ W.cell? ⟨r, 2, none⟩ = some (.int .i64 x.l) ∧ W.cell? ⟨r, 3, none⟩ = some (.int .i64 x.c) ∧ W.cell? ⟨r, 4, none⟩ = some (.int .i64 x.s0) ∧ W.cell? ⟨r, 5, none⟩ = some (.int .i64 x.n0) ∧ W.cell? ⟨r, 6, none⟩ = some (.int .i64 x.s1) ∧ W.cell? ⟨r, 7, none⟩ = some (.int .i64 x.n1) ∧ W.cell? ⟨r, 8, none⟩ = some (.int .i64 x.r) ∧ W.cell? ⟨s, 0, none⟩ = some (.int .i64 y.t) ∧ W.cell? ⟨s, 1, none⟩ = some (.int .i64 y.s) ∧ W.cell? ⟨s, 2, none⟩ = some (.int .i64 y.l) ∧ W.cell? ⟨s, 3, none⟩ = some (.int .i64 y.c) ∧ W.cell? ⟨s, 4, none⟩ = some (.int .i64 y.s0) ∧ W.cell? ⟨s, 5, none⟩ = some (.int .i64 y.n0) ∧ W.cell? ⟨s, 6, none⟩ = some (.int .i64 y.s1) ∧ W.cell? ⟨s, 7, none⟩ = some (.int .i64 y.n1) ∧ W.cell? ⟨s, 8, none⟩ = some (.int .i64 y.r) ∧ OW w0 p q r s x y W := by
  obtain ⟨a0, a1, a2, a3, a4, a5, a6, a7, a8⟩ := h.a.cells
  obtain ⟨b0, b1, b2, b3, b4, b5, b6, b7, b8⟩ := h.b.cells
  obtain ⟨c0, c1, c2, c3, c4, c5, c6, c7, c8⟩ := h.c.cells
  obtain ⟨d0, d1, d2, d3, d4, d5, d6, d7, d8⟩ := h.d.cells
  exact ⟨a0, a1, a2, a3, a4, a5, a6, a7, a8, b0, b1, b2, b3, b4, b5, b6, b7, b8, c0, c1, c2, c3, c4, c5, c6, c7, c8, d0, d1, d2, d3, d4, d5, d6, d7, d8, h⟩

set_option maxRecDepth 100000 in
set_option maxHeartbeats 8000000 in
theorem lawOnce_any (a0 a1 a2 a3 a4 a5 a6 a7 a8 m0 m1 m2 m3 m4 m5 m6 m7 m8 like : Int) (w : World) (hL : Lim w) (hE : Cs.ErrT w) : Calls Tryd.prog 8 #[.agg #[.int .i64 a0, .int .i64 a1, .int .i64 a2, .int .i64 a3, .int .i64 a4, .int .i64 a5, .int .i64 a6, .int .i64 a7, .int .i64 a8], .agg #[.int .i64 m0, .int .i64 m1, .int .i64 m2, .int .i64 m3, .int .i64 m4, .int .i64 m5, .int .i64 m6, .int .i64 m7, .int .i64 m8], .int .i64 like] w fun e w' => e = .returned (.bool true) ∧ Below w.heap.size w w' := by
  have HL := Lib.hid hL
  have HE := Lib.hid hE
  clear hL hE
  go_enter Tryd.func8, Tryd.ntmps8
  go_wp2_with fail
  refine (awake4_any _ (HL.out.below (by (repeat (first | with_reducible exact Below.refl _ _ | with_reducible refine Below.drew ?_ | (with_reducible refine Below.setCell ?_ ?side _; case side => exact (by first | (simp; done) | (simp; omega) | omega)) | (with_reducible refine Below.alloc ?_ ?side _; case side => exact (by first | (simp; done) | (simp; omega) | omega))))))).mono ?_
  rintro e w1 ⟨rfl, hb⟩
  have H1 := Lib.hid (Below.step (B := w.heap.size) (a := w) (by (repeat (first | with_reducible exact Below.refl _ _ | with_reducible refine Below.drew ?_ | (with_reducible refine Below.setCell ?_ ?side _; case side => exact (by first | (simp; done) | (simp; omega) | omega)) | (with_reducible refine Below.alloc ?_ ?side _; case side => exact (by first | (simp; done) | (simp; omega) | omega))))) hb (by first | (simp; done) | (simp; omega) | omega))
  have HA : Hid (ArrAt w1 w.heap.size 27 #[.int .i64 a0, .int .i64 a1, .int .i64 a2, .int .i64 a3, .int .i64 a4, .int .i64 a5, .int .i64 a6, .int .i64 a7, .int .i64 a8]) := Lib.hid (ArrAt.below ((arrAt_box w _ _).alloc _) hb)
  have hM0 := World.rowIs_alloc (w.alloc (.cells #[.int .i64 a0, .int .i64 a1, .int .i64 a2, .int .i64 a3, .int .i64 a4, .int .i64 a5, .int .i64 a6, .int .i64 a7, .int .i64 a8] 27)) #[.int .i64 m0, .int .i64 m1, .int .i64 m2, .int .i64 m3, .int .i64 m4, .int .i64 m5, .int .i64 m6, .int .i64 m7, .int .i64 m8] 27 (fun j => .int .i64 ([m0, m1, m2, m3, m4, m5, m6, m7, m8][j]?.getD 0)) (by intro j hj; match j, hj with | 0, _ => rfl | 1, _ => rfl | 2, _ => rfl | 3, _ => rfl | 4, _ => rfl | 5, _ => rfl | 6, _ => rfl | 7, _ => rfl | 8, _ => rfl)
  simp only [World.size_alloc] at hM0
  have HM := Lib.hid (hM0.of_block (hb.block _ hM0.lt))
  clear hb hM0
  go_wp2_with fail
  go_loopw [8] (fun i wr => ∃ (k : Nat) (g : Nat → Int), k ≤ 9 ∧ i = .int .i64 k ∧ Below w.heap.size w wr ∧ ArrAt wr w.heap.size 27 #[.int .i64 a0, .int .i64 a1, .int .i64 a2, .int .i64 a3, .int .i64 a4, .int .i64 a5, .int .i64 a6, .int .i64 a7, .int .i64 a8] ∧ wr.rowIs (w.heap.size + 1) 27 9 (fun j => .int .i64 (g j))) (fun i _ => 9 - (intOf i).toNat)
  case atStart => exact ⟨0, _, by omega, rfl, H1.out, HA.out, HM.out⟩
  case round =>
    clear H1 HA HM
    obtain ⟨k, g, hk, rfl, hB, hA, hM⟩ := hrel
    have HB := Lib.hid hB
    have HA := Lib.hid hA
    have HM := Lib.hid hM
    clear hB hA hM
    have ne : w.heap.size ≠ w.heap.size + 1 := by omega
    by_cases hlt : k < 9
    · have k1 : (0 : Int) ≤ (k : Int) := by omega
      have k2 : (k : Int) < 9 := by omega
      have ck := HM.out.cell hlt
      have fk := HM.out.frozen
      have ak := HA.out.get k (by simpa using hlt)
      obtain ⟨z, hz⟩ : ∃ z : Int, (#[.int .i64 a0, .int .i64 a1, .int .i64 a2, .int .i64 a3, .int .i64 a4, .int .i64 a5, .int .i64 a6, .int .i64 a7, .int .i64 a8] : Array Value)[k]? = some (.int .i64 z) := by
        obtain rfl | rfl | rfl | rfl | rfl | rfl | rfl | rfl | rfl : k = 0 ∨ k = 1 ∨ k = 2 ∨ k = 3 ∨ k = 4 ∨ k = 5 ∨ k = 6 ∨ k = 7 ∨ k = 8 := by omega
        all_goals exact ⟨_, rfl⟩
      rw [hz] at ak
      clear hz
      go_wp2
      · go_roundw
        case rel =>
          refine ⟨k + 1, fun j => if j = k then z else g j, by omega, by go_num, HB.out.setCell (p := ⟨w.heap.size + 1, k, none⟩) (by simp) _, HA.out.setOther (a := ⟨w.heap.size + 1, k, none⟩) ne _, (HM.out.set k _).congr ?_⟩
          intro j _
          by_cases e : j = k <;> simp [e]
        case measure => simp [intOf]; omega
      · go_roundw
        case rel => exact ⟨k + 1, g, by omega, by go_num, HB.out, HA.out, HM.out⟩
        case measure => simp [intOf]; omega
    · obtain rfl : k = 9 := by omega
      clear hk hlt
      obtain ⟨p0, p1, p2, p3, p4, p5, p6, p7, p8⟩ := HA.out.nine
      go_wp2_with fail
      refine (config_any a0 a1 a2 a3 a4 a5 a6 a7 a8 _).mono ?_
      rintro e w2 ⟨x, rfl, hx, hb⟩
      have HX := Lib.hid hx
      have HB2 := Lib.hid (Below.step HB.out hb HB.out.size)
      have HM2 := Lib.hid (HM.out.of_block (hb.block _ HM.out.lt))
      clear hb hx HB HA HM p0 p1 p2 p3 p4 p5 p6 p7 p8
      have hz := HM2.out.lt
      have nz : w.heap.size + 1 ≠ w2.heap.size := by omega
      have p0 : w2.cell? ⟨w.heap.size + 1, 0, none⟩ = some (.int .i64 (g 0)) := HM2.out.cell (i := 0) (by omega)
      have p1 : w2.cell? ⟨w.heap.size + 1, 1, none⟩ = some (.int .i64 (g 1)) := HM2.out.cell (i := 1) (by omega)
      have p2 : w2.cell? ⟨w.heap.size + 1, 2, none⟩ = some (.int .i64 (g 2)) := HM2.out.cell (i := 2) (by omega)
      have p3 : w2.cell? ⟨w.heap.size + 1, 3, none⟩ = some (.int .i64 (g 3)) := HM2.out.cell (i := 3) (by omega)
      have p4 : w2.cell? ⟨w.heap.size + 1, 4, none⟩ = some (.int .i64 (g 4)) := HM2.out.cell (i := 4) (by omega)
      have p5 : w2.cell? ⟨w.heap.size + 1, 5, none⟩ = some (.int .i64 (g 5)) := HM2.out.cell (i := 5) (by omega)
      have p6 : w2.cell? ⟨w.heap.size + 1, 6, none⟩ = some (.int .i64 (g 6)) := HM2.out.cell (i := 6) (by omega)
      have p7 : w2.cell? ⟨w.heap.size + 1, 7, none⟩ = some (.int .i64 (g 7)) := HM2.out.cell (i := 7) (by omega)
      have p8 : w2.cell? ⟨w.heap.size + 1, 8, none⟩ = some (.int .i64 (g 8)) := HM2.out.cell (i := 8) (by omega)
      go_wp2_with fail
      refine (config_any (g 0) (g 1) (g 2) (g 3) (g 4) (g 5) (g 6) (g 7) (g 8) _).mono ?_
      rintro e w3 ⟨y, rfl, hy, hb⟩
      have HY := Lib.hid hy
      have HB3 := Lib.hid (Below.step (B := w.heap.size) (a := w) (by (repeat (first | with_reducible exact Below.refl _ _ | with_reducible exact HB2.out | with_reducible refine Below.drew ?_ | (with_reducible refine Below.setCell ?_ ?side _; case side => exact (by have := (HB2.out).size; first | (simp; done) | (simp; omega) | omega)) | (with_reducible refine Below.alloc ?_ ?side _; case side => exact (by have := (HB2.out).size; first | (simp; done) | (simp; omega) | omega))))) hb (by have := (HB2.out).size; first | (simp; done) | (simp; omega) | omega))
      have HCx := Lib.hid ((cfgAt_box w2 x).below hb)
      have hz3 : w2.heap.size < w3.heap.size := by have := hb.size; simp at this; omega
      clear hb hy HB2 HM2 p0 p1 p2 p3 p4 p5 p6 p7 p8 nz hz
      obtain ⟨c0, c1, c2, c3, c4, c5, c6, c7, c8⟩ := HCx.out.cells
      have nz : w2.heap.size ≠ w3.heap.size := by omega
      go_wp2_with fail
      refine (pack_yes x _ (HL.out.below (by (repeat (first | with_reducible exact Below.refl _ _ | with_reducible exact HB3.out | with_reducible refine Below.drew ?_ | (with_reducible refine Below.setCell ?_ ?side _; case side => exact (by have := (HB3.out).size; first | (simp; done) | (simp; omega) | omega)) | (with_reducible refine Below.alloc ?_ ?side _; case side => exact (by have := (HB3.out).size; first | (simp; done) | (simp; omega) | omega)))))) (rightB_true HX.out)).mono ?_
      rintro e w4 ⟨rfl, hb⟩
      have HB4 := Lib.hid (Below.step (B := w.heap.size) (a := w) (by (repeat (first | with_reducible exact Below.refl _ _ | with_reducible exact HB3.out | with_reducible refine Below.drew ?_ | (with_reducible refine Below.setCell ?_ ?side _; case side => exact (by have := (HB3.out).size; first | (simp; done) | (simp; omega) | omega)) | (with_reducible refine Below.alloc ?_ ?side _; case side => exact (by have := (HB3.out).size; first | (simp; done) | (simp; omega) | omega))))) hb (by have := (HB3.out).size; first | (simp; done) | (simp; omega) | omega))
      have HCx4 := Lib.hid (CfgAt.below (HCx.out.alloc _) hb)
      have HCy4 := Lib.hid ((cfgAt_box w3 y).below hb)
      clear hb HB3 HCx c0 c1 c2 c3 c4 c5 c6 c7 c8 nz
      go_wp2_with fail
      refine (unpack_pack x HX.out _ (HL.out.below HB4.out)).mono ?_
      rintro e w5 ⟨rfl, hb⟩
      have HB5 := Lib.hid (Below.step HB4.out hb HB4.out.size)
      have HCx5 := Lib.hid (HCx4.out.below hb)
      have HCy5 := Lib.hid (HCy4.out.below hb)
      clear hb HB4 HCx4 HCy4
      obtain ⟨c0, c1, c2, c3, c4, c5, c6, c7, c8⟩ := HCy5.out.cells
      have nlt : w3.heap.size < w5.heap.size := HCy5.out.lt
      go_wp2_with fail
      refine (pack_yes y _ (HL.out.below (by (repeat (first | with_reducible exact Below.refl _ _ | with_reducible exact HB5.out | with_reducible refine Below.drew ?_ | (with_reducible refine Below.setCell ?_ ?side _; case side => exact (by have := (HB5.out).size; first | (simp; done) | (simp; omega) | omega)) | (with_reducible refine Below.alloc ?_ ?side _; case side => exact (by have := (HB5.out).size; first | (simp; done) | (simp; omega) | omega)))))) (rightB_true HY.out)).mono ?_
      rintro e w6 ⟨rfl, hb⟩
      have HB6 := Lib.hid (Below.step (B := w.heap.size) (a := w) (by (repeat (first | with_reducible exact Below.refl _ _ | with_reducible exact HB5.out | with_reducible refine Below.drew ?_ | (with_reducible refine Below.setCell ?_ ?side _; case side => exact (by have := (HB5.out).size; first | (simp; done) | (simp; omega) | omega)) | (with_reducible refine Below.alloc ?_ ?side _; case side => exact (by have := (HB5.out).size; first | (simp; done) | (simp; omega) | omega))))) hb (by have := (HB5.out).size; first | (simp; done) | (simp; omega) | omega))
      have HCx6 := Lib.hid (CfgAt.below (HCx5.out.alloc _) hb)
      have HCy6 := Lib.hid (CfgAt.below (HCy5.out.alloc _) hb)
      have HCc6 := Lib.hid ((cfgAt_box w5 x).below hb)
      clear hb HB5 HCx5 HCy5 c0 c1 c2 c3 c4 c5 c6 c7 c8 nlt
      go_wp2_with fail
      refine (unpack_pack y HY.out _ (HL.out.below HB6.out)).mono ?_
      rintro e w7 ⟨rfl, hb⟩
      have HB7 := Lib.hid (Below.step HB6.out hb HB6.out.size)
      have HCx7 := Lib.hid (HCx6.out.below hb)
      have HCy7 := Lib.hid (HCy6.out.below hb)
      have HCc7 := Lib.hid (HCc6.out.below hb)
      clear hb HB6 HCx6 HCy6 HCc6
      go_wp2_with fail
      have H0 := Lib.hid (show OW w w2.heap.size w3.heap.size w5.heap.size w7.heap.size x y (w7.alloc (.cells #[.int .i64 y.t, .int .i64 y.s, .int .i64 y.l, .int .i64 y.c, .int .i64 y.s0, .int .i64 y.n0, .int .i64 y.s1, .int .i64 y.n1, .int .i64 y.r] 26)) from ⟨HCx7.out.alloc _, HCy7.out.alloc _, HCc7.out.alloc _, cfgAt_box w7 y, by (repeat (first | with_reducible exact Below.refl _ _ | with_reducible exact HB7.out | with_reducible refine Below.drew ?_ | (with_reducible refine Below.setCell ?_ ?side _; case side => exact (by have := (HB7.out).size; first | (simp; done) | (simp; omega) | omega)) | (with_reducible refine Below.alloc ?_ ?side _; case side => exact (by have := (HB7.out).size; first | (simp; done) | (simp; omega) | omega))))⟩)
      clear HB7 HCx7 HCy7 HCc7 hz3
      generalize w7.alloc (.cells #[.int .i64 y.t, .int .i64 y.s, .int .i64 y.l, .int .i64 y.c, .int .i64 y.s0, .int .i64 y.n0, .int .i64 y.s1, .int .i64 y.n1, .int .i64 y.r] 26) = W0 at H0 ⊢
      generalize w7.heap.size = s at H0 ⊢
      generalize w5.heap.size = r at H0 ⊢
      generalize w3.heap.size = q at H0 ⊢
      generalize w2.heap.size = p at H0 ⊢
      have hgc := guard_config
      have heq := eql_config
      have hes := cfgEq_self
      have hpe : (packN x = packN y) ↔ x = y := ⟨fun e => by rw [← unp_pack HX.out, ← unp_pack HY.out, e], fun e => by rw [e]⟩
      have hpp' : (packN x == packN y) = cfgEq x y := by
        by_cases e : x = y
        · rw [e, cfgEq_self]; simp
        · rw [cfgEq_ne e]
          have : ¬ packN x = packN y := fun g => e (hpe.1 g)
          simpa using this
      have hpp : ((packN x : Int) == (packN y : Int)) = cfgEq x y := by
        rw [← hpp', Bool.eq_iff_iff, beq_iff_eq, beq_iff_eq]
        omega
      clear hpe
      go_region_held3 (fun w' => w'.cell? ⟨p, 0, none⟩ = some (.int .i64 x.t) ∧ w'.cell? ⟨p, 1, none⟩ = some (.int .i64 x.s) ∧ w'.cell? ⟨p, 2, none⟩ = some (.int .i64 x.l) ∧ w'.cell? ⟨p, 3, none⟩ = some (.int .i64 x.c) ∧ w'.cell? ⟨p, 4, none⟩ = some (.int .i64 x.s0) ∧ w'.cell? ⟨p, 5, none⟩ = some (.int .i64 x.n0) ∧ w'.cell? ⟨p, 6, none⟩ = some (.int .i64 x.s1) ∧ w'.cell? ⟨p, 7, none⟩ = some (.int .i64 x.n1) ∧ w'.cell? ⟨p, 8, none⟩ = some (.int .i64 x.r) ∧ w'.cell? ⟨q, 0, none⟩ = some (.int .i64 y.t) ∧ w'.cell? ⟨q, 1, none⟩ = some (.int .i64 y.s) ∧ w'.cell? ⟨q, 2, none⟩ = some (.int .i64 y.l) ∧ w'.cell? ⟨q, 3, none⟩ = some (.int .i64 y.c) ∧ w'.cell? ⟨q, 4, none⟩ = some (.int .i64 y.s0) ∧ w'.cell? ⟨q, 5, none⟩ = some (.int .i64 y.n0) ∧ w'.cell? ⟨q, 6, none⟩ = some (.int .i64 y.s1) ∧ w'.cell? ⟨q, 7, none⟩ = some (.int .i64 y.n1) ∧ w'.cell? ⟨q, 8, none⟩ = some (.int .i64 y.r) ∧ w'.cell? ⟨r, 0, none⟩ = some (.int .i64 x.t) ∧ w'.cell? ⟨r, 1, none⟩ = some (.int .i64 x.s) ∧ w'.cell? ⟨r, 2, none⟩ = some (.int .i64 x.l) ∧ w'.cell? ⟨r, 3, none⟩ = some (.int .i64 x.c) ∧ w'.cell? ⟨r, 4, none⟩ = some (.int .i64 x.s0) ∧ w'.cell? ⟨r, 5, none⟩ = some (.int .i64 x.n0) ∧ w'.cell? ⟨r, 6, none⟩ = some (.int .i64 x.s1) ∧ w'.cell? ⟨r, 7, none⟩ = some (.int .i64 x.n1) ∧ w'.cell? ⟨r, 8, none⟩ = some (.int .i64 x.r) ∧ w'.cell? ⟨s, 0, none⟩ = some (.int .i64 y.t) ∧ w'.cell? ⟨s, 1, none⟩ = some (.int .i64 y.s) ∧ w'.cell? ⟨s, 2, none⟩ = some (.int .i64 y.l) ∧ w'.cell? ⟨s, 3, none⟩ = some (.int .i64 y.c) ∧ w'.cell? ⟨s, 4, none⟩ = some (.int .i64 y.s0) ∧ w'.cell? ⟨s, 5, none⟩ = some (.int .i64 y.n0) ∧ w'.cell? ⟨s, 6, none⟩ = some (.int .i64 y.s1) ∧ w'.cell? ⟨s, 7, none⟩ = some (.int .i64 y.n1) ∧ w'.cell? ⟨s, 8, none⟩ = some (.int .i64 y.r) ∧ OW w p q r s x y w')
        (first | exact H0.out.drew.all | exact H1.out.all | exact H2.out.all | exact H3.out.all | exact H4.out.all | assumption)
        (first
          | (go_at_call 28; (with_reducible refine (top_none _ (HE.out.below H0.out.drew.be)).mono ?_); rintro e w1 ⟨rfl, hb⟩; have H1 := Lib.hid (H0.out.drew.below hb); clear hb)
          | (go_at_call 28; (with_reducible refine (top_none _ (HE.out.below H1.out.be)).mono ?_); rintro e w2 ⟨rfl, hb⟩; have H2 := Lib.hid (H1.out.below hb); clear hb)
          | (go_at_call 41; (with_reducible refine (pack_yes x _ (HL.out.below H2.out.be) (rightB_true HX.out)).mono ?_); rintro e w3 ⟨rfl, hb⟩; have H3 := Lib.hid (H2.out.below hb); clear hb)
          | (go_at_call 41; (with_reducible refine (pack_yes y _ (HL.out.below H3.out.be) (rightB_true HY.out)).mono ?_); rintro e w4 ⟨rfl, hb⟩; have H4 := Lib.hid (H3.out.below hb); clear hb))
      all_goals
        go_wp2
        go_ret
        exact ⟨rfl, H4.out.be⟩

end Go.Proofs.YtohncolnnkmljaaDoor
