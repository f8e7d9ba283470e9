/- ValidEnds: the law's walk. -/
import Derived.Test.YthcachmcjekckaaDoorVEnds
namespace Go.Proofs.YthcachmcjekckaaDoor
open Go.ChangeShapes Go.WideShapes Go.ChangeAt Go.RowKit
/-- A turn, by its numbers. -/
structure T8 where
  h : Int
  a : Int
  b : Int
  d : Nat
  lt : d < 18446744073709551616
def T8.cells (q : T8) : List Value := [.int .i64 q.h, .int .i64 q.a, .int .i64 q.b, .int .u64 (q.d : Nat)]
def arr3 (q0 q1 q2 : T8) : Array Value := #[.int .i64 q0.h, .int .i64 q0.a, .int .i64 q0.b, .int .u64 (q0.d : Nat), .int .i64 q1.h, .int .i64 q1.a, .int .i64 q1.b, .int .u64 (q1.d : Nat), .int .i64 q2.h, .int .i64 q2.a, .int .i64 q2.b, .int .u64 (q2.d : Nat)]
def arr3F (q0 q1 q2 : T8) (j : Nat) : Value := match j with
  | 0 => .int .i64 q0.h | 1 => .int .i64 q0.a | 2 => .int .i64 q0.b | 3 => .int .u64 (q0.d : Nat)
  | 4 => .int .i64 q1.h | 5 => .int .i64 q1.a | 6 => .int .i64 q1.b | 7 => .int .u64 (q1.d : Nat)
  | 8 => .int .i64 q2.h | 9 => .int .i64 q2.a | 10 => .int .i64 q2.b | _ => .int .u64 (q2.d : Nat)
theorem arr3_row (w : World) (q0 q1 q2 : T8) (T : TypeId) : (w.alloc (.cells (arr3 q0 q1 q2) T)).rowIs w.heap.size T 12 (arr3F q0 q1 q2) := World.rowIs_alloc w (arr3 q0 q1 q2) T _ (by intro j hj; match j, hj with | 0, _ => rfl | 1, _ => rfl | 2, _ => rfl | 3, _ => rfl | 4, _ => rfl | 5, _ => rfl | 6, _ => rfl | 7, _ => rfl | 8, _ => rfl | 9, _ => rfl | 10, _ => rfl | 11, _ => rfl)
theorem WRow.cut {W : World} {A : Option Addr} {L k : Nat} {f : Nat → Nat} (h : WRow W A L f) (hk : k ≤ L) : WRow W A k f := ⟨fun j hj => h.lt j (by omega), fun h0 => by
  obtain ⟨b, o, e, hb, hc⟩ := h.some_ (by omega)
  exact ⟨b, o, e, hb, fun j hj => hc j (by omega)⟩⟩
set_option maxRecDepth 100000 in
set_option maxHeartbeats 4000000 in
theorem lawEnds_any (Ar : Option Addr) (Lr cr : Nat) (fr : Nat → Nat) (A1 : Option Addr) (L1 c1 : Nat) (A2 : Option Addr) (L2 c2 : Nat) (T : Int) (q0 q1 q2 : T8) (w : World) (hE : Cs.ErrT w) (hr : WRow w Ar Lr fr) (hcr : Lr ≤ cr) (hcr2 : cr ≤ 9223372036854775807) (hN1 : NumsAt w A1 L1 c1) (hN2 : NumsAt w A2 L2 c2) :
    Calls Tryd.prog 6 #[.slice Ar Lr cr, .agg #[.slice A1 L1 c1, .slice A2 L2 c2, .int .i64 T], .agg (arr3 q0 q1 q2)] w fun e w' => e = .returned (.bool true) ∧ Below w.heap.size w w' := by
  have HE := Lib.hid hE
  have H1 := Lib.hid hN1
  have H2 := Lib.hid hN2
  have HRR := Lib.hid hr
  have hls := spec8_row w A1 L1 c1 A2 L2 c2 T
  clear hE hN1 hN2 hr
  unfold arr3
  go_enter Tryd.func6, Tryd.ntmps6
  -- THE WALK
  have hab := arr3_row (w.alloc (.cells #[.slice A1 L1 c1, .slice A2 L2 c2, .int .i64 T] 42)) q0 q1 q2 54
  have hls2 := hls.alloc (.cells (arr3 q0 q1 q2) 54)
  unfold arr3 at hab hls2
  simp only [World.size_alloc] at hab
  go_wp2_with fail
  refine (awake8_any _ (HE.out.below (by (repeat (first | with_reducible exact Below.refl _ _ | with_reducible refine Below.drew ?_ | (with_reducible refine Below.setCell ?_ ?side _; case side => exact (by first | (simp; done) | (simp; omega) | omega)) | (with_reducible refine Below.alloc ?_ ?side _; case side => exact (by first | (simp; done) | (simp; omega) | omega))))))).mono ?_
  rintro e w1 ⟨rfl, hb⟩
  have HB1 := Lib.hid (Below.step (B := w.heap.size) (a := w) (by (repeat (first | with_reducible exact Below.refl _ _ | with_reducible refine Below.drew ?_ | (with_reducible refine Below.setCell ?_ ?side _; case side => exact (by first | (simp; done) | (simp; omega) | omega)) | (with_reducible refine Below.alloc ?_ ?side _; case side => exact (by first | (simp; done) | (simp; omega) | omega))))) hb (by first | (simp; done) | (simp; omega) | omega))
  have hr := hls2.of_block (hb.block _ hls2.lt)
  have HAB := Lib.hid (hab.of_block (hb.block _ hab.lt))
  have b0 : w1.cell? ⟨w.heap.size, 0, none⟩ = some (.slice A1 L1 c1) := hr.cell (i := 0) (by omega)
  have b1 : w1.cell? ⟨w.heap.size, 1, none⟩ = some (.slice A2 L2 c2) := hr.cell (i := 1) (by omega)
  have b2 : w1.cell? ⟨w.heap.size, 2, none⟩ = some (.int .i64 T) := hr.cell (i := 2) (by omega)
  clear hr hb hab hls hls2
  by_cases hraw : 60 < Lr
  · have d60 : decide ((60 : Int) < (Lr : Int)) = true := by simp; omega
    have d60' : decide (60 < Lr) = true := by simp; omega
    have h60c : 60 ≤ cr := by omega
    go_wp2_with fail
    clear b0 b1 b2
    refine (s8made_any 4 5 A1 L1 c1 A2 L2 c2 T _ (H1.out.below HB1.out) (H2.out.below HB1.out) (by omega) (by omega) (by omega)).mono ?_
    rintro e w2 ⟨s, A, c, t, x, Aw, cw, rfl, hQ⟩
    have HAB2 := Lib.hid (HAB.out.of_block (hQ.be.block _ HAB.out.lt))
    have HB2 := Lib.hid (Below.step HB1.out hQ.be HB1.out.size)
    have HR := Lib.hid hQ.right
    have HS2 := Lib.hid hQ.sat
    have hrow := hQ.row.row
    have hcap := hQ.cap
    have hsm : SmL (bmsg s t x) ∧ (bmsg s t x).length ≤ 200 := by
      rcases bmsg_cases hQ.right hQ.lt (hQ.chk (by omega)) with ⟨-, he⟩ | ⟨hl, he, hlen⟩
      · rw [he]; exact ⟨fun x hx => (by cases hx), by simp⟩
      · rw [he]; exact ⟨msgL_small s t (hQ.made.sm (fun i hi => by have := hQ.four i hi; omega) hQ.lt (fun i j hi hj => hQ.right.tlt hi hj) (by omega) : Sm (2 * 5) x), by omega⟩
    generalize bmsg s t x = L at hrow hcap hsm ⊢
    have HRW := Lib.hid hrow
    have HSM := Lib.hid hsm.1
    have hl2 := hsm.2
    clear hQ hrow hsm HAB
    go_wp2_with fail
    go_loopw [9, 10] (fun wv iv wr => ∃ i : Nat, i ≤ 3 ∧ iv = .int .i64 i ∧ (∃ (A' : Option Addr) (L' : List Nat) (cap' : Nat), wv = .slice A' L'.length cap' ∧ L'.length ≤ 200 ∧ L'.length ≤ cap' ∧ Hid (SmL L' ∧ WRow wr A' L'.length (nth L'))) ∧ Hid (Below w2.heap.size w2 wr)) (fun _ iv _ => 3 - (intOf iv).toNat)
    case atStart => exact ⟨0, by omega, rfl, ⟨Aw, L, cw, rfl, hl2, hcap, Lib.hid ⟨HSM.out, HRW.out⟩⟩, Lib.hid (Below.refl _ _)⟩
    case round =>
      obtain ⟨i, hi, rfl, ⟨A', L', cap', rfl, hl', hc', HL'⟩, HBW⟩ := hrel
      have hax := HAB2.out.of_block (HBW.out.block _ HAB2.out.lt)
      by_cases hi3 : i < 3
      · obtain rfl | rfl | rfl : i = 0 ∨ i = 1 ∨ i = 2 := by omega
        · have x0 : wr.cell? ⟨w.heap.size + 1, 0, none⟩ = some (.int .i64 q0.h) := hax.cell (i := 0) (by omega)
          have x1 : wr.cell? ⟨w.heap.size + 1, 1, none⟩ = some (.int .i64 q0.a) := hax.cell (i := 1) (by omega)
          have x2 : wr.cell? ⟨w.heap.size + 1, 2, none⟩ = some (.int .i64 q0.b) := hax.cell (i := 2) (by omega)
          have x3 : wr.cell? ⟨w.heap.size + 1, 3, none⟩ = some (.int .u64 (q0.d : Nat)) := hax.cell (i := 3) (by omega)
          clear hax
          obtain ⟨M', HM'⟩ : ∃ M', Hid (L'.length = M') := ⟨_, Lib.hid rfl⟩
          have hsp := sp8_any A' L' cap' q0.h q0.a q0.b q0.d q0.lt wr HL'.out.2 hl' hc' HL'.out.1
          rw [HM'.out] at hsp hl' hc' ⊢
          have HSP := Lib.hid hsp
          clear hsp HL'
          go_wp2_with fail
          refine HSP.out.mono ?_
          rintro e w4 ⟨A4, L4, cap4, rfl, hr4, hs4, hl4, hc4, hb⟩
          have HB4 := Lib.hid (Below.step HBW.out hb HBW.out.size)
          have HL4 : Hid (SmL L4 ∧ WRow w4 A4 L4.length (nth L4)) := Lib.hid ⟨hs4, hr4⟩
          clear hb hr4 hs4 x0 x1 x2 x3
          go_wp2
          go_roundw
          case rel => exact ⟨0 + 1, by omega, by go_num, ⟨A4, L4, cap4, rfl, by omega, hc4, HL4⟩, HB4⟩
          case measure => simp [intOf]
        · have x0 : wr.cell? ⟨w.heap.size + 1, 4, none⟩ = some (.int .i64 q1.h) := hax.cell (i := 4) (by omega)
          have x1 : wr.cell? ⟨w.heap.size + 1, 5, none⟩ = some (.int .i64 q1.a) := hax.cell (i := 5) (by omega)
          have x2 : wr.cell? ⟨w.heap.size + 1, 6, none⟩ = some (.int .i64 q1.b) := hax.cell (i := 6) (by omega)
          have x3 : wr.cell? ⟨w.heap.size + 1, 7, none⟩ = some (.int .u64 (q1.d : Nat)) := hax.cell (i := 7) (by omega)
          clear hax
          obtain ⟨M', HM'⟩ : ∃ M', Hid (L'.length = M') := ⟨_, Lib.hid rfl⟩
          have hsp := sp8_any A' L' cap' q1.h q1.a q1.b q1.d q1.lt wr HL'.out.2 hl' hc' HL'.out.1
          rw [HM'.out] at hsp hl' hc' ⊢
          have HSP := Lib.hid hsp
          clear hsp HL'
          go_wp2_with fail
          refine HSP.out.mono ?_
          rintro e w4 ⟨A4, L4, cap4, rfl, hr4, hs4, hl4, hc4, hb⟩
          have HB4 := Lib.hid (Below.step HBW.out hb HBW.out.size)
          have HL4 : Hid (SmL L4 ∧ WRow w4 A4 L4.length (nth L4)) := Lib.hid ⟨hs4, hr4⟩
          clear hb hr4 hs4 x0 x1 x2 x3
          go_wp2
          go_roundw
          case rel => exact ⟨1 + 1, by omega, by go_num, ⟨A4, L4, cap4, rfl, by omega, hc4, HL4⟩, HB4⟩
          case measure => simp [intOf]
        · have x0 : wr.cell? ⟨w.heap.size + 1, 8, none⟩ = some (.int .i64 q2.h) := hax.cell (i := 8) (by omega)
          have x1 : wr.cell? ⟨w.heap.size + 1, 9, none⟩ = some (.int .i64 q2.a) := hax.cell (i := 9) (by omega)
          have x2 : wr.cell? ⟨w.heap.size + 1, 10, none⟩ = some (.int .i64 q2.b) := hax.cell (i := 10) (by omega)
          have x3 : wr.cell? ⟨w.heap.size + 1, 11, none⟩ = some (.int .u64 (q2.d : Nat)) := hax.cell (i := 11) (by omega)
          clear hax
          obtain ⟨M', HM'⟩ : ∃ M', Hid (L'.length = M') := ⟨_, Lib.hid rfl⟩
          have hsp := sp8_any A' L' cap' q2.h q2.a q2.b q2.d q2.lt wr HL'.out.2 hl' hc' HL'.out.1
          rw [HM'.out] at hsp hl' hc' ⊢
          have HSP := Lib.hid hsp
          clear hsp HL'
          go_wp2_with fail
          refine HSP.out.mono ?_
          rintro e w4 ⟨A4, L4, cap4, rfl, hr4, hs4, hl4, hc4, hb⟩
          have HB4 := Lib.hid (Below.step HBW.out hb HBW.out.size)
          have HL4 : Hid (SmL L4 ∧ WRow w4 A4 L4.length (nth L4)) := Lib.hid ⟨hs4, hr4⟩
          clear hb hr4 hs4 x0 x1 x2 x3
          go_wp2
          go_roundw
          case rel => exact ⟨2 + 1, by omega, by go_num, ⟨A4, L4, cap4, rfl, by omega, hc4, HL4⟩, HB4⟩
          case measure => simp [intOf]
      · have e : i = 3 := by omega
        subst e
        clear hax
        have hre : Below w.heap.size w wr := Below.step HB2.out HBW.out HB2.out.size
        have HRE := Lib.hid hre
        have HS3 := Lib.hid (HS2.out.below HBW.out)
        clear hre
        obtain ⟨M', HM'⟩ : ∃ M', Hid (L'.length = M') := ⟨_, Lib.hid rfl⟩
        rw [HM'.out] at hl' hc' HL' ⊢
        go_wp2_with fail
        refine (ends_any s HR.out A c Ar 60 cr fr _ (HE.out.below HRE.out) HS3.out ((HRR.out.cut (by omega)).below HRE.out) (by omega) (by omega)).mono ?_
        rintro e w5 ⟨rfl, hb⟩
        have HRE2 := Lib.hid (Below.step HRE.out hb HRE.out.size)
        have HS4 := Lib.hid (HS3.out.below hb)
        have HL2 := Lib.hid (HL'.out.2.below hb)
        clear hb
        go_wp2_with fail
        refine (ends_any s HR.out A c A' M' cap' (nth L') _ (HE.out.below HRE2.out) HS4.out HL2.out hc' (by omega)).mono ?_
        rintro e w6 ⟨rfl, hb⟩
        have HRE3 := Lib.hid (Below.step HRE2.out hb HRE2.out.size)
        clear hb
        go_wp2
        go_ret
        exact ⟨rfl, HRE3.out⟩
  · have d60 : decide ((60 : Int) < (Lr : Int)) = false := by simp; omega
    have d60' : decide (60 < Lr) = false := by simp; omega
    go_wp2_with fail
    clear b0 b1 b2
    refine (s8made_any 4 5 A1 L1 c1 A2 L2 c2 T _ (H1.out.below HB1.out) (H2.out.below HB1.out) (by omega) (by omega) (by omega)).mono ?_
    rintro e w2 ⟨s, A, c, t, x, Aw, cw, rfl, hQ⟩
    have HAB2 := Lib.hid (HAB.out.of_block (hQ.be.block _ HAB.out.lt))
    have HB2 := Lib.hid (Below.step HB1.out hQ.be HB1.out.size)
    have HR := Lib.hid hQ.right
    have HS2 := Lib.hid hQ.sat
    have hrow := hQ.row.row
    have hcap := hQ.cap
    have hsm : SmL (bmsg s t x) ∧ (bmsg s t x).length ≤ 200 := by
      rcases bmsg_cases hQ.right hQ.lt (hQ.chk (by omega)) with ⟨-, he⟩ | ⟨hl, he, hlen⟩
      · rw [he]; exact ⟨fun x hx => (by cases hx), by simp⟩
      · rw [he]; exact ⟨msgL_small s t (hQ.made.sm (fun i hi => by have := hQ.four i hi; omega) hQ.lt (fun i j hi hj => hQ.right.tlt hi hj) (by omega) : Sm (2 * 5) x), by omega⟩
    generalize bmsg s t x = L at hrow hcap hsm ⊢
    have HRW := Lib.hid hrow
    have HSM := Lib.hid hsm.1
    have hl2 := hsm.2
    clear hQ hrow hsm HAB
    go_wp2_with fail
    go_loopw [9, 10] (fun wv iv wr => ∃ i : Nat, i ≤ 3 ∧ iv = .int .i64 i ∧ (∃ (A' : Option Addr) (L' : List Nat) (cap' : Nat), wv = .slice A' L'.length cap' ∧ L'.length ≤ 200 ∧ L'.length ≤ cap' ∧ Hid (SmL L' ∧ WRow wr A' L'.length (nth L'))) ∧ Hid (Below w2.heap.size w2 wr)) (fun _ iv _ => 3 - (intOf iv).toNat)
    case atStart => exact ⟨0, by omega, rfl, ⟨Aw, L, cw, rfl, hl2, hcap, Lib.hid ⟨HSM.out, HRW.out⟩⟩, Lib.hid (Below.refl _ _)⟩
    case round =>
      obtain ⟨i, hi, rfl, ⟨A', L', cap', rfl, hl', hc', HL'⟩, HBW⟩ := hrel
      have hax := HAB2.out.of_block (HBW.out.block _ HAB2.out.lt)
      by_cases hi3 : i < 3
      · obtain rfl | rfl | rfl : i = 0 ∨ i = 1 ∨ i = 2 := by omega
        · have x0 : wr.cell? ⟨w.heap.size + 1, 0, none⟩ = some (.int .i64 q0.h) := hax.cell (i := 0) (by omega)
          have x1 : wr.cell? ⟨w.heap.size + 1, 1, none⟩ = some (.int .i64 q0.a) := hax.cell (i := 1) (by omega)
          have x2 : wr.cell? ⟨w.heap.size + 1, 2, none⟩ = some (.int .i64 q0.b) := hax.cell (i := 2) (by omega)
          have x3 : wr.cell? ⟨w.heap.size + 1, 3, none⟩ = some (.int .u64 (q0.d : Nat)) := hax.cell (i := 3) (by omega)
          clear hax
          obtain ⟨M', HM'⟩ : ∃ M', Hid (L'.length = M') := ⟨_, Lib.hid rfl⟩
          have hsp := sp8_any A' L' cap' q0.h q0.a q0.b q0.d q0.lt wr HL'.out.2 hl' hc' HL'.out.1
          rw [HM'.out] at hsp hl' hc' ⊢
          have HSP := Lib.hid hsp
          clear hsp HL'
          go_wp2_with fail
          refine HSP.out.mono ?_
          rintro e w4 ⟨A4, L4, cap4, rfl, hr4, hs4, hl4, hc4, hb⟩
          have HB4 := Lib.hid (Below.step HBW.out hb HBW.out.size)
          have HL4 : Hid (SmL L4 ∧ WRow w4 A4 L4.length (nth L4)) := Lib.hid ⟨hs4, hr4⟩
          clear hb hr4 hs4 x0 x1 x2 x3
          go_wp2
          go_roundw
          case rel => exact ⟨0 + 1, by omega, by go_num, ⟨A4, L4, cap4, rfl, by omega, hc4, HL4⟩, HB4⟩
          case measure => simp [intOf]
        · have x0 : wr.cell? ⟨w.heap.size + 1, 4, none⟩ = some (.int .i64 q1.h) := hax.cell (i := 4) (by omega)
          have x1 : wr.cell? ⟨w.heap.size + 1, 5, none⟩ = some (.int .i64 q1.a) := hax.cell (i := 5) (by omega)
          have x2 : wr.cell? ⟨w.heap.size + 1, 6, none⟩ = some (.int .i64 q1.b) := hax.cell (i := 6) (by omega)
          have x3 : wr.cell? ⟨w.heap.size + 1, 7, none⟩ = some (.int .u64 (q1.d : Nat)) := hax.cell (i := 7) (by omega)
          clear hax
          obtain ⟨M', HM'⟩ : ∃ M', Hid (L'.length = M') := ⟨_, Lib.hid rfl⟩
          have hsp := sp8_any A' L' cap' q1.h q1.a q1.b q1.d q1.lt wr HL'.out.2 hl' hc' HL'.out.1
          rw [HM'.out] at hsp hl' hc' ⊢
          have HSP := Lib.hid hsp
          clear hsp HL'
          go_wp2_with fail
          refine HSP.out.mono ?_
          rintro e w4 ⟨A4, L4, cap4, rfl, hr4, hs4, hl4, hc4, hb⟩
          have HB4 := Lib.hid (Below.step HBW.out hb HBW.out.size)
          have HL4 : Hid (SmL L4 ∧ WRow w4 A4 L4.length (nth L4)) := Lib.hid ⟨hs4, hr4⟩
          clear hb hr4 hs4 x0 x1 x2 x3
          go_wp2
          go_roundw
          case rel => exact ⟨1 + 1, by omega, by go_num, ⟨A4, L4, cap4, rfl, by omega, hc4, HL4⟩, HB4⟩
          case measure => simp [intOf]
        · have x0 : wr.cell? ⟨w.heap.size + 1, 8, none⟩ = some (.int .i64 q2.h) := hax.cell (i := 8) (by omega)
          have x1 : wr.cell? ⟨w.heap.size + 1, 9, none⟩ = some (.int .i64 q2.a) := hax.cell (i := 9) (by omega)
          have x2 : wr.cell? ⟨w.heap.size + 1, 10, none⟩ = some (.int .i64 q2.b) := hax.cell (i := 10) (by omega)
          have x3 : wr.cell? ⟨w.heap.size + 1, 11, none⟩ = some (.int .u64 (q2.d : Nat)) := hax.cell (i := 11) (by omega)
          clear hax
          obtain ⟨M', HM'⟩ : ∃ M', Hid (L'.length = M') := ⟨_, Lib.hid rfl⟩
          have hsp := sp8_any A' L' cap' q2.h q2.a q2.b q2.d q2.lt wr HL'.out.2 hl' hc' HL'.out.1
          rw [HM'.out] at hsp hl' hc' ⊢
          have HSP := Lib.hid hsp
          clear hsp HL'
          go_wp2_with fail
          refine HSP.out.mono ?_
          rintro e w4 ⟨A4, L4, cap4, rfl, hr4, hs4, hl4, hc4, hb⟩
          have HB4 := Lib.hid (Below.step HBW.out hb HBW.out.size)
          have HL4 : Hid (SmL L4 ∧ WRow w4 A4 L4.length (nth L4)) := Lib.hid ⟨hs4, hr4⟩
          clear hb hr4 hs4 x0 x1 x2 x3
          go_wp2
          go_roundw
          case rel => exact ⟨2 + 1, by omega, by go_num, ⟨A4, L4, cap4, rfl, by omega, hc4, HL4⟩, HB4⟩
          case measure => simp [intOf]
      · have e : i = 3 := by omega
        subst e
        clear hax
        have hre : Below w.heap.size w wr := Below.step HB2.out HBW.out HB2.out.size
        have HRE := Lib.hid hre
        have HS3 := Lib.hid (HS2.out.below HBW.out)
        clear hre
        obtain ⟨M', HM'⟩ : ∃ M', Hid (L'.length = M') := ⟨_, Lib.hid rfl⟩
        rw [HM'.out] at hl' hc' HL' ⊢
        go_wp2_with fail
        refine (ends_any s HR.out A c Ar Lr cr fr _ (HE.out.below HRE.out) HS3.out (HRR.out.below HRE.out) (by omega) (by omega)).mono ?_
        rintro e w5 ⟨rfl, hb⟩
        have HRE2 := Lib.hid (Below.step HRE.out hb HRE.out.size)
        have HS4 := Lib.hid (HS3.out.below hb)
        have HL2 := Lib.hid (HL'.out.2.below hb)
        clear hb
        go_wp2_with fail
        refine (ends_any s HR.out A c A' M' cap' (nth L') _ (HE.out.below HRE2.out) HS4.out HL2.out hc' (by omega)).mono ?_
        rintro e w6 ⟨rfl, hb⟩
        have HRE3 := Lib.hid (Below.step HRE2.out hb HRE2.out.size)
        clear hb
        go_wp2
        go_ret
        exact ⟨rfl, HRE3.out⟩

end Go.Proofs.YthcachmcjekckaaDoor
