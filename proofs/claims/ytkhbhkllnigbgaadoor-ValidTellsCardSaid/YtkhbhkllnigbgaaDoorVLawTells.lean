/- ValidTells: the law's walk. -/
import Derived.Test.YtkhbhkllnigbgaaDoorVTells
import Derived.Test.YtkhbhkllnigbgaaDoorVSp8
import Derived.Test.YtkhbhkllnigbgaaDoorVOpenT
namespace Go.Proofs.YtkhbhkllnigbgaaDoor
open Go.ChangeShapes Go.WideShapes Go.ChangeAt Go.RowKit
def arr2F (q0 q1 : T8) (j : Nat) : Value := match j with
  | 0 => .int .i64 q0.h | 1 => .int .i64 q0.a | 2 => .int .i64 q0.b | 3 => .int .u64 (q0.d : Nat)
  | 4 => .int .i64 q1.h | 5 => .int .i64 q1.a | 6 => .int .i64 q1.b | _ => .int .u64 (q1.d : Nat)
theorem arr2_row (w : World) (q0 q1 : T8) (T : TypeId) : (w.alloc (.cells (arr2 q0 q1) T)).rowIs w.heap.size T 8 (arr2F q0 q1) := World.rowIs_alloc w (arr2 q0 q1) T _ (by intro j hj; match j, hj with | 0, _ => rfl | 1, _ => rfl | 2, _ => rfl | 3, _ => rfl | 4, _ => rfl | 5, _ => rfl | 6, _ => rfl | 7, _ => rfl)
def noS : Sch := ⟨0, fun _ => 0, fun _ _ => 0, fun _ _ => 0⟩
theorem noS_at (w : World) (A : Option Addr) : SAt w A noS := ⟨fun h => absurd h (Nat.lt_irrefl 0)⟩
theorem zeros_row (w : World) (n : Nat) (hn : n ≤ 1000) : WRow (w.alloc (.cells (madeCells #[.int .u64 0] n) 26)) (some ⟨w.heap.size, 0, none⟩) n (fun _ => 0) := by
  have h := wrw_made w n hn
  exact ⟨fun _ _ => by omega, fun _ => ⟨w.heap.size, 0, rfl, by simp, fun j hj => by have := h.cell (p := j) (by simpa using hj); simpa using this⟩⟩
theorem zeros_made : ∃ Z : World → World, (∀ w : World, (Instr.makeSlice 22 (.int .i64 201) (.int .i64 201)).run Tryd.prog w = .ok (.slice (some ⟨w.heap.size, 0, none⟩) 201 201) (Z w)) ∧ ∀ w : World, Hid (WRow (Z w) (some ⟨w.heap.size, 0, none⟩) 201 (fun _ => 0) ∧ Below w.heap.size w (Z w)) :=
  ⟨fun w => w.alloc (.cells (madeCells #[.int .u64 0] 201) 26), fun w => mk_full 201 (by omega) w, fun w => Lib.hid ⟨zeros_row w 201 (by omega), ((Below.refl _ _).alloc (Nat.le_refl _) _)⟩⟩
set_option maxRecDepth 100000 in
set_option maxHeartbeats 4000000 in
theorem lawTells_any (Ar : Option Addr) (Lr cr : Nat) (fr : Nat → Nat) (A1 : Option Addr) (L1 c1 : Nat) (A2 : Option Addr) (L2 c2 : Nat) (T : Int) (q0 q1 : T8) (w : World) (hE : Cs.ErrT w) (hr : WRow w Ar Lr fr) (hcr : Lr ≤ cr) (hcr2 : cr ≤ 9223372036854775807) (hN1 : NumsAt w A1 L1 c1) (hN2 : NumsAt w A2 L2 c2) :
    Calls Tryd.prog 3 #[.slice Ar Lr cr, .agg #[.slice A1 L1 c1, .slice A2 L2 c2, .int .i64 T], .agg (arr2 q0 q1)] w fun e w' => e = .returned (.bool true) ∧ Below w.heap.size w w' := by
  have HE := Lib.hid hE
  have H1 := Lib.hid hN1
  have H2 := Lib.hid hN2
  have HRR := Lib.hid hr
  have hls := spec8_row w A1 L1 c1 A2 L2 c2 T
  clear hE hN1 hN2 hr
  unfold arr2
  go_enter Tryd.func3, Tryd.ntmps3
  have hab := arr2_row (w.alloc (.cells #[.slice A1 L1 c1, .slice A2 L2 c2, .int .i64 T] 25)) q0 q1 29
  have hls2 := hls.alloc (.cells (arr2 q0 q1) 29)
  unfold arr2 at hab hls2
  simp only [World.size_alloc] at hab
  go_wp2_with fail
  refine (awake8_any _ (HE.out.below (by (repeat (first | with_reducible exact Below.refl _ _ | with_reducible refine Below.drew ?_ | (with_reducible refine Below.setCell ?_ ?side _; case side => exact (by first | (simp; done) | (simp; omega) | omega)) | (with_reducible refine Below.alloc ?_ ?side _; case side => exact (by first | (simp; done) | (simp; omega) | omega))))))).mono ?_
  rintro e w1 ⟨rfl, hb⟩
  have HB1 := Lib.hid (Below.step (B := w.heap.size) (a := w) (by (repeat (first | with_reducible exact Below.refl _ _ | with_reducible refine Below.drew ?_ | (with_reducible refine Below.setCell ?_ ?side _; case side => exact (by first | (simp; done) | (simp; omega) | omega)) | (with_reducible refine Below.alloc ?_ ?side _; case side => exact (by first | (simp; done) | (simp; omega) | omega))))) hb (by first | (simp; done) | (simp; omega) | omega))
  have hr := hls2.of_block (hb.block _ hls2.lt)
  have HAB := Lib.hid (hab.of_block (hb.block _ hab.lt))
  have b0 : w1.cell? ⟨w.heap.size, 0, none⟩ = some (.slice A1 L1 c1) := hr.cell (i := 0) (by omega)
  have b1 : w1.cell? ⟨w.heap.size, 1, none⟩ = some (.slice A2 L2 c2) := hr.cell (i := 1) (by omega)
  have b2 : w1.cell? ⟨w.heap.size, 2, none⟩ = some (.int .i64 T) := hr.cell (i := 2) (by omega)
  clear hr hb hab hls hls2
  by_cases hraw : 30 < Lr
  · have d60 : decide ((30 : Int) < (Lr : Int)) = true := by simp; omega
    have d60' : decide (30 < Lr) = true := by simp; omega
    have h60c : 30 ≤ cr := by omega
    go_wp2_with fail
    clear b0 b1 b2
    refine (s8made_any 4 5 A1 L1 c1 A2 L2 c2 T _ (H1.out.below HB1.out) (H2.out.below HB1.out) (by omega) (by omega) (by omega)).mono ?_
    rintro e w2 ⟨s, A, c, t, x, Aw, cw, rfl, hQ⟩
    have HAB2 := Lib.hid (HAB.out.of_block (hQ.be.block _ HAB.out.lt))
    have HB2 := Lib.hid (Below.step HB1.out hQ.be HB1.out.size)
    have HS2 := Lib.hid hQ.sat
    have hrow := hQ.row.row
    have hcap := hQ.cap
    have hsm : SmL (bmsg s t x) ∧ (bmsg s t x).length ≤ 200 := by
      rcases bmsg_cases hQ.right hQ.lt (hQ.chk (by omega)) with ⟨-, he⟩ | ⟨hl, he, hlen⟩
      · rw [he]; exact ⟨fun x hx => (by cases hx), by simp⟩
      · rw [he]; exact ⟨msgL_small s t (hQ.made.sm (fun i hi => by have := hQ.four i hi; omega) hQ.lt (fun i j hi hj => hQ.right.tlt hi hj) (by omega) : Sm (2 * 5) x), by omega⟩
    generalize bmsg s t x = L at hrow hcap hsm ⊢
    have HW2 := Lib.hid hrow
    have HSM := Lib.hid hsm.1
    have hl2 := hsm.2
    clear hQ hrow hsm HAB
    have x0 : w2.cell? ⟨w.heap.size + 1, 0, none⟩ = some (.int .i64 q0.h) := HAB2.out.cell (i := 0) (by omega)
    have x1 : w2.cell? ⟨w.heap.size + 1, 1, none⟩ = some (.int .i64 q0.a) := HAB2.out.cell (i := 1) (by omega)
    have x2 : w2.cell? ⟨w.heap.size + 1, 2, none⟩ = some (.int .i64 q0.b) := HAB2.out.cell (i := 2) (by omega)
    have x3 : w2.cell? ⟨w.heap.size + 1, 3, none⟩ = some (.int .u64 (q0.d : Nat)) := HAB2.out.cell (i := 3) (by omega)
    obtain ⟨M, HM⟩ : ∃ M, Hid (L.length = M) := ⟨_, Lib.hid rfl⟩
    have hsp := sp8_any Aw L cw q0.h q0.a q0.b q0.d q0.lt w2 HW2.out hl2 hcap HSM.out
    have hw2 := HW2.out
    rw [HM.out] at hsp hl2 hcap hw2 ⊢
    have HSP := Lib.hid hsp
    clear hsp HSM HW2
    have HW2 := Lib.hid hw2
    clear hw2
    go_wp2_with fail
    refine HSP.out.mono ?_
    rintro e w3 ⟨Ax, Lx, capx, rfl, hrx, hsx, hlx, hcx, hb⟩
    have HB3 := Lib.hid (Below.step HB2.out hb HB2.out.size)
    have HS3 := Lib.hid (HS2.out.below hb)
    have HW3 := Lib.hid (HW2.out.below hb)
    have HX3 := Lib.hid hrx
    have HAB3 := Lib.hid (HAB2.out.of_block (hb.block _ HAB2.out.lt))
    clear hb x0 x1 x2 x3 HAB2 HS2 HW2 HSP
    have x0 : w3.cell? ⟨w.heap.size + 1, 4, none⟩ = some (.int .i64 q1.h) := HAB3.out.cell (i := 4) (by omega)
    have x1 : w3.cell? ⟨w.heap.size + 1, 5, none⟩ = some (.int .i64 q1.a) := HAB3.out.cell (i := 5) (by omega)
    have x2 : w3.cell? ⟨w.heap.size + 1, 6, none⟩ = some (.int .i64 q1.b) := HAB3.out.cell (i := 6) (by omega)
    have x3 : w3.cell? ⟨w.heap.size + 1, 7, none⟩ = some (.int .u64 (q1.d : Nat)) := HAB3.out.cell (i := 7) (by omega)
    obtain ⟨Mx, HMx⟩ : ∃ M, Hid (Lx.length = M) := ⟨_, Lib.hid rfl⟩
    have hsp := sp8_any Ax Lx capx q1.h q1.a q1.b q1.d q1.lt w3 hrx (by omega) hcx hsx
    have hw3 := HX3.out
    rw [HMx.out] at hsp hlx hcx hw3 ⊢
    have HSP := Lib.hid hsp
    clear hsp HX3 hrx hsx
    have HX3 := Lib.hid hw3
    clear hw3
    go_wp2_with fail
    refine HSP.out.mono ?_
    rintro e w4 ⟨Ay, Ly, capy, rfl, hry, hsy, hly, hcy, hb⟩
    have HB4 := Lib.hid (Below.step HB3.out hb HB3.out.size)
    have HS4 := Lib.hid (HS3.out.below hb)
    have HW4 := Lib.hid (HW3.out.below hb)
    have HX4 := Lib.hid (HX3.out.below hb)
    have HY4 := Lib.hid hry
    clear hb x0 x1 x2 x3 HAB3 HS3 HW3 HX3 HSP
    obtain ⟨My, HMy⟩ : ∃ M, Hid (Ly.length = M) := ⟨_, Lib.hid rfl⟩
    have hw4 := HY4.out
    rw [HMy.out] at hly hcy hw4 ⊢
    clear hry hsy HY4
    have HY4 := Lib.hid hw4
    clear hw4
    go_wp2_with fail
    refine (tells8_any s A c _ rfl Ar 30 cr fr _ (HE.out.below HB4.out) HS4.out ((HRR.out.cut (by omega)).below HB4.out) (by omega)).mono ?_
    rintro e w5 ⟨rfl, hb⟩
    have HB5 := Lib.hid (Below.step HB4.out hb HB4.out.size)
    have HS5 := Lib.hid (HS4.out.below hb)
    have HW5 := Lib.hid (HW4.out.below hb)
    have HX5 := Lib.hid (HX4.out.below hb)
    have HY5 := Lib.hid (HY4.out.below hb)
    clear hb
    go_wp2_with fail
    refine (tells8_any s A c _ rfl Aw M cw (nth L) _ (HE.out.below HB5.out) HS5.out HW5.out hcap).mono ?_
    rintro e w6 ⟨rfl, hb⟩
    have HB6 := Lib.hid (Below.step HB5.out hb HB5.out.size)
    have HS6 := Lib.hid (HS5.out.below hb)
    have HW6 := Lib.hid (HW5.out.below hb)
    have HX6 := Lib.hid (HX5.out.below hb)
    have HY6 := Lib.hid (HY5.out.below hb)
    clear hb
    go_wp2_with fail
    refine (tells8_any s A c _ rfl Ax Mx capx (nth Lx) _ (HE.out.below HB6.out) HS6.out HX6.out hcx).mono ?_
    rintro e w7 ⟨rfl, hb⟩
    have HB7 := Lib.hid (Below.step HB6.out hb HB6.out.size)
    have HS7 := Lib.hid (HS6.out.below hb)
    have HW7 := Lib.hid (HW6.out.below hb)
    have HY7 := Lib.hid (HY6.out.below hb)
    clear hb
    go_wp2_with fail
    refine (tells8_any s A c _ rfl Ay My capy (nth Ly) _ (HE.out.below HB7.out) HS7.out HY7.out hcy).mono ?_
    rintro e w8 ⟨rfl, hb⟩
    have HB8 := Lib.hid (Below.step HB7.out hb HB7.out.size)
    have HS8 := Lib.hid (HS7.out.below hb)
    have HW8 := Lib.hid (HW7.out.below hb)
    clear hb
    have HB8' := Lib.hid (HB8.out.alloc HB8.out.size (.cells #[] 96))
    have HS8' := Lib.hid (HS8.out.below (W' := w8.alloc (.cells #[] 96)) ((Below.refl _ _).alloc (Nat.le_refl _) _))
    have HW8' := Lib.hid (HW8.out.below (W' := w8.alloc (.cells #[] 96)) ((Below.refl _ _).alloc (Nat.le_refl _) _))
    go_wp2_with fail
    refine (tells8_any noS _ _ 0 rfl Aw M cw (nth L) _ (HE.out.below HB8'.out) (noS_at _ _) HW8'.out hcap).mono ?_
    rintro e w9 ⟨rfl, hb⟩
    have HB9 := Lib.hid (Below.step HB8'.out hb HB8'.out.size)
    have HS9 := Lib.hid (HS8'.out.below hb)
    clear hb
    obtain ⟨Z, hZ1, hZ2⟩ := zeros_made
    go_wp2_with fail
    have HZ := hZ2 w9
    have HB9' := Lib.hid (Below.step HB9.out HZ.out.2 HB9.out.size)
    refine (tells8_any s A c _ rfl _ 201 201 (fun _ => 0) _ (HE.out.below HB9'.out) (HS9.out.below HZ.out.2) HZ.out.1 (Nat.le_refl _)).mono ?_
    rintro e w10 ⟨rfl, hb⟩
    have HB10 := Lib.hid (Below.step HB9'.out hb HB9'.out.size)
    clear hb
    go_wp2
    go_ret
    exact ⟨rfl, HB10.out⟩
  · have d60 : decide ((30 : Int) < (Lr : Int)) = false := by simp; omega
    have d60' : decide (30 < Lr) = false := by simp; omega
    go_wp2_with fail
    clear b0 b1 b2
    refine (s8made_any 4 5 A1 L1 c1 A2 L2 c2 T _ (H1.out.below HB1.out) (H2.out.below HB1.out) (by omega) (by omega) (by omega)).mono ?_
    rintro e w2 ⟨s, A, c, t, x, Aw, cw, rfl, hQ⟩
    have HAB2 := Lib.hid (HAB.out.of_block (hQ.be.block _ HAB.out.lt))
    have HB2 := Lib.hid (Below.step HB1.out hQ.be HB1.out.size)
    have HS2 := Lib.hid hQ.sat
    have hrow := hQ.row.row
    have hcap := hQ.cap
    have hsm : SmL (bmsg s t x) ∧ (bmsg s t x).length ≤ 200 := by
      rcases bmsg_cases hQ.right hQ.lt (hQ.chk (by omega)) with ⟨-, he⟩ | ⟨hl, he, hlen⟩
      · rw [he]; exact ⟨fun x hx => (by cases hx), by simp⟩
      · rw [he]; exact ⟨msgL_small s t (hQ.made.sm (fun i hi => by have := hQ.four i hi; omega) hQ.lt (fun i j hi hj => hQ.right.tlt hi hj) (by omega) : Sm (2 * 5) x), by omega⟩
    generalize bmsg s t x = L at hrow hcap hsm ⊢
    have HW2 := Lib.hid hrow
    have HSM := Lib.hid hsm.1
    have hl2 := hsm.2
    clear hQ hrow hsm HAB
    have x0 : w2.cell? ⟨w.heap.size + 1, 0, none⟩ = some (.int .i64 q0.h) := HAB2.out.cell (i := 0) (by omega)
    have x1 : w2.cell? ⟨w.heap.size + 1, 1, none⟩ = some (.int .i64 q0.a) := HAB2.out.cell (i := 1) (by omega)
    have x2 : w2.cell? ⟨w.heap.size + 1, 2, none⟩ = some (.int .i64 q0.b) := HAB2.out.cell (i := 2) (by omega)
    have x3 : w2.cell? ⟨w.heap.size + 1, 3, none⟩ = some (.int .u64 (q0.d : Nat)) := HAB2.out.cell (i := 3) (by omega)
    obtain ⟨M, HM⟩ : ∃ M, Hid (L.length = M) := ⟨_, Lib.hid rfl⟩
    have hsp := sp8_any Aw L cw q0.h q0.a q0.b q0.d q0.lt w2 HW2.out hl2 hcap HSM.out
    have hw2 := HW2.out
    rw [HM.out] at hsp hl2 hcap hw2 ⊢
    have HSP := Lib.hid hsp
    clear hsp HSM HW2
    have HW2 := Lib.hid hw2
    clear hw2
    go_wp2_with fail
    refine HSP.out.mono ?_
    rintro e w3 ⟨Ax, Lx, capx, rfl, hrx, hsx, hlx, hcx, hb⟩
    have HB3 := Lib.hid (Below.step HB2.out hb HB2.out.size)
    have HS3 := Lib.hid (HS2.out.below hb)
    have HW3 := Lib.hid (HW2.out.below hb)
    have HX3 := Lib.hid hrx
    have HAB3 := Lib.hid (HAB2.out.of_block (hb.block _ HAB2.out.lt))
    clear hb x0 x1 x2 x3 HAB2 HS2 HW2 HSP
    have x0 : w3.cell? ⟨w.heap.size + 1, 4, none⟩ = some (.int .i64 q1.h) := HAB3.out.cell (i := 4) (by omega)
    have x1 : w3.cell? ⟨w.heap.size + 1, 5, none⟩ = some (.int .i64 q1.a) := HAB3.out.cell (i := 5) (by omega)
    have x2 : w3.cell? ⟨w.heap.size + 1, 6, none⟩ = some (.int .i64 q1.b) := HAB3.out.cell (i := 6) (by omega)
    have x3 : w3.cell? ⟨w.heap.size + 1, 7, none⟩ = some (.int .u64 (q1.d : Nat)) := HAB3.out.cell (i := 7) (by omega)
    obtain ⟨Mx, HMx⟩ : ∃ M, Hid (Lx.length = M) := ⟨_, Lib.hid rfl⟩
    have hsp := sp8_any Ax Lx capx q1.h q1.a q1.b q1.d q1.lt w3 hrx (by omega) hcx hsx
    have hw3 := HX3.out
    rw [HMx.out] at hsp hlx hcx hw3 ⊢
    have HSP := Lib.hid hsp
    clear hsp HX3 hrx hsx
    have HX3 := Lib.hid hw3
    clear hw3
    go_wp2_with fail
    refine HSP.out.mono ?_
    rintro e w4 ⟨Ay, Ly, capy, rfl, hry, hsy, hly, hcy, hb⟩
    have HB4 := Lib.hid (Below.step HB3.out hb HB3.out.size)
    have HS4 := Lib.hid (HS3.out.below hb)
    have HW4 := Lib.hid (HW3.out.below hb)
    have HX4 := Lib.hid (HX3.out.below hb)
    have HY4 := Lib.hid hry
    clear hb x0 x1 x2 x3 HAB3 HS3 HW3 HX3 HSP
    obtain ⟨My, HMy⟩ : ∃ M, Hid (Ly.length = M) := ⟨_, Lib.hid rfl⟩
    have hw4 := HY4.out
    rw [HMy.out] at hly hcy hw4 ⊢
    clear hry hsy HY4
    have HY4 := Lib.hid hw4
    clear hw4
    go_wp2_with fail
    refine (tells8_any s A c _ rfl Ar Lr cr fr _ (HE.out.below HB4.out) HS4.out ((HRR.out).below HB4.out) (by omega)).mono ?_
    rintro e w5 ⟨rfl, hb⟩
    have HB5 := Lib.hid (Below.step HB4.out hb HB4.out.size)
    have HS5 := Lib.hid (HS4.out.below hb)
    have HW5 := Lib.hid (HW4.out.below hb)
    have HX5 := Lib.hid (HX4.out.below hb)
    have HY5 := Lib.hid (HY4.out.below hb)
    clear hb
    go_wp2_with fail
    refine (tells8_any s A c _ rfl Aw M cw (nth L) _ (HE.out.below HB5.out) HS5.out HW5.out hcap).mono ?_
    rintro e w6 ⟨rfl, hb⟩
    have HB6 := Lib.hid (Below.step HB5.out hb HB5.out.size)
    have HS6 := Lib.hid (HS5.out.below hb)
    have HW6 := Lib.hid (HW5.out.below hb)
    have HX6 := Lib.hid (HX5.out.below hb)
    have HY6 := Lib.hid (HY5.out.below hb)
    clear hb
    go_wp2_with fail
    refine (tells8_any s A c _ rfl Ax Mx capx (nth Lx) _ (HE.out.below HB6.out) HS6.out HX6.out hcx).mono ?_
    rintro e w7 ⟨rfl, hb⟩
    have HB7 := Lib.hid (Below.step HB6.out hb HB6.out.size)
    have HS7 := Lib.hid (HS6.out.below hb)
    have HW7 := Lib.hid (HW6.out.below hb)
    have HY7 := Lib.hid (HY6.out.below hb)
    clear hb
    go_wp2_with fail
    refine (tells8_any s A c _ rfl Ay My capy (nth Ly) _ (HE.out.below HB7.out) HS7.out HY7.out hcy).mono ?_
    rintro e w8 ⟨rfl, hb⟩
    have HB8 := Lib.hid (Below.step HB7.out hb HB7.out.size)
    have HS8 := Lib.hid (HS7.out.below hb)
    have HW8 := Lib.hid (HW7.out.below hb)
    clear hb
    have HB8' := Lib.hid (HB8.out.alloc HB8.out.size (.cells #[] 96))
    have HS8' := Lib.hid (HS8.out.below (W' := w8.alloc (.cells #[] 96)) ((Below.refl _ _).alloc (Nat.le_refl _) _))
    have HW8' := Lib.hid (HW8.out.below (W' := w8.alloc (.cells #[] 96)) ((Below.refl _ _).alloc (Nat.le_refl _) _))
    go_wp2_with fail
    refine (tells8_any noS _ _ 0 rfl Aw M cw (nth L) _ (HE.out.below HB8'.out) (noS_at _ _) HW8'.out hcap).mono ?_
    rintro e w9 ⟨rfl, hb⟩
    have HB9 := Lib.hid (Below.step HB8'.out hb HB8'.out.size)
    have HS9 := Lib.hid (HS8'.out.below hb)
    clear hb
    obtain ⟨Z, hZ1, hZ2⟩ := zeros_made
    go_wp2_with fail
    have HZ := hZ2 w9
    have HB9' := Lib.hid (Below.step HB9.out HZ.out.2 HB9.out.size)
    refine (tells8_any s A c _ rfl _ 201 201 (fun _ => 0) _ (HE.out.below HB9'.out) (HS9.out.below HZ.out.2) HZ.out.1 (Nat.le_refl _)).mono ?_
    rintro e w10 ⟨rfl, hb⟩
    have HB10 := Lib.hid (Below.step HB9'.out hb HB9'.out.size)
    clear hb
    go_wp2
    go_ret
    exact ⟨rfl, HB10.out⟩

end Go.Proofs.YtkhbhkllnigbgaaDoor
