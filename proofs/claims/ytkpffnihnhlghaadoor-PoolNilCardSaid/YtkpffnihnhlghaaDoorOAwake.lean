/- The laws' configs; their first call: the chapter's example. -/
import Derived.Test.YtkpffnihnhlghaaDoorOMath
import Derived.Test.YtkpffnihnhlghaaDoorHCfg
import Derived.Test.YtkpffnihnhlghaaDoorHMade
import Derived.Test.YtkpffnihnhlghaaDoorPErr
namespace Go.Proofs.YtkpffnihnhlghaaDoor
open Go.RowKit
set_option maxRecDepth 100000 in
set_option maxHeartbeats 1000000 in
theorem cfg11_any (a2 a3 : Int) (w : World) : Calls Tryd.prog 20 #[.agg #[.int .i64 a2, .int .i64 a3]] w fun e w' => ∃ x : Cfg, e = .returned (.agg #[.int .i64 x.t, .int .i64 x.s, .int .i64 x.l, .int .i64 x.c, .int .i64 x.s0, .int .i64 x.n0, .int .i64 x.s1, .int .i64 x.n1, .int .i64 x.r]) ∧ Right x ∧ x.n0 = r6 a2 ∧ x.n1 = r6 a3 ∧ x.n0 ≤ 5 ∧ x.n1 ≤ 5 ∧ Below w.heap.size w w' := by
  obtain ⟨m2, b2, g2⟩ := rest a2 6 (by omega) (by omega)
  obtain ⟨m3, b3, g3⟩ := rest a3 6 (by omega) (by omega)
  have h2 : (wrap64 (a2.tmod 6 + 6)).tmod 6 = (m2 : Int) := g2
  have h3 : (wrap64 (a3.tmod 6 + 6)).tmod 6 = (m3 : Int) := g3
  have H2 : Hid ((m2 : Int) = r6 a2) := Lib.hid h2.symm
  have H3 : Hid ((m3 : Int) = r6 a3) := Lib.hid h3.symm
  clear g2 g3
  obtain ⟨x, ex⟩ : ∃ x : Cfg, x = ⟨1, 4, 1, 2, 4, m2, 6, m3, 2⟩ := ⟨_, rfl⟩
  have HX : Hid (Right x) := Lib.hid (by subst ex; apply Right.of; dsimp only; omega)
  have HN : Hid (x.n0 = (m2 : Int) ∧ x.n1 = (m3 : Int)) := Lib.hid (by subst ex; exact ⟨rfl, rfl⟩)
  have EX := Lib.hid ex
  clear ex
  go_enter Tryd.func20, Tryd.ntmps20
  go_wp2_with fail
  refine (of_any x _ _ (fun j hj => ?_)).mono ?_
  · rw [EX.out]
    obtain rfl | rfl | rfl | rfl | rfl | rfl | rfl | rfl | rfl : j = 0 ∨ j = 1 ∨ j = 2 ∨ j = 3 ∨ j = 4 ∨ j = 5 ∨ j = 6 ∨ j = 7 ∨ j = 8 := by omega
    all_goals (go_simp; try rfl)
  rintro e w1 ⟨rfl, hb⟩
  have H1 := Lib.hid (Below.step (B := w.heap.size) (a := w) (by (repeat (first | with_reducible exact Below.refl _ _ | with_reducible refine Below.drew ?_ | (with_reducible refine Below.setCell ?_ ?side _; case side => exact (by first | (simp; done) | (simp; omega) | omega)) | (with_reducible refine Below.alloc ?_ ?side _; case side => exact (by first | (simp; done) | (simp; omega) | omega))))) hb (by first | (simp; done) | (simp; omega) | omega))
  have hz : CfgAt (w.alloc (.cells #[.int .i64 a2, .int .i64 a3] 54) |>.alloc (.cells #[.int .i64 zeroC.t, .int .i64 zeroC.s, .int .i64 zeroC.l, .int .i64 zeroC.c, .int .i64 zeroC.s0, .int .i64 zeroC.n0, .int .i64 zeroC.s1, .int .i64 zeroC.n1, .int .i64 zeroC.r] 60)) (w.heap.size + 1) zeroC := by
    have h := cfgAt_box (w.alloc (.cells #[.int .i64 a2, .int .i64 a3] 54)) zeroC
    simp only [World.size_alloc] at h
    exact h
  have hz1 := CfgAt.below (hz.alloc _) hb
  obtain ⟨z0, z1, z2, z3, z4, z5, z6, z7, z8⟩ := hz1.cells
  have zf := hz1.frozen
  clear hz hz1 hb h2 h3
  have hz := H1.out.size
  go_wp2
  refine bodyPost_ret (v := (.agg #[.int .i64 x.t, .int .i64 x.s, .int .i64 x.l, .int .i64 x.c, .int .i64 x.s0, .int .i64 x.n0, .int .i64 x.s1, .int .i64 x.n1, .int .i64 x.r])) (by simp [results, Tryd.results20, go_sem, z0, z1, z2, z3, z4, z5, z6, z7, z8]) rfl ⟨x, rfl, HX.out, by rw [HN.out.1, H2.out], by rw [HN.out.2, H3.out], by have := HN.out.1; omega, by have := HN.out.2; omega, ?_⟩
  (repeat (first | with_reducible exact Below.refl _ _ | with_reducible exact H1.out | with_reducible refine Below.drew ?_ | (with_reducible refine Below.setCell ?_ ?side _; case side => exact (by have := (H1.out).size; first | (simp; done) | (simp; omega) | omega)) | (with_reducible refine Below.alloc ?_ ?side _; case side => exact (by have := (H1.out).size; first | (simp; done) | (simp; omega) | omega))))
theorem onl_be {S : List Nat} {w wB W : World} (hb : Below w.heap.size w wB) (ho : OnlS S wB W) (h : ∀ k ∈ S, w.heap.size ≤ k) : Below w.heap.size w W := hb.trans (ho.below hb.size h)
theorem glim_lt {w : World} (h : Lim w) : 1 < w.heap.size := World.block_lt_of_cell? w _ (h 0 (by omega)).1
theorem made_okw {x : Cfg} (hr : Right x) {N : Nat} {y : St} (hy : ∀ j, j < N → y.f j = wordsC x j) : OkW y N := fun j hj => by
  rw [hy j hj]
  exact fw_range hr (decide (0 < x.n0)) (decide (0 < x.n1)) (fun b => decide ((b : Int) ≠ x.n0) && decide ((b : Int) < x.n0 + x.n1)) j
set_option maxRecDepth 100000 in
set_option maxHeartbeats 4000000 in
theorem awake11_any (w : World) (hL : Lim w) : Calls Tryd.prog 19 #[] w fun e w' => e = .returned (.bool true) ∧ Below w.heap.size w w' := by
  have HL := Lib.hid hL
  have hg := glim_lt hL
  clear hL
  go_enter Tryd.func19, Tryd.ntmps19
  go_wp2_with fail
  refine (cfg11_any 2 0 _).mono ?_
  rintro e w1 ⟨x, rfl, hr, hn0, hn1, -, -, hb⟩
  have HR := Lib.hid hr
  have hn0' : x.n0 = 2 := hn0.trans (by unfold r6 wrap64; rfl)
  have hn1' : x.n1 = 0 := hn1.trans (by unfold r6 wrap64; rfl)
  have HB1 := Lib.hid hb
  obtain ⟨N, hN⟩ : ∃ N : Nat, sizeC x = (N : Int) := ⟨(sizeC x).toNat, by have := hr.sizes; omega⟩
  have HNN := Lib.hid hN
  have N1 : 7 ≤ N := by have := hr.sizes; omega
  have N2 : N ≤ 2869 := by have := hr.sizes; omega
  have HN0 := Lib.hid (And.intro hn0' hn1')
  clear hr hn0 hn1 hb hN hn0' hn1'
  have hcb := cfgAt_box w1 x
  have HB1' := Lib.hid (HB1.out.alloc HB1.out.size (.cells #[.int .i64 x.t, .int .i64 x.s, .int .i64 x.l, .int .i64 x.c, .int .i64 x.s0, .int .i64 x.n0, .int .i64 x.s1, .int .i64 x.n1, .int .i64 x.r] 60))
  obtain ⟨c0, c1, c2, c3, c4, c5, c6, c7, c8⟩ := hcb.cells
  have HCB := Lib.hid hcb
  clear hcb
  go_wp2_with fail
  generalize w1.alloc (.cells #[.int .i64 x.t, .int .i64 x.s, .int .i64 x.l, .int .i64 x.c, .int .i64 x.s0, .int .i64 x.n0, .int .i64 x.s1, .int .i64 x.n1, .int .i64 x.r] 60) = Wa at HCB HB1' c0 c1 c2 c3 c4 c5 c6 c7 c8 ⊢
  generalize w1.heap.size = qc at HCB c0 c1 c2 c3 c4 c5 c6 c7 c8 ⊢
  refine (make_yes x N _ (HL.out.below HB1'.out) HR.out HNN.out).mono ?_
  rintro e w2 ⟨p, c, y0, rfl, hA, hy, hs, hp, hc, hb⟩
  have HB2 := Lib.hid (Below.step HB1'.out hb HB1'.out.size)
  have HC2 := Lib.hid (HCB.out.below hb)
  have HA := Lib.hid hA
  have HY := Lib.hid hy
  have hsz := HB1'.out.size
  have hpw : w.heap.size ≤ p := by omega
  have hcw : w.heap.size ≤ c := by omega
  have hs0 : 0 ≤ y0.s := by rw [hs]; exact (nz_bound _ _).1
  have hs0b : y0.s < 3000 := by rw [hs]; have := (nz_bound (wordsC x) N).2; omega
  have hpl : p < w2.heap.size := hA.obj.lt
  have hcl : c < w2.heap.size := hA.row.lt
  clear hA hy hs hp hc hb HCB HB1' c0 c1 c2 c3 c4 c5 c6 c7 c8
  obtain ⟨c0, c1, c2, c3, c4, c5, c6, c7, c8⟩ := HC2.out.cells
  go_wp2_with fail
  refine (newtake_any x 0 (by omega) _ (HL.out.below HB2.out) HR.out).mono ?_
  rintro e wB ⟨q, rfl, hq, hT, hb⟩
  have HB3 := Lib.hid (Below.step HB2.out hb HB2.out.size)
  have hsz2 := HB2.out.size
  have hqw : w.heap.size ≤ q := by omega
  have K : Hid (TH wB q p c N x (tk0 0) y0 wB) := Lib.hid ⟨hT, Ar.below HA.out hb hpl hcl, HL.out.below HB3.out, OnlS.refl _ _, by omega, by omega, by omega, by omega, by omega⟩
  clear hT hb HA HC2 HB2 c0 c1 c2 c3 c4 c5 c6 c7 c8
  have HOK0 := Lib.hid (made_okw HR.out HY.out)
  have hcls1 : classC x 1 = 0 := by rw [class_0 (by have := HN0.out.1; have := HN0.out.2; omega) (by have := HN0.out.1; omega)]
  have hf3 : y0.f 3 = 1 := by rw [HY.out 3 (by omega), made_3, if_pos (by have := HN0.out.1; omega)]
  have ha1 := adr_low HR.out 1 (by omega) (by have := HN0.out.1; have := HN0.out.2; omega)
  have hfa : y0.f (adr x 1) = 2 := by rw [HY.out _ (by have := HNN.out; omega), made_b HR.out 1 (by omega) (by have := HN0.out.1; have := HN0.out.2; omega), if_pos (by have := HN0.out.1; have := HN0.out.2; omega)]; rfl
  obtain ⟨p1, hT1⟩ : ∃ p1, tkNext x N (tk0 0) y0 = p1 := ⟨_, rfl⟩
  obtain ⟨p2, hT2⟩ : ∃ p2, tkNext x N p1.1 p1.2 = p2 := ⟨_, rfl⟩
  obtain ⟨p3, hT3⟩ : ∃ p3, tkNext x N p2.1 p2.2 = p3 := ⟨_, rfl⟩
  obtain ⟨k1, k2, k3, kb, kf, ks⟩ := take_alone (x := x) (n := N) (C := 0) (by omega) (by omega) (H := 1) hf3 hcls1 (i := adr x 1) ha1.2.1.symm (by have := HNN.out; omega) (R := 2) hfa hT1 hT2 hT3
  have HK0 : Hid (TkOk 0 (tk0 0)) := Lib.hid ⟨rfl, by show 0 < _; omega, by show 1 ≤ 3; omega⟩
  have HK1 : Hid (TkOk 0 p1.1) := Lib.hid (by rw [← hT1]; exact HK0.out.next x HOK0.out)
  have HOK1 : Hid (OkW p1.2 N) := Lib.hid (by rw [← hT1]; exact HOK0.out.tk x _)
  have HK2 : Hid (TkOk 0 p2.1) := Lib.hid (by rw [← hT2]; exact HK1.out.next x HOK1.out)
  have HOK2 : Hid (OkW p2.2 N) := Lib.hid (by rw [← hT2]; exact HOK1.out.tk x _)
  have hs1e : p1.2.s = y0.s + 1 := by rw [← hT1, tk_s]; rfl
  have hs2e : p2.2.s = p1.2.s + 1 := by rw [← hT2, tk_s, if_neg (by omega)]
  have hs1 : 0 ≤ p1.2.s := by omega
  have hs2 : 0 ≤ p2.2.s := by omega
  have hs1b : p1.2.s < 1000000 := by omega
  have hs2b : p2.2.s < 1000000 := by omega
  have HKF := Lib.hid (And.intro kb kf)
  clear kb kf ks hs1e hs2e hf3 hfa ha1 hcls1
  go_wp2_with fail
  refine (otstep_any wB q p c N x HR.out (tk0 0) y0 HK0.out.k (by rw [HK0.out.C]; omega) hs0 (by omega) HK0.out.X HOK0.out _ K.out).mono ?_
  rintro e v1 ⟨rfl, hK⟩
  rw [hT1] at hK ⊢
  replace K := Lib.hid hK
  clear hK
  go_wp2_with fail
  refine (otstep_any wB q p c N x HR.out p1.1 p1.2 HK1.out.k (by rw [HK1.out.C]; omega) hs1 hs1b HK1.out.X HOK1.out _ K.out).mono ?_
  rintro e v2 ⟨rfl, hK⟩
  rw [hT2] at hK ⊢
  replace K := Lib.hid hK
  clear hK
  go_wp2_with fail
  refine (words_any _ p c N _ K.out.ar (by omega) (by omega)).mono ?_
  rintro e v3 ⟨g1, cp1, F1, rfl, -, hcap, hrow, hF, hb⟩
  replace K := Lib.hid (K.out.below hb)
  clear hrow hF hb hcap
  go_wp2_with fail
  refine (otstep_any wB q p c N x HR.out p2.1 p2.2 HK2.out.k (by rw [HK2.out.C]; omega) hs2 hs2b HK2.out.X HOK2.out _ K.out).mono ?_
  rintro e v4 ⟨rfl, hK⟩
  rw [hT3] at hK ⊢
  replace K := Lib.hid hK
  clear hK
  rw [k3]
  have d12 := World.rowIs.cell K.out.ta (i := 12) (by omega)
  have d13 := World.rowIs.cell K.out.ta (i := 13) (by omega)
  replace d12 : v4.cell? ⟨q, 12, none⟩ = some (.int .i64 1) := d12.trans (by show some (Value.int .i64 p3.1.b) = _; rw [HKF.out.1]; rfl)
  replace d13 : v4.cell? ⟨q, 13, none⟩ = some .nilFunc := d13.trans (by show some (nextV q p3.1.k) = _; rw [k3]; rfl)
  have HF3 : Hid (p3.2.f 3 = ((4294967298 : Nat) : Int)) := Lib.hid (by rw [HKF.out.2]; show put y0.f 3 _ 3 = _; rw [put_at]; unfold turnI; rfl)
  clear hT1 hT2 hT3 k1 k2 k3
  go_wp2_with fail
  refine (otdone_none _ q d13).mono ?_
  rintro e w5 ⟨rfl, rfl⟩
  go_wp2_with fail
  refine (otblock_any _ q 1 d12).mono ?_
  rintro e w5 ⟨rfl, rfl⟩
  have gN : (5 : Int) < (N : Int) := by omega
  have gN3 : (3 : Int) < (N : Int) := by omega
  clear d12 d13
  go_wp2_with fail
  refine (words_any _ p c N _ K.out.ar (by omega) (by omega)).mono ?_
  rintro e v6 ⟨g2, cp2, F2, rfl, -, hcap, hrow, hF, hb⟩
  have hc3 : v6.cell? ⟨g2, 3, none⟩ = some (.int .u64 ((4294967298 : Nat) : Int)) := (hrow.cell (i := 3) (by omega)).trans (by rw [hF 3 (by omega), HF3.out])
  replace K := Lib.hid (K.out.below hb)
  clear hrow hF hb hcap
  go_wp2_with fail
  refine (hblock_any 4294967298 _).mono ?_
  rintro e w7 ⟨rfl, rfl⟩
  clear hc3
  go_wp2_with fail
  refine (words_any _ p c N _ K.out.ar (by omega) (by omega)).mono ?_
  rintro e v8 ⟨g3, cp3, F3, rfl, -, hcap, hrow, hF, hb⟩
  have hc3 : v8.cell? ⟨g3, 3, none⟩ = some (.int .u64 ((4294967298 : Nat) : Int)) := (hrow.cell (i := 3) (by omega)).trans (by rw [hF 3 (by omega), HF3.out])
  replace K := Lib.hid (K.out.below hb)
  clear hrow hF hb hcap
  go_wp2_with fail
  refine (htag_any 4294967298 (by omega) _).mono ?_
  rintro e w9 ⟨rfl, rfl⟩
  clear hc3
  go_wp2
  go_ret
  exact ⟨rfl, onl_be HB3.out K.out.onl (by intro k hk; simp at hk; omega)⟩

end Go.Proofs.YtkpffnihnhlghaaDoor
