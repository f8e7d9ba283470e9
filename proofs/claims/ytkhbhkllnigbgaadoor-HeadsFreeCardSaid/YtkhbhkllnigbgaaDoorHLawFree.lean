/- HeadsFree: the law's walk. -/
import Derived.Test.YtkhbhkllnigbgaaDoorHFreeA
import Derived.Test.YtkhbhkllnigbgaaDoorHLawOnce
namespace Go.Proofs.YtkhbhkllnigbgaaDoor
open Go.RowKit
theorem irw_cell {W : World} {b o n cap : Nat} {L : List Int} (h : IRw W (.slice (some ⟨b, o, none⟩) n cap) L) (i : Nat) (hi : i < L.length) : W.cell? ⟨b, o + i, none⟩ = some (.int .i64 L[i]) := by
  obtain ⟨A, cp, e, hc⟩ := h
  obtain ⟨b', o', f1, f2, f3⟩ := hc (by omega)
  have e2 : some (⟨b, o, none⟩ : Addr) = some ⟨b', o', none⟩ := by injection e with e2 _ _; exact e2.trans f1
  cases e2
  exact f3 i hi
theorem rising_at {L M : List Int} (e : L = srt M) (h : M.Pairwise (· ≠ ·)) (i j : Nat) (hij : i = j + 1) (hi : i < L.length) : L[j]'(by omega) < L[i] := by
  subst e hij
  exact srt_rising h (j + 1) (by omega) hi
/-- The config, the words, and three rows. -/
structure F3 (w : World) (x : Cfg) (qc c N : Nat) (f : Nat → Nat) (vx vy vz : Value) (L0 L1 Lz : List Int) (W : World) : Prop where
  ah : AH w x qc c 0 N f W
  ix : IRw W vx L0
  iy : IRw W vy L1
  iz : IRw W vz Lz
/-- .. and a fourth. -/
structure FT (w : World) (x : Cfg) (qc c N : Nat) (f : Nat → Nat) (vx vy vz vm : Value) (L0 L1 Lz Lm : List Int) (W : World) : Prop where
  ah : AH w x qc c 0 N f W
  ix : IRw W vx L0
  iy : IRw W vy L1
  iz : IRw W vz Lz
  im : IRw W vm Lm
section
variable {w : World} {x : Cfg} {qc c N : Nat} {f : Nat → Nat} {vx vy vz vm : Value} {L0 L1 Lz Lm : List Int} {W W' : World}
theorem F3.below (h : F3 w x qc c N f vx vy vz L0 L1 Lz W) (hb : Below W.heap.size W W') : F3 w x qc c N f vx vy vz L0 L1 Lz W' := ⟨h.ah.below hb, h.ix.below hb, h.iy.below hb, h.iz.below hb⟩
theorem FT.below (h : FT w x qc c N f vx vy vz vm L0 L1 Lz Lm W) (hb : Below W.heap.size W W') : FT w x qc c N f vx vy vz vm L0 L1 Lz Lm W' := ⟨h.ah.below hb, h.ix.below hb, h.iy.below hb, h.iz.below hb, h.im.below hb⟩
theorem FT.all1 {b k : Nat} {z : Int} (HZ : ∀ W, FT w x qc c N f vx vy vz vm L0 L1 Lz Lm W → W.cell? ⟨b, k, none⟩ = some (.int .i64 z)) (H : Hid (FT w x qc c N f vx vy vz vm L0 L1 Lz Lm W)) : W.cell? ⟨b, k, none⟩ = some (.int .i64 z) ∧ Hid (FT w x qc c N f vx vy vz vm L0 L1 Lz Lm W) := ⟨HZ _ H.out, H⟩
theorem FT.all2 {b k b' k' : Nat} {z z' : Int} (HZ : ∀ W, FT w x qc c N f vx vy vz vm L0 L1 Lz Lm W → W.cell? ⟨b, k, none⟩ = some (.int .i64 z)) (HZ' : ∀ W, FT w x qc c N f vx vy vz vm L0 L1 Lz Lm W → W.cell? ⟨b', k', none⟩ = some (.int .i64 z')) (H : Hid (FT w x qc c N f vx vy vz vm L0 L1 Lz Lm W)) : W.cell? ⟨b, k, none⟩ = some (.int .i64 z) ∧ W.cell? ⟨b', k', none⟩ = some (.int .i64 z') ∧ Hid (FT w x qc c N f vx vy vz vm L0 L1 Lz Lm W) := ⟨HZ _ H.out, HZ' _ H.out, H⟩
theorem FT.hasx {z : Int} {t : Bool} (hm : decide (z ∈ L0) = t) (hL : L0.length ≤ 1000) (H : Hid (FT w x qc c N f vx vy vz vm L0 L1 Lz Lm W)) : Calls Tryd.prog 35 #[vx, .int .i64 z] W fun e W' => e = .returned (.bool t) ∧ Hid (FT w x qc c N f vx vy vz vm L0 L1 Lz Lm W') := by
  subst hm
  exact (has_any L0 hL z _ W H.out.ix).mono fun _ _ ⟨he, hb⟩ => ⟨he, Lib.hid (H.out.below hb)⟩
theorem FT.hasy {z : Int} {t : Bool} (hm : decide (z ∈ L1) = t) (hL : L1.length ≤ 1000) (H : Hid (FT w x qc c N f vx vy vz vm L0 L1 Lz Lm W)) : Calls Tryd.prog 35 #[vy, .int .i64 z] W fun e W' => e = .returned (.bool t) ∧ Hid (FT w x qc c N f vx vy vz vm L0 L1 Lz Lm W') := by
  subst hm
  exact (has_any L1 hL z _ W H.out.iy).mono fun _ _ ⟨he, hb⟩ => ⟨he, Lib.hid (H.out.below hb)⟩
end
set_option maxRecDepth 100000 in
set_option maxHeartbeats 16000000 in
theorem lawFree_any (a0 a1 a2 a3 : Int) (A : Option Addr) (L cap : Nat) (g : Nat → S5) (w : World) (hE : Cs.ErrT w) (hL : Lim w) (hs : SRow w A L g) : Calls Tryd.prog 9 #[.agg #[.int .i64 a0, .int .i64 a1, .int .i64 a2, .int .i64 a3], .slice A L cap] w fun e w' => e = .returned (.bool true) ∧ Below w.heap.size w w' := by
  have HE := Lib.hid hE
  have HL := Lib.hid hL
  have HS := Lib.hid hs
  clear hE hL hs
  go_enter Tryd.func9, Tryd.ntmps9
  go_wp2_with fail
  refine (awake10_any _ (HE.out.below (by (repeat (first | with_reducible exact Below.refl _ _ | with_reducible refine Below.drew ?_ | (with_reducible refine Below.setCell ?_ ?side _; case side => exact (by first | (simp; done) | (simp; omega) | omega)) | (with_reducible refine Below.alloc ?_ ?side _; case side => exact (by first | (simp; done) | (simp; omega) | omega)))))) (HL.out.below (by (repeat (first | with_reducible exact Below.refl _ _ | with_reducible refine Below.drew ?_ | (with_reducible refine Below.setCell ?_ ?side _; case side => exact (by first | (simp; done) | (simp; omega) | omega)) | (with_reducible refine Below.alloc ?_ ?side _; case side => exact (by first | (simp; done) | (simp; omega) | omega))))))).mono ?_
  rintro e w1 ⟨rfl, hb⟩
  have HB1 := Lib.hid (Below.step (B := w.heap.size) (a := w) (by (repeat (first | with_reducible exact Below.refl _ _ | with_reducible refine Below.drew ?_ | (with_reducible refine Below.setCell ?_ ?side _; case side => exact (by first | (simp; done) | (simp; omega) | omega)) | (with_reducible refine Below.alloc ?_ ?side _; case side => exact (by first | (simp; done) | (simp; omega) | omega))))) hb (by first | (simp; done) | (simp; omega) | omega))
  have hbx := (arr4_row w a0 a1 a2 a3).of_block (hb.block _ (by simp))
  have x0 : w1.cell? ⟨w.heap.size, 0, none⟩ = some (.int .i64 a0) := hbx.cell (i := 0) (by omega)
  have x1 : w1.cell? ⟨w.heap.size, 1, none⟩ = some (.int .i64 a1) := hbx.cell (i := 1) (by omega)
  have x2 : w1.cell? ⟨w.heap.size, 2, none⟩ = some (.int .i64 a2) := hbx.cell (i := 2) (by omega)
  have x3 : w1.cell? ⟨w.heap.size, 3, none⟩ = some (.int .i64 a3) := hbx.cell (i := 3) (by omega)
  clear hb hbx
  go_wp2_with fail
  clear x0 x1 x2 x3
  refine (cfg10_any a0 a1 a2 a3 _).mono ?_
  rintro e w2 ⟨x, rfl, hr, -, -, hn0, hn1, hb⟩
  have HB2 := Lib.hid (Below.step HB1.out hb HB1.out.size)
  have HR := Lib.hid hr
  obtain ⟨N, hN⟩ : ∃ N : Nat, sizeC x = (N : Int) := ⟨(sizeC x).toNat, by have := hr.sizes; omega⟩
  have HNN := Lib.hid hN
  have hcb := hr.b
  clear hr hN hb
  have hcbx := cfgAt_box w2 x
  have HB2' := Lib.hid (HB2.out.alloc HB2.out.size (.cells #[.int .i64 x.t, .int .i64 x.s, .int .i64 x.l, .int .i64 x.c, .int .i64 x.s0, .int .i64 x.n0, .int .i64 x.s1, .int .i64 x.n1, .int .i64 x.r] 78))
  obtain ⟨c0, c1, c2, c3, c4, c5, c6, c7, c8⟩ := hcbx.cells
  have HCB := Lib.hid hcbx
  clear hcbx
  go_wp2_with fail
  generalize w2.alloc (.cells #[.int .i64 x.t, .int .i64 x.s, .int .i64 x.l, .int .i64 x.c, .int .i64 x.s0, .int .i64 x.n0, .int .i64 x.s1, .int .i64 x.n1, .int .i64 x.r] 78) = Wa at HCB HB2' c0 c1 c2 c3 c4 c5 c6 c7 c8 ⊢
  generalize w2.heap.size = qc at HCB c0 c1 c2 c3 c4 c5 c6 c7 c8 ⊢
  refine (laid_any x N A L cap g _ HR.out HNN.out (HS.out.below HB2'.out)).mono ?_
  rintro e w3 ⟨c, f, rfl, hwh, hlt, hc, hb⟩
  have K0 := Lib.hid (show AH w x qc c 0 N f w3 from ⟨HCB.out.below hb, hwh, Below.step HB2'.out hb HB2'.out.size⟩)
  clear hwh hlt hb HCB HB1 HB2 HB2' c0 c1 c2 c3 c4 c5 c6 c7 c8 hc
  have HCN : Hid (∀ c, 0 ≤ cntC x c ∧ cntC x c ≤ 5) := Lib.hid fun c => by unfold cntC; split <;> omega
  have HCB : Hid (0 ≤ x.n0 ∧ x.n0 ≤ 5 ∧ 0 ≤ x.n1 ∧ x.n1 ≤ 5) := Lib.hid (by omega)
  obtain ⟨c0, c1, c2, c3, c4, c5, c6, c7, c8⟩ := K0.out.cfg.cells
  go_wp2_with fail
  refine (list_good x HR.out 0 (by omega) c 0 N N HNN.out f _ (HL.out.below K0.out.be) K0.out.wh).mono ?_
  rintro e w4 ⟨vx, L0, E0, rfl, hL0, ho, hb⟩
  obtain ⟨nx, HNX⟩ : ∃ n, Hid (L0.length = n) := ⟨_, Lib.hid rfl⟩
  obtain ⟨Ax, cx, ex⟩ : ∃ A cv, vx = .slice A nx cv := by obtain ⟨A, cv, e, -⟩ := own_irw ho; exact ⟨A, cv, by rw [← HNX.out]; exact e⟩
  subst ex
  have HX := Lib.hid (own_irw ho)
  have HR0 := Lib.hid hL0
  have K1 := Lib.hid (K0.out.below hb)
  clear hb ho hL0 K0 c0 c1 c2 c3 c4 c5 c6 c7 c8
  obtain ⟨c0, c1, c2, c3, c4, c5, c6, c7, c8⟩ := K1.out.cfg.cells
  go_wp2_with fail
  refine (list_good x HR.out 1 (by omega) c 0 N N HNN.out f _ (HL.out.below K1.out.be) K1.out.wh).mono ?_
  rintro e w5 ⟨vy, L1, E1, rfl, hL1, ho, hb⟩
  obtain ⟨ny, HNY⟩ : ∃ n, Hid (L1.length = n) := ⟨_, Lib.hid rfl⟩
  obtain ⟨Ay, cy, ey⟩ : ∃ A cv, vy = .slice A ny cv := by obtain ⟨A, cv, e, -⟩ := own_irw ho; exact ⟨A, cv, by rw [← HNY.out]; exact e⟩
  subst ey
  have HY := Lib.hid (own_irw ho)
  have HR1 := Lib.hid hL1
  replace HX := Lib.hid (HX.out.below hb)
  have K2 := Lib.hid (K1.out.below hb)
  clear hb ho hL1 K1 c0 c1 c2 c3 c4 c5 c6 c7 c8
  obtain ⟨h0n, -, -, hE0⟩ := HR0.out.once (HCN.out 0).1
  obtain ⟨h1n, -, -, hE1⟩ := HR1.out.once (HCN.out 1).1
  have hnx : nx ≤ 5 := by have h1 := HNX.out; have h2 := (HCN.out 0).2; omega
  have hny : ny ≤ 5 := by have h1 := HNY.out; have h2 := (HCN.out 1).2; omega
  have HE0 := Lib.hid hE0
  have HE1 := Lib.hid hE1
  clear h0n h1n hE0 hE1
  obtain ⟨c0, c1, c2, c3, c4, c5, c6, c7, c8⟩ := K2.out.cfg.cells
  go_wp2_with fail
  refine (free_good x HR.out (fun c => ⟨(HCN.out c).1, Int.le_trans (HCN.out c).2 (by decide)⟩) c 0 N N HNN.out f _ (HL.out.below K2.out.be) K2.out.wh).mono ?_
  rintro e w6 ⟨vz, Lz, Ez, rfl, hF, ho, hb⟩
  obtain ⟨nz, HNZ⟩ : ∃ n, Hid (Lz.length = n) := ⟨_, Lib.hid rfl⟩
  obtain ⟨Az, cz, ez⟩ : ∃ A cv, vz = .slice A nz cv := by obtain ⟨A, cv, e, -⟩ := own_irw ho; exact ⟨A, cv, by rw [← HNZ.out]; exact e⟩
  subst ez
  have HF := Lib.hid hF
  have K3 := Lib.hid (show F3 w x qc c N f (.slice Ax nx cx) (.slice Ay ny cy) (.slice Az nz cz) L0 L1 Lz w6 from ⟨K2.out.below hb, HX.out.below hb, HY.out.below hb, own_irw ho⟩)
  clear hF ho hb HX HY K2 c0 c1 c2 c3 c4 c5 c6 c7 c8
  obtain ⟨c0, c1, c2, c3, c4, c5, c6, c7, c8⟩ := K3.out.ah.cfg.cells
  have KD := Lib.hid (K3.out.below (Below.refl _ _).drew)
  go_upto_region 7 with fail
  go_cut [14, 15] from 43 (fun mv ev wc => ev = .nilIface ∧ ∃ Am nm cm Lm, mv = .slice Am nm cm ∧ Hid (Lm.length = nm) ∧ Hid ((Lm.length : Int) = x.n0 + x.n1 ∧ ∀ (i : Nat) (hi : i < Lm.length), Lm[i] = (i : Int) + 1) ∧ Hid (FT w x qc c N f (.slice Ax nx cx) (.slice Ay ny cy) (.slice Az nz cz) (.slice Am nm cm) L0 L1 Lz Lm wc))
  case first =>
    go_region_with (first
      | (go_at_call 37; refine (r4Make_any x N _ HR.out HNN.out).mono ?_; rintro e w7 ⟨p, cm, y, rfl, hRS, hy, -, hp, hc, hb⟩; have HW := Lib.hid (made_wh HR.out hRS hy); have hw0 : w7.cell? ⟨p, 0, none⟩ = some (.slice (some ⟨cm, 0, none⟩) N N) := hRS.c 0 (by omega); have K4 := Lib.hid (KD.out.below hb); obtain ⟨d0, d1, d2, d3, d4, d5, d6, d7, d8⟩ := K4.out.ah.cfg.cells; clear hRS hy hp hc hb)
      | (go_at_call 36; refine (free_good x HR.out (fun c => ⟨(HCN.out c).1, Int.le_trans (HCN.out c).2 (by decide)⟩) cm 0 N N HNN.out (madeF x) _ (HL.out.below K4.out.ah.be) HW.out).mono ?_; rintro e w8 ⟨vm, Lm, Em, rfl, hFm, ho, hb⟩; obtain ⟨rfl, hm1, hm2⟩ := hFm.made HR.out; rw [show Cs.enc [] = .nilIface from rfl]; have HM := Lib.hid (And.intro hm1 hm2); have K5 := Lib.hid (And.intro (own_irw ho) (K4.out.below hb)); clear hFm ho hb hm1 hm2 hw0))
    all_goals
      go_wp2_with fail
      go_meet
      case rel =>
        refine ⟨rfl, ?_⟩
        obtain ⟨i1, i2⟩ := K5.out
        obtain ⟨Am, cv, e, -⟩ := id i1
        exact ⟨Am, _, cv, Lm, e, Lib.hid rfl, HM, Lib.hid (by rw [← e]; exact ⟨i2.ah, i2.ix, i2.iy, i2.iz, i1⟩)⟩
  case rest =>
    clear K3 KD c0 c1 c2 c3 c4 c5 c6 c7 c8
    obtain ⟨rfl, Am, nm, cm, Lm, rfl, HNM, HM, K⟩ := hcut
    go_wp2_with fail
    refine (top_none _ (HE.out.below K.out.ah.be)).mono ?_
    rintro e w9 ⟨rfl, hb⟩
    replace K := Lib.hid (K.out.below hb)
    clear hb
    obtain ⟨c0, c1, c2, c3, c4, c5, c6, c7, c8⟩ := K.out.ah.cfg.cells
    go_wp2_with fail
    refine (r4Blocks_any x _ HCB.out.1 (by have := HCB.out; omega) HCB.out.2.2.1 (by have := HCB.out; omega)).mono ?_
    rintro e w10 ⟨rfl, hb⟩
    replace K := Lib.hid (K.out.below hb)
    have dm : ((nm : Int) != x.n0 + x.n1) = false := by have h1 := HNM.out; have h2 := HM.out.1; rw [h1] at h2; simpa using h2
    clear hb c0 c1 c2 c3 c4 c5 c6 c7 c8
    have KM := K
    clear K
    go_wp2_with fail
    clear dm
    go_loopw [16] (fun iv wq => ∃ i : Nat, i ≤ nm ∧ iv = .int .i64 i ∧ Hid (FT w x qc c N f (.slice Ax nx cx) (.slice Ay ny cy) (.slice Az nz cz) (.slice Am nm cm) L0 L1 Lz Lm wq)) (fun iv _ => nm - (intOf iv).toNat)
    case atStart => exact ⟨0, by omega, rfl, KM⟩
    case round =>
      clear KM
      obtain ⟨i, hi, rfl, K⟩ := hrel
      by_cases hin : i < nm
      · have hil : i < Lm.length := by have := HNM.out; omega
        obtain ⟨Aq, cq, em, hcm⟩ := K.out.im
        obtain ⟨bm, om, hb1, hb2, hb3⟩ := hcm (by omega)
        have e1 : Am = some ⟨bm, om, none⟩ := by injection em with e1 _ _; exact e1.trans hb1
        have hz := hb3 i hil
        rw [HM.out.2 i hil] at hz
        have hmm : nm ≤ 10 := by have h1 := HNM.out; have h2 := HM.out.1; have h3 := HCB.out; omega
        subst e1
        have g0 : (0 : Int) ≤ (i : Int) := by omega
        have g1 : (i : Int) < (nm : Int) := by omega
        clear em hcm hb1 hb2 hb3
        go_wp2
        go_roundw
        case rel => first | exact ⟨i + 1, by omega, by go_num, K⟩ | ((repeat apply Exists.intro); exact ⟨⟨i + 1, by omega, by go_num, K⟩, rfl⟩)
        case measure => simp [intOf]; omega
      · have g1 : ¬ (i : Int) < (nm : Int) := by omega
        rcases HE0.out with rfl | ⟨rfl, p0, k0, rfl, hk0⟩
        · rw [show Cs.enc [] = .nilIface from rfl]
          rcases HE1.out with rfl | ⟨rfl, p1, k1, rfl, hk1⟩
          · rw [show Cs.enc [] = .nilIface from rfl]
            obtain ⟨eL, eE⟩ := HF.out.both HR0.out HR1.out
            subst eE
            have HLZ := Lib.hid eL
            have hlz : nz = nx + ny := by have h1 := HNZ.out; have h2 := HNX.out; have h3 := HNY.out; rw [← h1, ← h2, ← h3, eL, srt_len, List.length_append]
            clear eL
            have HLN := Lib.hid hlz
            have dl : ((nz : Int) != (nx : Int) + (ny : Int)) = false := by simp; omega
            clear hlz
            go_wp2_with fail
            refine (top_none _ (HE.out.below K.out.ah.be)).mono ?_
            rintro e w9 ⟨rfl, hb⟩
            replace K := Lib.hid (K.out.below hb)
            clear hb
            go_wp2_with fail
            refine (top_none _ (HE.out.below K.out.ah.be)).mono ?_
            rintro e w10 ⟨rfl, hb⟩
            replace K := Lib.hid (K.out.below hb)
            clear hb
            go_wp2_with fail
            refine (top_none _ (HE.out.below K.out.ah.be)).mono ?_
            rintro e w11 ⟨rfl, hb⟩
            replace K := Lib.hid (K.out.below hb)
            clear hb
            have KC := K
            clear K
            go_wp2_with fail
            clear dl
            go_loopw [18] (fun iv wq => ∃ i : Nat, i ≤ nz ∧ iv = .int .i64 i ∧ Hid (FT w x qc c N f (.slice Ax nx cx) (.slice Ay ny cy) (.slice Az nz cz) (.slice Am nm cm) L0 L1 Lz Lm wq)) (fun iv _ => nz - (intOf iv).toNat)
            case atStart => exact ⟨0, by omega, rfl, KC⟩
            case round =>
              clear KC
              obtain ⟨i, hi, rfl, K⟩ := hrel
              by_cases hin : i < nz
              · have hil : i < Lz.length := by have := HNZ.out; omega
                obtain ⟨Ay', cy', ez, hcz⟩ := K.out.iz
                obtain ⟨bz, oz, hb1, hb2, hb3⟩ := hcz (by omega)
                have e1 : Az = some ⟨bz, oz, none⟩ := by injection ez with e1 _ _; exact e1.trans hb1
                subst e1
                obtain ⟨z, HZ⟩ : ∃ z, Hid (Lz[i] = z) := ⟨_, Lib.hid rfl⟩
                have HZC : Hid (∀ W, FT w x qc c N f (.slice Ax nx cx) (.slice Ay ny cy) (.slice (some ⟨bz, oz, none⟩) nz cz) (.slice Am nm cm) L0 L1 Lz Lm W → W.cell? ⟨bz, oz + i, none⟩ = some (.int .i64 z)) := Lib.hid fun W hW => by rw [← HZ.out]; exact irw_cell hW.iz i hil
                have hmem : z ∈ L0 ++ L1 := by rw [← HZ.out]; exact (srt_perm _).mem_iff.1 (by have h := List.getElem_mem hil; rw [← HLZ.out]; exact h)
                have KD := Lib.hid (K.out.below (Below.refl _ _).drew)
                have g0 : (0 : Int) ≤ (i : Int) := by omega
                have g1 : (i : Int) < (nz : Int) := by omega
                clear ez hcz hb1 hb2 hb3 K
                go_wp2_with fail
                by_cases hm : z ∈ L0
                · have HMX := Lib.hid (decide_eq_true hm)
                  clear hmem
                  by_cases h0 : 0 < i
                  · obtain ⟨j, hj⟩ : ∃ j : Nat, i = j + 1 := ⟨i - 1, by omega⟩
                    have HJ := Lib.hid hj
                    have hnzb : nz ≤ 10 := by have := HLN.out; omega
                    have g2 : (0 : Int) < (i : Int) := by omega
                    have g3 : decide ((0 : Int) < (i : Int)) = true := decide_eq_true g2
                    have g3' : decide (0 < i) = true := decide_eq_true h0
                    have g4 : (i : Int) - 1 = (j : Int) := by omega
                    have g5 : (0 : Int) ≤ (j : Int) := by omega
                    have g6 : (j : Int) < (nz : Int) := by omega
                    have g6' : j < nz := by omega
                    have gw0 : IntKind.i64.wrap ((i : Int) - 1) = (i : Int) - 1 := IntWalk.i64_in _ (by have := HLN.out; omega)
                    have gw : IntKind.i64.wrap (j : Int) = (j : Int) := IntWalk.i64_in _ (by have := HLN.out; omega)
                    have hjz : j < Lz.length := by omega
                    clear hj
                    obtain ⟨z', HZ'⟩ : ∃ z', Hid (Lz[j]'(by omega) = z') := ⟨_, Lib.hid rfl⟩
                    have HZD : Hid (∀ W, FT w x qc c N f (.slice Ax nx cx) (.slice Ay ny cy) (.slice (some ⟨bz, oz, none⟩) nz cz) (.slice Am nm cm) L0 L1 Lz Lm W → W.cell? ⟨bz, oz + j, none⟩ = some (.int .i64 z')) := Lib.hid fun W hW => by rw [← HZ'.out]; exact irw_cell hW.iz j (by omega)
                    have hzz : z' < z := by rw [← HZ.out, ← HZ'.out]; exact rising_at HLZ.out (both_once (fun c => (HCN.out c).1) HR0.out HR1.out) i j HJ.out hil
                    have g7 : decide (z ≤ z') = false := by simp; omega
                    have g8 : decide (z' ≥ z) = false := by simp; omega
                    clear hm hzz
                    refine wp_region_held_drew (S := (fun w' => w'.cell? ⟨bz, oz + i, none⟩ = some (.int .i64 z) ∧ w'.cell? ⟨bz, oz + j, none⟩ = some (.int .i64 z') ∧ Hid (FT w x qc c N f (.slice Ax nx cx) (.slice Ay ny cy) (.slice (some ⟨bz, oz, none⟩) nz cz) (.slice Am nm cm) L0 L1 Lz Lm w'))) (by kernel_rfl) (FT.all2 HZC.out HZD.out KD) (fun hHeld => ?_)
                    refine wpAnyH_take (i := 0) (oi := ({ dst := Option.some 115, op := Go.Op.move (Go.Operand.tmp 8), type := 23, pos := "law.go:156", after := #[], guard := Option.none })) (v := ?_) rfl (by kernel_rfl) (by kernel_rfl) (by kernel_rfl) (fun _ _ _ h => h) (Or.inl ⟨by rfl, ?_⟩) (by assumption) ?_
                    rotate_left
                    · first | exact fun _ _ => rfl | (intro w hSw; (try dsimp only at hSw); go_simp; try with_reducible rfl)
                    try simp only [Act.put, List.setIfInBounds_toArray, List.set_cons_zero, List.set_cons_succ]
                    refine wpAnyH_take (i := 1) (oi := ({ dst := Option.some 116, op := Go.Op.move (Go.Operand.tmp 12), type := 23, pos := "law.go:156", after := #[], guard := Option.none })) (v := ?_) rfl (by kernel_rfl) (by kernel_rfl) (by kernel_rfl) (fun _ _ _ h => h) (Or.inl ⟨by rfl, ?_⟩) (by assumption) ?_
                    rotate_left
                    · first | exact fun _ _ => rfl | (intro w hSw; (try dsimp only at hSw); go_simp; try with_reducible rfl)
                    try simp only [Act.put, List.setIfInBounds_toArray, List.set_cons_zero, List.set_cons_succ]
                    refine wpAnyH_take (i := 2) (oi := ({ dst := Option.some 117, op := Go.Op.move (Go.Operand.tmp 18), type := 3, pos := "law.go:156", after := #[], guard := Option.none })) (v := ?_) rfl (by kernel_rfl) (by kernel_rfl) (by kernel_rfl) (fun _ _ _ h => h) (Or.inl ⟨by rfl, ?_⟩) (by assumption) ?_
                    rotate_left
                    · first | exact fun _ _ => rfl | (intro w hSw; (try dsimp only at hSw); go_simp; try with_reducible rfl)
                    try simp only [Act.put, List.setIfInBounds_toArray, List.set_cons_zero, List.set_cons_succ]
                    refine wpAnyH_take (i := 3) (oi := ({ dst := Option.some 118, op := Go.Op.indexAddr 23 (Go.Operand.tmp 116) (Go.Operand.tmp 117), type := 0, pos := "law.go:156", after := #[{ on := 1, ground := Go.Ground.data }, { on := 2, ground := Go.Ground.data }], guard := Option.none })) (v := ?_) rfl (by kernel_rfl) (by kernel_rfl) (by kernel_rfl) (fun _ _ _ h => h) (Or.inl ⟨by rfl, ?_⟩) (by assumption) ?_
                    rotate_left
                    · first | exact fun _ _ => rfl | (intro w hSw; (try dsimp only at hSw); go_simp; try with_reducible rfl)
                    try simp only [Act.put, List.setIfInBounds_toArray, List.set_cons_zero, List.set_cons_succ]
                    refine wpAnyH_take (i := 4) (oi := ({ dst := Option.some 119, op := Go.Op.load 3 (Go.Operand.tmp 118), type := 3, pos := "law.go:156", after := #[{ on := 3, ground := Go.Ground.data }], guard := Option.none })) (v := ?_) rfl (by kernel_rfl) (by kernel_rfl) (by kernel_rfl) (fun _ _ _ h => h) (Or.inl ⟨by rfl, ?_⟩) (by assumption) ?_
                    rotate_left
                    · first | exact fun _ _ => rfl | (intro w hSw; (try dsimp only at hSw); go_simp; try with_reducible rfl)
                    try simp only [Act.put, List.setIfInBounds_toArray, List.set_cons_zero, List.set_cons_succ]
                    refine wpAnyH_ready (rs := [5]) (by kernel_rfl) (by simp) ?_
                    refine AllReadyH.cons (o := ({ dst := Option.some 120, op := Go.Op.call { callee := Go.Callee.value (Go.Operand.func 35), args := #[Go.Operand.tmp 115, Go.Operand.tmp 119], argTypes := #[23, 3] }, type := 4, pos := "law.go:156", after := #[{ on := 0, ground := Go.Ground.data }, { on := 4, ground := Go.Ground.data }], guard := Option.none })) rfl (fun Kc hKc => ?_) AllReadyH.nil
                    go_simp
                    (go_at_call 35; first | (with_reducible refine (FT.hasx HMX.out (by have := HNX.out; omega) (by assumption)).mono ?_; rintro e w6 ⟨rfl, K2⟩) | (with_reducible refine (FT.hasy HMY.out (by have := HNY.out; omega) (by assumption)).mono ?_; rintro e w6 ⟨rfl, K2⟩))
                    try go_wp2_with fail
                    refine hKc.out _ _ (FT.all2 HZC.out HZD.out (by assumption)) (fun hHeld => ?_)
                    clear hKc Kc
                    try simp only [Act.put, List.setIfInBounds_toArray, List.set_cons_zero, List.set_cons_succ]
                    refine wpAnyH_take (i := 6) (oi := ({ dst := Option.some 121, op := Go.Op.unOp Go.UnOp.not 4 (Go.Operand.tmp 120), type := 4, pos := "law.go:156", after := #[{ on := 5, ground := Go.Ground.data }], guard := Option.none })) (v := ?_) rfl (by kernel_rfl) (by kernel_rfl) (by kernel_rfl) (fun _ _ _ h => h) (Or.inl ⟨by rfl, ?_⟩) (by assumption) ?_
                    rotate_left
                    · first | exact fun _ _ => rfl | (intro w hSw; (try dsimp only at hSw); go_simp; try with_reducible rfl)
                    try simp only [Act.put, List.setIfInBounds_toArray, List.set_cons_zero, List.set_cons_succ]
                    refine wpAnyH_take (i := 7) (oi := ({ dst := Option.some 122, op := Go.Op.move (Go.Operand.tmp 121), type := 4, pos := "law.go:156", after := #[{ on := 6, ground := Go.Ground.data }, { on := 5, ground := Go.Ground.chain }], guard := Option.none })) (v := ?_) rfl (by kernel_rfl) (by kernel_rfl) (by kernel_rfl) (fun _ _ _ h => h) (Or.inl ⟨by rfl, ?_⟩) (by assumption) ?_
                    rotate_left
                    · first | exact fun _ _ => rfl | (intro w hSw; (try dsimp only at hSw); go_simp; try with_reducible rfl)
                    try simp only [Act.put, List.setIfInBounds_toArray, List.set_cons_zero, List.set_cons_succ]
                    refine wpAnyH_take (i := 8) (oi := ({ dst := Option.some 123, op := Go.Op.move (Go.Operand.tmp 10), type := 23, pos := "law.go:156", after := #[{ on := 7, ground := Go.Ground.guard }], guard := Option.some (7, Bool.true) })) (v := undef) rfl (by kernel_rfl) (by kernel_rfl) (by kernel_rfl) (fun _ _ _ h => h) (Or.inr ⟨by rfl, rfl⟩) (by assumption) ?_
                    try simp only [Act.put, List.setIfInBounds_toArray, List.set_cons_zero, List.set_cons_succ]
                    refine wpAnyH_take (i := 9) (oi := ({ dst := Option.some 124, op := Go.Op.move (Go.Operand.tmp 12), type := 23, pos := "law.go:156", after := #[{ on := 7, ground := Go.Ground.guard }], guard := Option.some (7, Bool.true) })) (v := undef) rfl (by kernel_rfl) (by kernel_rfl) (by kernel_rfl) (fun _ _ _ h => h) (Or.inr ⟨by rfl, rfl⟩) (by assumption) ?_
                    try simp only [Act.put, List.setIfInBounds_toArray, List.set_cons_zero, List.set_cons_succ]
                    refine wpAnyH_take (i := 10) (oi := ({ dst := Option.some 125, op := Go.Op.move (Go.Operand.tmp 18), type := 3, pos := "law.go:156", after := #[{ on := 7, ground := Go.Ground.guard }], guard := Option.some (7, Bool.true) })) (v := undef) rfl (by kernel_rfl) (by kernel_rfl) (by kernel_rfl) (fun _ _ _ h => h) (Or.inr ⟨by rfl, rfl⟩) (by assumption) ?_
                    try simp only [Act.put, List.setIfInBounds_toArray, List.set_cons_zero, List.set_cons_succ]
                    refine wpAnyH_take (i := 11) (oi := ({ dst := Option.some 126, op := Go.Op.indexAddr 23 (Go.Operand.tmp 124) (Go.Operand.tmp 125), type := 0, pos := "law.go:156", after := #[{ on := 9, ground := Go.Ground.data }, { on := 10, ground := Go.Ground.data }, { on := 7, ground := Go.Ground.guard }], guard := Option.some (7, Bool.true) })) (v := undef) rfl (by kernel_rfl) (by kernel_rfl) (by kernel_rfl) (fun _ _ _ h => h) (Or.inr ⟨by rfl, rfl⟩) (by assumption) ?_
                    try simp only [Act.put, List.setIfInBounds_toArray, List.set_cons_zero, List.set_cons_succ]
                    refine wpAnyH_take (i := 12) (oi := ({ dst := Option.some 127, op := Go.Op.load 3 (Go.Operand.tmp 126), type := 3, pos := "law.go:156", after := #[{ on := 11, ground := Go.Ground.data }, { on := 7, ground := Go.Ground.guard }], guard := Option.some (7, Bool.true) })) (v := undef) rfl (by kernel_rfl) (by kernel_rfl) (by kernel_rfl) (fun _ _ _ h => h) (Or.inr ⟨by rfl, rfl⟩) (by assumption) ?_
                    try simp only [Act.put, List.setIfInBounds_toArray, List.set_cons_zero, List.set_cons_succ]
                    refine wpAnyH_take (i := 13) (oi := ({ dst := Option.some 128, op := Go.Op.call { callee := Go.Callee.value (Go.Operand.func 35), args := #[Go.Operand.tmp 123, Go.Operand.tmp 127], argTypes := #[23, 3] }, type := 4, pos := "law.go:156", after := #[{ on := 8, ground := Go.Ground.data }, { on := 12, ground := Go.Ground.data }, { on := 7, ground := Go.Ground.chain }, { on := 7, ground := Go.Ground.guard }], guard := Option.some (7, Bool.true) })) (v := undef) rfl (by kernel_rfl) (by kernel_rfl) (by kernel_rfl) (fun _ _ _ h => h) (Or.inr ⟨by rfl, rfl⟩) (by assumption) ?_
                    try simp only [Act.put, List.setIfInBounds_toArray, List.set_cons_zero, List.set_cons_succ]
                    refine wpAnyH_take (i := 14) (oi := ({ dst := Option.some 129, op := Go.Op.unOp Go.UnOp.not 4 (Go.Operand.tmp 128), type := 4, pos := "law.go:156", after := #[{ on := 13, ground := Go.Ground.data }, { on := 7, ground := Go.Ground.guard }], guard := Option.some (7, Bool.true) })) (v := undef) rfl (by kernel_rfl) (by kernel_rfl) (by kernel_rfl) (fun _ _ _ h => h) (Or.inr ⟨by rfl, rfl⟩) (by assumption) ?_
                    try simp only [Act.put, List.setIfInBounds_toArray, List.set_cons_zero, List.set_cons_succ]
                    refine wpAnyH_take (i := 15) (oi := ({ dst := Option.some 130, op := Go.Op.pick (Go.Operand.tmp 122) (Go.Operand.tmp 129) (Go.Operand.const (Go.Value.bool Bool.false)), type := 4, pos := "law.go:156", after := #[{ on := 7, ground := Go.Ground.data }, { on := 14, ground := Go.Ground.data }], guard := Option.none })) (v := ?_) rfl (by kernel_rfl) (by kernel_rfl) (by kernel_rfl) (fun _ _ _ h => h) (Or.inl ⟨by rfl, ?_⟩) (by assumption) ?_
                    rotate_left
                    · first | exact fun _ _ => rfl | (intro w hSw; (try dsimp only at hSw); go_simp; try with_reducible rfl)
                    try simp only [Act.put, List.setIfInBounds_toArray, List.set_cons_zero, List.set_cons_succ]
                    refine wpAnyH_take (i := 16) (oi := ({ dst := Option.some 131, op := Go.Op.move (Go.Operand.tmp 130), type := 4, pos := "law.go:156", after := #[{ on := 15, ground := Go.Ground.data }, { on := 13, ground := Go.Ground.chain }], guard := Option.none })) (v := ?_) rfl (by kernel_rfl) (by kernel_rfl) (by kernel_rfl) (fun _ _ _ h => h) (Or.inl ⟨by rfl, ?_⟩) (by assumption) ?_
                    rotate_left
                    · first | exact fun _ _ => rfl | (intro w hSw; (try dsimp only at hSw); go_simp; try with_reducible rfl)
                    try simp only [Act.put, List.setIfInBounds_toArray, List.set_cons_zero, List.set_cons_succ]
                    refine wpAnyH_take (i := 17) (oi := ({ dst := Option.some 132, op := Go.Op.move (Go.Operand.tmp 18), type := 3, pos := "law.go:156", after := #[{ on := 16, ground := Go.Ground.guard }], guard := Option.some (16, Bool.false) })) (v := ?_) rfl (by kernel_rfl) (by kernel_rfl) (by kernel_rfl) (fun _ _ _ h => h) (Or.inl ⟨by rfl, ?_⟩) (by assumption) ?_
                    rotate_left
                    · first | exact fun _ _ => rfl | (intro w hSw; (try dsimp only at hSw); go_simp; try with_reducible rfl)
                    try simp only [Act.put, List.setIfInBounds_toArray, List.set_cons_zero, List.set_cons_succ]
                    refine wpAnyH_take (i := 18) (oi := ({ dst := Option.some 133, op := Go.Op.binOp Go.BinOp.gtr 3 (Go.Operand.tmp 132) (Go.Operand.const (Go.Value.int Go.IntKind.i64 0)) 3, type := 4, pos := "law.go:156", after := #[{ on := 17, ground := Go.Ground.data }, { on := 16, ground := Go.Ground.guard }], guard := Option.some (16, Bool.false) })) (v := ?_) rfl (by kernel_rfl) (by kernel_rfl) (by kernel_rfl) (fun _ _ _ h => h) (Or.inl ⟨by rfl, ?_⟩) (by assumption) ?_
                    rotate_left
                    · first | exact fun _ _ => rfl | (intro w hSw; (try dsimp only at hSw); go_simp; try with_reducible rfl)
                    try simp only [Act.put, List.setIfInBounds_toArray, List.set_cons_zero, List.set_cons_succ]
                    refine wpAnyH_take (i := 19) (oi := ({ dst := Option.some 134, op := Go.Op.move (Go.Operand.tmp 133), type := 4, pos := "law.go:156", after := #[{ on := 18, ground := Go.Ground.data }, { on := 16, ground := Go.Ground.chain }, { on := 16, ground := Go.Ground.guard }], guard := Option.some (16, Bool.false) })) (v := ?_) rfl (by kernel_rfl) (by kernel_rfl) (by kernel_rfl) (fun _ _ _ h => h) (Or.inl ⟨by rfl, ?_⟩) (by assumption) ?_
                    rotate_left
                    · first | exact fun _ _ => rfl | (intro w hSw; (try dsimp only at hSw); go_simp; try with_reducible rfl)
                    try simp only [Act.put, List.setIfInBounds_toArray, List.set_cons_zero, List.set_cons_succ]
                    refine wpAnyH_take (i := 20) (oi := ({ dst := Option.some 135, op := Go.Op.move (Go.Operand.tmp 12), type := 23, pos := "law.go:156", after := #[{ on := 19, ground := Go.Ground.guard }], guard := Option.some (19, Bool.true) })) (v := ?_) rfl (by kernel_rfl) (by kernel_rfl) (by kernel_rfl) (fun _ _ _ h => h) (Or.inl ⟨by rfl, ?_⟩) (by assumption) ?_
                    rotate_left
                    · first | exact fun _ _ => rfl | (intro w hSw; (try dsimp only at hSw); go_simp; try with_reducible rfl)
                    try simp only [Act.put, List.setIfInBounds_toArray, List.set_cons_zero, List.set_cons_succ]
                    refine wpAnyH_take (i := 21) (oi := ({ dst := Option.some 136, op := Go.Op.move (Go.Operand.tmp 18), type := 3, pos := "law.go:156", after := #[{ on := 19, ground := Go.Ground.guard }], guard := Option.some (19, Bool.true) })) (v := ?_) rfl (by kernel_rfl) (by kernel_rfl) (by kernel_rfl) (fun _ _ _ h => h) (Or.inl ⟨by rfl, ?_⟩) (by assumption) ?_
                    rotate_left
                    · first | exact fun _ _ => rfl | (intro w hSw; (try dsimp only at hSw); go_simp; try with_reducible rfl)
                    try simp only [Act.put, List.setIfInBounds_toArray, List.set_cons_zero, List.set_cons_succ]
                    refine wpAnyH_take (i := 22) (oi := ({ dst := Option.some 137, op := Go.Op.binOp Go.BinOp.sub 3 (Go.Operand.tmp 136) (Go.Operand.const (Go.Value.int Go.IntKind.i64 1)) 3, type := 3, pos := "law.go:156", after := #[{ on := 21, ground := Go.Ground.data }, { on := 19, ground := Go.Ground.guard }], guard := Option.some (19, Bool.true) })) (v := ?_) rfl (by kernel_rfl) (by kernel_rfl) (by kernel_rfl) (fun _ _ _ h => h) (Or.inl ⟨by rfl, ?_⟩) (by assumption) ?_
                    rotate_left
                    · first | exact fun _ _ => rfl | (intro w hSw; (try dsimp only at hSw); go_simp; try with_reducible rfl)
                    try simp only [Act.put, List.setIfInBounds_toArray, List.set_cons_zero, List.set_cons_succ]
                    refine wpAnyH_take (i := 23) (oi := ({ dst := Option.some 138, op := Go.Op.indexAddr 23 (Go.Operand.tmp 135) (Go.Operand.tmp 137), type := 0, pos := "law.go:156", after := #[{ on := 20, ground := Go.Ground.data }, { on := 22, ground := Go.Ground.data }, { on := 19, ground := Go.Ground.guard }], guard := Option.some (19, Bool.true) })) (v := ?_) rfl (by kernel_rfl) (by kernel_rfl) (by kernel_rfl) (fun _ _ _ h => h) (Or.inl ⟨by rfl, ?_⟩) (by assumption) ?_
                    rotate_left
                    · first | exact fun _ _ => rfl | (intro w hSw; (try dsimp only at hSw); go_simp; try with_reducible rfl)
                    try simp only [Act.put, List.setIfInBounds_toArray, List.set_cons_zero, List.set_cons_succ]
                    refine wpAnyH_take (i := 24) (oi := ({ dst := Option.some 139, op := Go.Op.load 3 (Go.Operand.tmp 138), type := 3, pos := "law.go:156", after := #[{ on := 23, ground := Go.Ground.data }, { on := 19, ground := Go.Ground.guard }], guard := Option.some (19, Bool.true) })) (v := ?_) rfl (by kernel_rfl) (by kernel_rfl) (by kernel_rfl) (fun _ _ _ h => h) (Or.inl ⟨by rfl, ?_⟩) (by assumption) ?_
                    rotate_left
                    · first | exact fun _ _ => rfl | (intro w hSw; (try dsimp only at hSw); go_simp; try with_reducible rfl)
                    try simp only [Act.put, List.setIfInBounds_toArray, List.set_cons_zero, List.set_cons_succ]
                    refine wpAnyH_take (i := 25) (oi := ({ dst := Option.some 140, op := Go.Op.move (Go.Operand.tmp 12), type := 23, pos := "law.go:156", after := #[{ on := 19, ground := Go.Ground.guard }], guard := Option.some (19, Bool.true) })) (v := ?_) rfl (by kernel_rfl) (by kernel_rfl) (by kernel_rfl) (fun _ _ _ h => h) (Or.inl ⟨by rfl, ?_⟩) (by assumption) ?_
                    rotate_left
                    · first | exact fun _ _ => rfl | (intro w hSw; (try dsimp only at hSw); go_simp; try with_reducible rfl)
                    try simp only [Act.put, List.setIfInBounds_toArray, List.set_cons_zero, List.set_cons_succ]
                    refine wpAnyH_take (i := 26) (oi := ({ dst := Option.some 141, op := Go.Op.move (Go.Operand.tmp 18), type := 3, pos := "law.go:156", after := #[{ on := 19, ground := Go.Ground.guard }], guard := Option.some (19, Bool.true) })) (v := ?_) rfl (by kernel_rfl) (by kernel_rfl) (by kernel_rfl) (fun _ _ _ h => h) (Or.inl ⟨by rfl, ?_⟩) (by assumption) ?_
                    rotate_left
                    · first | exact fun _ _ => rfl | (intro w hSw; (try dsimp only at hSw); go_simp; try with_reducible rfl)
                    try simp only [Act.put, List.setIfInBounds_toArray, List.set_cons_zero, List.set_cons_succ]
                    refine wpAnyH_take (i := 27) (oi := ({ dst := Option.some 142, op := Go.Op.indexAddr 23 (Go.Operand.tmp 140) (Go.Operand.tmp 141), type := 0, pos := "law.go:156", after := #[{ on := 25, ground := Go.Ground.data }, { on := 26, ground := Go.Ground.data }, { on := 19, ground := Go.Ground.guard }], guard := Option.some (19, Bool.true) })) (v := ?_) rfl (by kernel_rfl) (by kernel_rfl) (by kernel_rfl) (fun _ _ _ h => h) (Or.inl ⟨by rfl, ?_⟩) (by assumption) ?_
                    rotate_left
                    · first | exact fun _ _ => rfl | (intro w hSw; (try dsimp only at hSw); go_simp; try with_reducible rfl)
                    try simp only [Act.put, List.setIfInBounds_toArray, List.set_cons_zero, List.set_cons_succ]
                    refine wpAnyH_take (i := 28) (oi := ({ dst := Option.some 143, op := Go.Op.load 3 (Go.Operand.tmp 142), type := 3, pos := "law.go:156", after := #[{ on := 27, ground := Go.Ground.data }, { on := 19, ground := Go.Ground.guard }], guard := Option.some (19, Bool.true) })) (v := ?_) rfl (by kernel_rfl) (by kernel_rfl) (by kernel_rfl) (fun _ _ _ h => h) (Or.inl ⟨by rfl, ?_⟩) (by assumption) ?_
                    rotate_left
                    · first | exact fun _ _ => rfl | (intro w hSw; (try dsimp only at hSw); go_simp; try with_reducible rfl)
                    try simp only [Act.put, List.setIfInBounds_toArray, List.set_cons_zero, List.set_cons_succ]
                    refine wpAnyH_take (i := 29) (oi := ({ dst := Option.some 144, op := Go.Op.binOp Go.BinOp.geq 3 (Go.Operand.tmp 139) (Go.Operand.tmp 143) 3, type := 4, pos := "law.go:156", after := #[{ on := 24, ground := Go.Ground.data }, { on := 28, ground := Go.Ground.data }, { on := 19, ground := Go.Ground.guard }], guard := Option.some (19, Bool.true) })) (v := ?_) rfl (by kernel_rfl) (by kernel_rfl) (by kernel_rfl) (fun _ _ _ h => h) (Or.inl ⟨by rfl, ?_⟩) (by assumption) ?_
                    rotate_left
                    · first | exact fun _ _ => rfl | (intro w hSw; (try dsimp only at hSw); go_simp; try with_reducible rfl)
                    try simp only [Act.put, List.setIfInBounds_toArray, List.set_cons_zero, List.set_cons_succ]
                    refine wpAnyH_take (i := 30) (oi := ({ dst := Option.some 145, op := Go.Op.pick (Go.Operand.tmp 134) (Go.Operand.tmp 144) (Go.Operand.const (Go.Value.bool Bool.false)), type := 4, pos := "law.go:156", after := #[{ on := 19, ground := Go.Ground.data }, { on := 29, ground := Go.Ground.data }, { on := 16, ground := Go.Ground.guard }], guard := Option.some (16, Bool.false) })) (v := ?_) rfl (by kernel_rfl) (by kernel_rfl) (by kernel_rfl) (fun _ _ _ h => h) (Or.inl ⟨by rfl, ?_⟩) (by assumption) ?_
                    rotate_left
                    · first | exact fun _ _ => rfl | (intro w hSw; (try dsimp only at hSw); go_simp; try with_reducible rfl)
                    try simp only [Act.put, List.setIfInBounds_toArray, List.set_cons_zero, List.set_cons_succ]
                    refine wpAnyH_take (i := 31) (oi := ({ dst := Option.some 146, op := Go.Op.pick (Go.Operand.tmp 131) (Go.Operand.const (Go.Value.bool Bool.true)) (Go.Operand.tmp 145), type := 4, pos := "law.go:156", after := #[{ on := 16, ground := Go.Ground.data }, { on := 30, ground := Go.Ground.data }], guard := Option.none })) (v := ?_) rfl (by kernel_rfl) (by kernel_rfl) (by kernel_rfl) (fun _ _ _ h => h) (Or.inl ⟨by rfl, ?_⟩) (by assumption) ?_
                    rotate_left
                    · first | exact fun _ _ => rfl | (intro w hSw; (try dsimp only at hSw); go_simp; try with_reducible rfl)
                    try simp only [Act.put, List.setIfInBounds_toArray, List.set_cons_zero, List.set_cons_succ]
                    refine wpAnyH_done (by kernel_rfl) ?_ _
                    go_wp2
                    go_roundw
                    case rel => first | exact ⟨i + 1, by omega, by go_num, by assumption⟩ | ((repeat apply Exists.intro); exact ⟨⟨i + 1, by omega, by go_num, by assumption⟩, rfl⟩)
                    case measure => simp [intOf]; omega
                  · have g2 : ¬ (0 : Int) < (i : Int) := by omega
                    have g3 : decide ((0 : Int) < (i : Int)) = false := decide_eq_false g2
                    have g3' : decide (0 < i) = false := decide_eq_false h0
                    clear hm
                    refine wp_region_held_drew (S := (fun w' => w'.cell? ⟨bz, oz + i, none⟩ = some (.int .i64 z) ∧ Hid (FT w x qc c N f (.slice Ax nx cx) (.slice Ay ny cy) (.slice (some ⟨bz, oz, none⟩) nz cz) (.slice Am nm cm) L0 L1 Lz Lm w'))) (by kernel_rfl) (FT.all1 HZC.out KD) (fun hHeld => ?_)
                    refine wpAnyH_take (i := 0) (oi := ({ dst := Option.some 115, op := Go.Op.move (Go.Operand.tmp 8), type := 23, pos := "law.go:156", after := #[], guard := Option.none })) (v := ?_) rfl (by kernel_rfl) (by kernel_rfl) (by kernel_rfl) (fun _ _ _ h => h) (Or.inl ⟨by rfl, ?_⟩) (by assumption) ?_
                    rotate_left
                    · first | exact fun _ _ => rfl | (intro w hSw; (try dsimp only at hSw); go_simp; try with_reducible rfl)
                    try simp only [Act.put, List.setIfInBounds_toArray, List.set_cons_zero, List.set_cons_succ]
                    refine wpAnyH_take (i := 1) (oi := ({ dst := Option.some 116, op := Go.Op.move (Go.Operand.tmp 12), type := 23, pos := "law.go:156", after := #[], guard := Option.none })) (v := ?_) rfl (by kernel_rfl) (by kernel_rfl) (by kernel_rfl) (fun _ _ _ h => h) (Or.inl ⟨by rfl, ?_⟩) (by assumption) ?_
                    rotate_left
                    · first | exact fun _ _ => rfl | (intro w hSw; (try dsimp only at hSw); go_simp; try with_reducible rfl)
                    try simp only [Act.put, List.setIfInBounds_toArray, List.set_cons_zero, List.set_cons_succ]
                    refine wpAnyH_take (i := 2) (oi := ({ dst := Option.some 117, op := Go.Op.move (Go.Operand.tmp 18), type := 3, pos := "law.go:156", after := #[], guard := Option.none })) (v := ?_) rfl (by kernel_rfl) (by kernel_rfl) (by kernel_rfl) (fun _ _ _ h => h) (Or.inl ⟨by rfl, ?_⟩) (by assumption) ?_
                    rotate_left
                    · first | exact fun _ _ => rfl | (intro w hSw; (try dsimp only at hSw); go_simp; try with_reducible rfl)
                    try simp only [Act.put, List.setIfInBounds_toArray, List.set_cons_zero, List.set_cons_succ]
                    refine wpAnyH_take (i := 3) (oi := ({ dst := Option.some 118, op := Go.Op.indexAddr 23 (Go.Operand.tmp 116) (Go.Operand.tmp 117), type := 0, pos := "law.go:156", after := #[{ on := 1, ground := Go.Ground.data }, { on := 2, ground := Go.Ground.data }], guard := Option.none })) (v := ?_) rfl (by kernel_rfl) (by kernel_rfl) (by kernel_rfl) (fun _ _ _ h => h) (Or.inl ⟨by rfl, ?_⟩) (by assumption) ?_
                    rotate_left
                    · first | exact fun _ _ => rfl | (intro w hSw; (try dsimp only at hSw); go_simp; try with_reducible rfl)
                    try simp only [Act.put, List.setIfInBounds_toArray, List.set_cons_zero, List.set_cons_succ]
                    refine wpAnyH_take (i := 4) (oi := ({ dst := Option.some 119, op := Go.Op.load 3 (Go.Operand.tmp 118), type := 3, pos := "law.go:156", after := #[{ on := 3, ground := Go.Ground.data }], guard := Option.none })) (v := ?_) rfl (by kernel_rfl) (by kernel_rfl) (by kernel_rfl) (fun _ _ _ h => h) (Or.inl ⟨by rfl, ?_⟩) (by assumption) ?_
                    rotate_left
                    · first | exact fun _ _ => rfl | (intro w hSw; (try dsimp only at hSw); go_simp; try with_reducible rfl)
                    try simp only [Act.put, List.setIfInBounds_toArray, List.set_cons_zero, List.set_cons_succ]
                    refine wpAnyH_ready (rs := [5]) (by kernel_rfl) (by simp) ?_
                    refine AllReadyH.cons (o := ({ dst := Option.some 120, op := Go.Op.call { callee := Go.Callee.value (Go.Operand.func 35), args := #[Go.Operand.tmp 115, Go.Operand.tmp 119], argTypes := #[23, 3] }, type := 4, pos := "law.go:156", after := #[{ on := 0, ground := Go.Ground.data }, { on := 4, ground := Go.Ground.data }], guard := Option.none })) rfl (fun Kc hKc => ?_) AllReadyH.nil
                    go_simp
                    (go_at_call 35; first | (with_reducible refine (FT.hasx HMX.out (by have := HNX.out; omega) (by assumption)).mono ?_; rintro e w6 ⟨rfl, K2⟩) | (with_reducible refine (FT.hasy HMY.out (by have := HNY.out; omega) (by assumption)).mono ?_; rintro e w6 ⟨rfl, K2⟩))
                    try go_wp2_with fail
                    refine hKc.out _ _ (FT.all1 HZC.out (by assumption)) (fun hHeld => ?_)
                    clear hKc Kc
                    try simp only [Act.put, List.setIfInBounds_toArray, List.set_cons_zero, List.set_cons_succ]
                    refine wpAnyH_take (i := 6) (oi := ({ dst := Option.some 121, op := Go.Op.unOp Go.UnOp.not 4 (Go.Operand.tmp 120), type := 4, pos := "law.go:156", after := #[{ on := 5, ground := Go.Ground.data }], guard := Option.none })) (v := ?_) rfl (by kernel_rfl) (by kernel_rfl) (by kernel_rfl) (fun _ _ _ h => h) (Or.inl ⟨by rfl, ?_⟩) (by assumption) ?_
                    rotate_left
                    · first | exact fun _ _ => rfl | (intro w hSw; (try dsimp only at hSw); go_simp; try with_reducible rfl)
                    try simp only [Act.put, List.setIfInBounds_toArray, List.set_cons_zero, List.set_cons_succ]
                    refine wpAnyH_take (i := 7) (oi := ({ dst := Option.some 122, op := Go.Op.move (Go.Operand.tmp 121), type := 4, pos := "law.go:156", after := #[{ on := 6, ground := Go.Ground.data }, { on := 5, ground := Go.Ground.chain }], guard := Option.none })) (v := ?_) rfl (by kernel_rfl) (by kernel_rfl) (by kernel_rfl) (fun _ _ _ h => h) (Or.inl ⟨by rfl, ?_⟩) (by assumption) ?_
                    rotate_left
                    · first | exact fun _ _ => rfl | (intro w hSw; (try dsimp only at hSw); go_simp; try with_reducible rfl)
                    try simp only [Act.put, List.setIfInBounds_toArray, List.set_cons_zero, List.set_cons_succ]
                    refine wpAnyH_take (i := 8) (oi := ({ dst := Option.some 123, op := Go.Op.move (Go.Operand.tmp 10), type := 23, pos := "law.go:156", after := #[{ on := 7, ground := Go.Ground.guard }], guard := Option.some (7, Bool.true) })) (v := undef) rfl (by kernel_rfl) (by kernel_rfl) (by kernel_rfl) (fun _ _ _ h => h) (Or.inr ⟨by rfl, rfl⟩) (by assumption) ?_
                    try simp only [Act.put, List.setIfInBounds_toArray, List.set_cons_zero, List.set_cons_succ]
                    refine wpAnyH_take (i := 9) (oi := ({ dst := Option.some 124, op := Go.Op.move (Go.Operand.tmp 12), type := 23, pos := "law.go:156", after := #[{ on := 7, ground := Go.Ground.guard }], guard := Option.some (7, Bool.true) })) (v := undef) rfl (by kernel_rfl) (by kernel_rfl) (by kernel_rfl) (fun _ _ _ h => h) (Or.inr ⟨by rfl, rfl⟩) (by assumption) ?_
                    try simp only [Act.put, List.setIfInBounds_toArray, List.set_cons_zero, List.set_cons_succ]
                    refine wpAnyH_take (i := 10) (oi := ({ dst := Option.some 125, op := Go.Op.move (Go.Operand.tmp 18), type := 3, pos := "law.go:156", after := #[{ on := 7, ground := Go.Ground.guard }], guard := Option.some (7, Bool.true) })) (v := undef) rfl (by kernel_rfl) (by kernel_rfl) (by kernel_rfl) (fun _ _ _ h => h) (Or.inr ⟨by rfl, rfl⟩) (by assumption) ?_
                    try simp only [Act.put, List.setIfInBounds_toArray, List.set_cons_zero, List.set_cons_succ]
                    refine wpAnyH_take (i := 11) (oi := ({ dst := Option.some 126, op := Go.Op.indexAddr 23 (Go.Operand.tmp 124) (Go.Operand.tmp 125), type := 0, pos := "law.go:156", after := #[{ on := 9, ground := Go.Ground.data }, { on := 10, ground := Go.Ground.data }, { on := 7, ground := Go.Ground.guard }], guard := Option.some (7, Bool.true) })) (v := undef) rfl (by kernel_rfl) (by kernel_rfl) (by kernel_rfl) (fun _ _ _ h => h) (Or.inr ⟨by rfl, rfl⟩) (by assumption) ?_
                    try simp only [Act.put, List.setIfInBounds_toArray, List.set_cons_zero, List.set_cons_succ]
                    refine wpAnyH_take (i := 12) (oi := ({ dst := Option.some 127, op := Go.Op.load 3 (Go.Operand.tmp 126), type := 3, pos := "law.go:156", after := #[{ on := 11, ground := Go.Ground.data }, { on := 7, ground := Go.Ground.guard }], guard := Option.some (7, Bool.true) })) (v := undef) rfl (by kernel_rfl) (by kernel_rfl) (by kernel_rfl) (fun _ _ _ h => h) (Or.inr ⟨by rfl, rfl⟩) (by assumption) ?_
                    try simp only [Act.put, List.setIfInBounds_toArray, List.set_cons_zero, List.set_cons_succ]
                    refine wpAnyH_take (i := 13) (oi := ({ dst := Option.some 128, op := Go.Op.call { callee := Go.Callee.value (Go.Operand.func 35), args := #[Go.Operand.tmp 123, Go.Operand.tmp 127], argTypes := #[23, 3] }, type := 4, pos := "law.go:156", after := #[{ on := 8, ground := Go.Ground.data }, { on := 12, ground := Go.Ground.data }, { on := 7, ground := Go.Ground.chain }, { on := 7, ground := Go.Ground.guard }], guard := Option.some (7, Bool.true) })) (v := undef) rfl (by kernel_rfl) (by kernel_rfl) (by kernel_rfl) (fun _ _ _ h => h) (Or.inr ⟨by rfl, rfl⟩) (by assumption) ?_
                    try simp only [Act.put, List.setIfInBounds_toArray, List.set_cons_zero, List.set_cons_succ]
                    refine wpAnyH_take (i := 14) (oi := ({ dst := Option.some 129, op := Go.Op.unOp Go.UnOp.not 4 (Go.Operand.tmp 128), type := 4, pos := "law.go:156", after := #[{ on := 13, ground := Go.Ground.data }, { on := 7, ground := Go.Ground.guard }], guard := Option.some (7, Bool.true) })) (v := undef) rfl (by kernel_rfl) (by kernel_rfl) (by kernel_rfl) (fun _ _ _ h => h) (Or.inr ⟨by rfl, rfl⟩) (by assumption) ?_
                    try simp only [Act.put, List.setIfInBounds_toArray, List.set_cons_zero, List.set_cons_succ]
                    refine wpAnyH_take (i := 15) (oi := ({ dst := Option.some 130, op := Go.Op.pick (Go.Operand.tmp 122) (Go.Operand.tmp 129) (Go.Operand.const (Go.Value.bool Bool.false)), type := 4, pos := "law.go:156", after := #[{ on := 7, ground := Go.Ground.data }, { on := 14, ground := Go.Ground.data }], guard := Option.none })) (v := ?_) rfl (by kernel_rfl) (by kernel_rfl) (by kernel_rfl) (fun _ _ _ h => h) (Or.inl ⟨by rfl, ?_⟩) (by assumption) ?_
                    rotate_left
                    · first | exact fun _ _ => rfl | (intro w hSw; (try dsimp only at hSw); go_simp; try with_reducible rfl)
                    try simp only [Act.put, List.setIfInBounds_toArray, List.set_cons_zero, List.set_cons_succ]
                    refine wpAnyH_take (i := 16) (oi := ({ dst := Option.some 131, op := Go.Op.move (Go.Operand.tmp 130), type := 4, pos := "law.go:156", after := #[{ on := 15, ground := Go.Ground.data }, { on := 13, ground := Go.Ground.chain }], guard := Option.none })) (v := ?_) rfl (by kernel_rfl) (by kernel_rfl) (by kernel_rfl) (fun _ _ _ h => h) (Or.inl ⟨by rfl, ?_⟩) (by assumption) ?_
                    rotate_left
                    · first | exact fun _ _ => rfl | (intro w hSw; (try dsimp only at hSw); go_simp; try with_reducible rfl)
                    try simp only [Act.put, List.setIfInBounds_toArray, List.set_cons_zero, List.set_cons_succ]
                    refine wpAnyH_take (i := 17) (oi := ({ dst := Option.some 132, op := Go.Op.move (Go.Operand.tmp 18), type := 3, pos := "law.go:156", after := #[{ on := 16, ground := Go.Ground.guard }], guard := Option.some (16, Bool.false) })) (v := ?_) rfl (by kernel_rfl) (by kernel_rfl) (by kernel_rfl) (fun _ _ _ h => h) (Or.inl ⟨by rfl, ?_⟩) (by assumption) ?_
                    rotate_left
                    · first | exact fun _ _ => rfl | (intro w hSw; (try dsimp only at hSw); go_simp; try with_reducible rfl)
                    try simp only [Act.put, List.setIfInBounds_toArray, List.set_cons_zero, List.set_cons_succ]
                    refine wpAnyH_take (i := 18) (oi := ({ dst := Option.some 133, op := Go.Op.binOp Go.BinOp.gtr 3 (Go.Operand.tmp 132) (Go.Operand.const (Go.Value.int Go.IntKind.i64 0)) 3, type := 4, pos := "law.go:156", after := #[{ on := 17, ground := Go.Ground.data }, { on := 16, ground := Go.Ground.guard }], guard := Option.some (16, Bool.false) })) (v := ?_) rfl (by kernel_rfl) (by kernel_rfl) (by kernel_rfl) (fun _ _ _ h => h) (Or.inl ⟨by rfl, ?_⟩) (by assumption) ?_
                    rotate_left
                    · first | exact fun _ _ => rfl | (intro w hSw; (try dsimp only at hSw); go_simp; try with_reducible rfl)
                    try simp only [Act.put, List.setIfInBounds_toArray, List.set_cons_zero, List.set_cons_succ]
                    refine wpAnyH_take (i := 19) (oi := ({ dst := Option.some 134, op := Go.Op.move (Go.Operand.tmp 133), type := 4, pos := "law.go:156", after := #[{ on := 18, ground := Go.Ground.data }, { on := 16, ground := Go.Ground.chain }, { on := 16, ground := Go.Ground.guard }], guard := Option.some (16, Bool.false) })) (v := ?_) rfl (by kernel_rfl) (by kernel_rfl) (by kernel_rfl) (fun _ _ _ h => h) (Or.inl ⟨by rfl, ?_⟩) (by assumption) ?_
                    rotate_left
                    · first | exact fun _ _ => rfl | (intro w hSw; (try dsimp only at hSw); go_simp; try with_reducible rfl)
                    try simp only [Act.put, List.setIfInBounds_toArray, List.set_cons_zero, List.set_cons_succ]
                    refine wpAnyH_take (i := 20) (oi := ({ dst := Option.some 135, op := Go.Op.move (Go.Operand.tmp 12), type := 23, pos := "law.go:156", after := #[{ on := 19, ground := Go.Ground.guard }], guard := Option.some (19, Bool.true) })) (v := undef) rfl (by kernel_rfl) (by kernel_rfl) (by kernel_rfl) (fun _ _ _ h => h) (Or.inr ⟨by rfl, rfl⟩) (by assumption) ?_
                    try simp only [Act.put, List.setIfInBounds_toArray, List.set_cons_zero, List.set_cons_succ]
                    refine wpAnyH_take (i := 21) (oi := ({ dst := Option.some 136, op := Go.Op.move (Go.Operand.tmp 18), type := 3, pos := "law.go:156", after := #[{ on := 19, ground := Go.Ground.guard }], guard := Option.some (19, Bool.true) })) (v := undef) rfl (by kernel_rfl) (by kernel_rfl) (by kernel_rfl) (fun _ _ _ h => h) (Or.inr ⟨by rfl, rfl⟩) (by assumption) ?_
                    try simp only [Act.put, List.setIfInBounds_toArray, List.set_cons_zero, List.set_cons_succ]
                    refine wpAnyH_take (i := 22) (oi := ({ dst := Option.some 137, op := Go.Op.binOp Go.BinOp.sub 3 (Go.Operand.tmp 136) (Go.Operand.const (Go.Value.int Go.IntKind.i64 1)) 3, type := 3, pos := "law.go:156", after := #[{ on := 21, ground := Go.Ground.data }, { on := 19, ground := Go.Ground.guard }], guard := Option.some (19, Bool.true) })) (v := undef) rfl (by kernel_rfl) (by kernel_rfl) (by kernel_rfl) (fun _ _ _ h => h) (Or.inr ⟨by rfl, rfl⟩) (by assumption) ?_
                    try simp only [Act.put, List.setIfInBounds_toArray, List.set_cons_zero, List.set_cons_succ]
                    refine wpAnyH_take (i := 23) (oi := ({ dst := Option.some 138, op := Go.Op.indexAddr 23 (Go.Operand.tmp 135) (Go.Operand.tmp 137), type := 0, pos := "law.go:156", after := #[{ on := 20, ground := Go.Ground.data }, { on := 22, ground := Go.Ground.data }, { on := 19, ground := Go.Ground.guard }], guard := Option.some (19, Bool.true) })) (v := undef) rfl (by kernel_rfl) (by kernel_rfl) (by kernel_rfl) (fun _ _ _ h => h) (Or.inr ⟨by rfl, rfl⟩) (by assumption) ?_
                    try simp only [Act.put, List.setIfInBounds_toArray, List.set_cons_zero, List.set_cons_succ]
                    refine wpAnyH_take (i := 24) (oi := ({ dst := Option.some 139, op := Go.Op.load 3 (Go.Operand.tmp 138), type := 3, pos := "law.go:156", after := #[{ on := 23, ground := Go.Ground.data }, { on := 19, ground := Go.Ground.guard }], guard := Option.some (19, Bool.true) })) (v := undef) rfl (by kernel_rfl) (by kernel_rfl) (by kernel_rfl) (fun _ _ _ h => h) (Or.inr ⟨by rfl, rfl⟩) (by assumption) ?_
                    try simp only [Act.put, List.setIfInBounds_toArray, List.set_cons_zero, List.set_cons_succ]
                    refine wpAnyH_take (i := 25) (oi := ({ dst := Option.some 140, op := Go.Op.move (Go.Operand.tmp 12), type := 23, pos := "law.go:156", after := #[{ on := 19, ground := Go.Ground.guard }], guard := Option.some (19, Bool.true) })) (v := undef) rfl (by kernel_rfl) (by kernel_rfl) (by kernel_rfl) (fun _ _ _ h => h) (Or.inr ⟨by rfl, rfl⟩) (by assumption) ?_
                    try simp only [Act.put, List.setIfInBounds_toArray, List.set_cons_zero, List.set_cons_succ]
                    refine wpAnyH_take (i := 26) (oi := ({ dst := Option.some 141, op := Go.Op.move (Go.Operand.tmp 18), type := 3, pos := "law.go:156", after := #[{ on := 19, ground := Go.Ground.guard }], guard := Option.some (19, Bool.true) })) (v := undef) rfl (by kernel_rfl) (by kernel_rfl) (by kernel_rfl) (fun _ _ _ h => h) (Or.inr ⟨by rfl, rfl⟩) (by assumption) ?_
                    try simp only [Act.put, List.setIfInBounds_toArray, List.set_cons_zero, List.set_cons_succ]
                    refine wpAnyH_take (i := 27) (oi := ({ dst := Option.some 142, op := Go.Op.indexAddr 23 (Go.Operand.tmp 140) (Go.Operand.tmp 141), type := 0, pos := "law.go:156", after := #[{ on := 25, ground := Go.Ground.data }, { on := 26, ground := Go.Ground.data }, { on := 19, ground := Go.Ground.guard }], guard := Option.some (19, Bool.true) })) (v := undef) rfl (by kernel_rfl) (by kernel_rfl) (by kernel_rfl) (fun _ _ _ h => h) (Or.inr ⟨by rfl, rfl⟩) (by assumption) ?_
                    try simp only [Act.put, List.setIfInBounds_toArray, List.set_cons_zero, List.set_cons_succ]
                    refine wpAnyH_take (i := 28) (oi := ({ dst := Option.some 143, op := Go.Op.load 3 (Go.Operand.tmp 142), type := 3, pos := "law.go:156", after := #[{ on := 27, ground := Go.Ground.data }, { on := 19, ground := Go.Ground.guard }], guard := Option.some (19, Bool.true) })) (v := undef) rfl (by kernel_rfl) (by kernel_rfl) (by kernel_rfl) (fun _ _ _ h => h) (Or.inr ⟨by rfl, rfl⟩) (by assumption) ?_
                    try simp only [Act.put, List.setIfInBounds_toArray, List.set_cons_zero, List.set_cons_succ]
                    refine wpAnyH_take (i := 29) (oi := ({ dst := Option.some 144, op := Go.Op.binOp Go.BinOp.geq 3 (Go.Operand.tmp 139) (Go.Operand.tmp 143) 3, type := 4, pos := "law.go:156", after := #[{ on := 24, ground := Go.Ground.data }, { on := 28, ground := Go.Ground.data }, { on := 19, ground := Go.Ground.guard }], guard := Option.some (19, Bool.true) })) (v := undef) rfl (by kernel_rfl) (by kernel_rfl) (by kernel_rfl) (fun _ _ _ h => h) (Or.inr ⟨by rfl, rfl⟩) (by assumption) ?_
                    try simp only [Act.put, List.setIfInBounds_toArray, List.set_cons_zero, List.set_cons_succ]
                    refine wpAnyH_take (i := 30) (oi := ({ dst := Option.some 145, op := Go.Op.pick (Go.Operand.tmp 134) (Go.Operand.tmp 144) (Go.Operand.const (Go.Value.bool Bool.false)), type := 4, pos := "law.go:156", after := #[{ on := 19, ground := Go.Ground.data }, { on := 29, ground := Go.Ground.data }, { on := 16, ground := Go.Ground.guard }], guard := Option.some (16, Bool.false) })) (v := ?_) rfl (by kernel_rfl) (by kernel_rfl) (by kernel_rfl) (fun _ _ _ h => h) (Or.inl ⟨by rfl, ?_⟩) (by assumption) ?_
                    rotate_left
                    · first | exact fun _ _ => rfl | (intro w hSw; (try dsimp only at hSw); go_simp; try with_reducible rfl)
                    try simp only [Act.put, List.setIfInBounds_toArray, List.set_cons_zero, List.set_cons_succ]
                    refine wpAnyH_take (i := 31) (oi := ({ dst := Option.some 146, op := Go.Op.pick (Go.Operand.tmp 131) (Go.Operand.const (Go.Value.bool Bool.true)) (Go.Operand.tmp 145), type := 4, pos := "law.go:156", after := #[{ on := 16, ground := Go.Ground.data }, { on := 30, ground := Go.Ground.data }], guard := Option.none })) (v := ?_) rfl (by kernel_rfl) (by kernel_rfl) (by kernel_rfl) (fun _ _ _ h => h) (Or.inl ⟨by rfl, ?_⟩) (by assumption) ?_
                    rotate_left
                    · first | exact fun _ _ => rfl | (intro w hSw; (try dsimp only at hSw); go_simp; try with_reducible rfl)
                    try simp only [Act.put, List.setIfInBounds_toArray, List.set_cons_zero, List.set_cons_succ]
                    refine wpAnyH_done (by kernel_rfl) ?_ _
                    go_wp2
                    go_roundw
                    case rel => first | exact ⟨i + 1, by omega, by go_num, by assumption⟩ | ((repeat apply Exists.intro); exact ⟨⟨i + 1, by omega, by go_num, by assumption⟩, rfl⟩)
                    case measure => simp [intOf]; omega
                · have HMX := Lib.hid (decide_eq_false hm)
                  have HMY := Lib.hid (decide_eq_true ((List.mem_append.1 hmem).resolve_left hm))
                  clear hmem
                  by_cases h0 : 0 < i
                  · obtain ⟨j, hj⟩ : ∃ j : Nat, i = j + 1 := ⟨i - 1, by omega⟩
                    have HJ := Lib.hid hj
                    have hnzb : nz ≤ 10 := by have := HLN.out; omega
                    have g2 : (0 : Int) < (i : Int) := by omega
                    have g3 : decide ((0 : Int) < (i : Int)) = true := decide_eq_true g2
                    have g3' : decide (0 < i) = true := decide_eq_true h0
                    have g4 : (i : Int) - 1 = (j : Int) := by omega
                    have g5 : (0 : Int) ≤ (j : Int) := by omega
                    have g6 : (j : Int) < (nz : Int) := by omega
                    have g6' : j < nz := by omega
                    have gw0 : IntKind.i64.wrap ((i : Int) - 1) = (i : Int) - 1 := IntWalk.i64_in _ (by have := HLN.out; omega)
                    have gw : IntKind.i64.wrap (j : Int) = (j : Int) := IntWalk.i64_in _ (by have := HLN.out; omega)
                    have hjz : j < Lz.length := by omega
                    clear hj
                    obtain ⟨z', HZ'⟩ : ∃ z', Hid (Lz[j]'(by omega) = z') := ⟨_, Lib.hid rfl⟩
                    have HZD : Hid (∀ W, FT w x qc c N f (.slice Ax nx cx) (.slice Ay ny cy) (.slice (some ⟨bz, oz, none⟩) nz cz) (.slice Am nm cm) L0 L1 Lz Lm W → W.cell? ⟨bz, oz + j, none⟩ = some (.int .i64 z')) := Lib.hid fun W hW => by rw [← HZ'.out]; exact irw_cell hW.iz j (by omega)
                    have hzz : z' < z := by rw [← HZ.out, ← HZ'.out]; exact rising_at HLZ.out (both_once (fun c => (HCN.out c).1) HR0.out HR1.out) i j HJ.out hil
                    have g7 : decide (z ≤ z') = false := by simp; omega
                    have g8 : decide (z' ≥ z) = false := by simp; omega
                    clear hm hzz
                    refine wp_region_held_drew (S := (fun w' => w'.cell? ⟨bz, oz + i, none⟩ = some (.int .i64 z) ∧ w'.cell? ⟨bz, oz + j, none⟩ = some (.int .i64 z') ∧ Hid (FT w x qc c N f (.slice Ax nx cx) (.slice Ay ny cy) (.slice (some ⟨bz, oz, none⟩) nz cz) (.slice Am nm cm) L0 L1 Lz Lm w'))) (by kernel_rfl) (FT.all2 HZC.out HZD.out KD) (fun hHeld => ?_)
                    refine wpAnyH_take (i := 0) (oi := ({ dst := Option.some 115, op := Go.Op.move (Go.Operand.tmp 8), type := 23, pos := "law.go:156", after := #[], guard := Option.none })) (v := ?_) rfl (by kernel_rfl) (by kernel_rfl) (by kernel_rfl) (fun _ _ _ h => h) (Or.inl ⟨by rfl, ?_⟩) (by assumption) ?_
                    rotate_left
                    · first | exact fun _ _ => rfl | (intro w hSw; (try dsimp only at hSw); go_simp; try with_reducible rfl)
                    try simp only [Act.put, List.setIfInBounds_toArray, List.set_cons_zero, List.set_cons_succ]
                    refine wpAnyH_take (i := 1) (oi := ({ dst := Option.some 116, op := Go.Op.move (Go.Operand.tmp 12), type := 23, pos := "law.go:156", after := #[], guard := Option.none })) (v := ?_) rfl (by kernel_rfl) (by kernel_rfl) (by kernel_rfl) (fun _ _ _ h => h) (Or.inl ⟨by rfl, ?_⟩) (by assumption) ?_
                    rotate_left
                    · first | exact fun _ _ => rfl | (intro w hSw; (try dsimp only at hSw); go_simp; try with_reducible rfl)
                    try simp only [Act.put, List.setIfInBounds_toArray, List.set_cons_zero, List.set_cons_succ]
                    refine wpAnyH_take (i := 2) (oi := ({ dst := Option.some 117, op := Go.Op.move (Go.Operand.tmp 18), type := 3, pos := "law.go:156", after := #[], guard := Option.none })) (v := ?_) rfl (by kernel_rfl) (by kernel_rfl) (by kernel_rfl) (fun _ _ _ h => h) (Or.inl ⟨by rfl, ?_⟩) (by assumption) ?_
                    rotate_left
                    · first | exact fun _ _ => rfl | (intro w hSw; (try dsimp only at hSw); go_simp; try with_reducible rfl)
                    try simp only [Act.put, List.setIfInBounds_toArray, List.set_cons_zero, List.set_cons_succ]
                    refine wpAnyH_take (i := 3) (oi := ({ dst := Option.some 118, op := Go.Op.indexAddr 23 (Go.Operand.tmp 116) (Go.Operand.tmp 117), type := 0, pos := "law.go:156", after := #[{ on := 1, ground := Go.Ground.data }, { on := 2, ground := Go.Ground.data }], guard := Option.none })) (v := ?_) rfl (by kernel_rfl) (by kernel_rfl) (by kernel_rfl) (fun _ _ _ h => h) (Or.inl ⟨by rfl, ?_⟩) (by assumption) ?_
                    rotate_left
                    · first | exact fun _ _ => rfl | (intro w hSw; (try dsimp only at hSw); go_simp; try with_reducible rfl)
                    try simp only [Act.put, List.setIfInBounds_toArray, List.set_cons_zero, List.set_cons_succ]
                    refine wpAnyH_take (i := 4) (oi := ({ dst := Option.some 119, op := Go.Op.load 3 (Go.Operand.tmp 118), type := 3, pos := "law.go:156", after := #[{ on := 3, ground := Go.Ground.data }], guard := Option.none })) (v := ?_) rfl (by kernel_rfl) (by kernel_rfl) (by kernel_rfl) (fun _ _ _ h => h) (Or.inl ⟨by rfl, ?_⟩) (by assumption) ?_
                    rotate_left
                    · first | exact fun _ _ => rfl | (intro w hSw; (try dsimp only at hSw); go_simp; try with_reducible rfl)
                    try simp only [Act.put, List.setIfInBounds_toArray, List.set_cons_zero, List.set_cons_succ]
                    refine wpAnyH_ready (rs := [5]) (by kernel_rfl) (by simp) ?_
                    refine AllReadyH.cons (o := ({ dst := Option.some 120, op := Go.Op.call { callee := Go.Callee.value (Go.Operand.func 35), args := #[Go.Operand.tmp 115, Go.Operand.tmp 119], argTypes := #[23, 3] }, type := 4, pos := "law.go:156", after := #[{ on := 0, ground := Go.Ground.data }, { on := 4, ground := Go.Ground.data }], guard := Option.none })) rfl (fun Kc hKc => ?_) AllReadyH.nil
                    go_simp
                    (go_at_call 35; first | (with_reducible refine (FT.hasx HMX.out (by have := HNX.out; omega) (by assumption)).mono ?_; rintro e w6 ⟨rfl, K2⟩) | (with_reducible refine (FT.hasy HMY.out (by have := HNY.out; omega) (by assumption)).mono ?_; rintro e w6 ⟨rfl, K2⟩))
                    try go_wp2_with fail
                    refine hKc.out _ _ (FT.all2 HZC.out HZD.out (by assumption)) (fun hHeld => ?_)
                    clear hKc Kc
                    try simp only [Act.put, List.setIfInBounds_toArray, List.set_cons_zero, List.set_cons_succ]
                    refine wpAnyH_take (i := 6) (oi := ({ dst := Option.some 121, op := Go.Op.unOp Go.UnOp.not 4 (Go.Operand.tmp 120), type := 4, pos := "law.go:156", after := #[{ on := 5, ground := Go.Ground.data }], guard := Option.none })) (v := ?_) rfl (by kernel_rfl) (by kernel_rfl) (by kernel_rfl) (fun _ _ _ h => h) (Or.inl ⟨by rfl, ?_⟩) (by assumption) ?_
                    rotate_left
                    · first | exact fun _ _ => rfl | (intro w hSw; (try dsimp only at hSw); go_simp; try with_reducible rfl)
                    try simp only [Act.put, List.setIfInBounds_toArray, List.set_cons_zero, List.set_cons_succ]
                    refine wpAnyH_take (i := 7) (oi := ({ dst := Option.some 122, op := Go.Op.move (Go.Operand.tmp 121), type := 4, pos := "law.go:156", after := #[{ on := 6, ground := Go.Ground.data }, { on := 5, ground := Go.Ground.chain }], guard := Option.none })) (v := ?_) rfl (by kernel_rfl) (by kernel_rfl) (by kernel_rfl) (fun _ _ _ h => h) (Or.inl ⟨by rfl, ?_⟩) (by assumption) ?_
                    rotate_left
                    · first | exact fun _ _ => rfl | (intro w hSw; (try dsimp only at hSw); go_simp; try with_reducible rfl)
                    try simp only [Act.put, List.setIfInBounds_toArray, List.set_cons_zero, List.set_cons_succ]
                    refine wpAnyH_take (i := 8) (oi := ({ dst := Option.some 123, op := Go.Op.move (Go.Operand.tmp 10), type := 23, pos := "law.go:156", after := #[{ on := 7, ground := Go.Ground.guard }], guard := Option.some (7, Bool.true) })) (v := ?_) rfl (by kernel_rfl) (by kernel_rfl) (by kernel_rfl) (fun _ _ _ h => h) (Or.inl ⟨by rfl, ?_⟩) (by assumption) ?_
                    rotate_left
                    · first | exact fun _ _ => rfl | (intro w hSw; (try dsimp only at hSw); go_simp; try with_reducible rfl)
                    try simp only [Act.put, List.setIfInBounds_toArray, List.set_cons_zero, List.set_cons_succ]
                    refine wpAnyH_take (i := 9) (oi := ({ dst := Option.some 124, op := Go.Op.move (Go.Operand.tmp 12), type := 23, pos := "law.go:156", after := #[{ on := 7, ground := Go.Ground.guard }], guard := Option.some (7, Bool.true) })) (v := ?_) rfl (by kernel_rfl) (by kernel_rfl) (by kernel_rfl) (fun _ _ _ h => h) (Or.inl ⟨by rfl, ?_⟩) (by assumption) ?_
                    rotate_left
                    · first | exact fun _ _ => rfl | (intro w hSw; (try dsimp only at hSw); go_simp; try with_reducible rfl)
                    try simp only [Act.put, List.setIfInBounds_toArray, List.set_cons_zero, List.set_cons_succ]
                    refine wpAnyH_take (i := 10) (oi := ({ dst := Option.some 125, op := Go.Op.move (Go.Operand.tmp 18), type := 3, pos := "law.go:156", after := #[{ on := 7, ground := Go.Ground.guard }], guard := Option.some (7, Bool.true) })) (v := ?_) rfl (by kernel_rfl) (by kernel_rfl) (by kernel_rfl) (fun _ _ _ h => h) (Or.inl ⟨by rfl, ?_⟩) (by assumption) ?_
                    rotate_left
                    · first | exact fun _ _ => rfl | (intro w hSw; (try dsimp only at hSw); go_simp; try with_reducible rfl)
                    try simp only [Act.put, List.setIfInBounds_toArray, List.set_cons_zero, List.set_cons_succ]
                    refine wpAnyH_take (i := 11) (oi := ({ dst := Option.some 126, op := Go.Op.indexAddr 23 (Go.Operand.tmp 124) (Go.Operand.tmp 125), type := 0, pos := "law.go:156", after := #[{ on := 9, ground := Go.Ground.data }, { on := 10, ground := Go.Ground.data }, { on := 7, ground := Go.Ground.guard }], guard := Option.some (7, Bool.true) })) (v := ?_) rfl (by kernel_rfl) (by kernel_rfl) (by kernel_rfl) (fun _ _ _ h => h) (Or.inl ⟨by rfl, ?_⟩) (by assumption) ?_
                    rotate_left
                    · first | exact fun _ _ => rfl | (intro w hSw; (try dsimp only at hSw); go_simp; try with_reducible rfl)
                    try simp only [Act.put, List.setIfInBounds_toArray, List.set_cons_zero, List.set_cons_succ]
                    refine wpAnyH_take (i := 12) (oi := ({ dst := Option.some 127, op := Go.Op.load 3 (Go.Operand.tmp 126), type := 3, pos := "law.go:156", after := #[{ on := 11, ground := Go.Ground.data }, { on := 7, ground := Go.Ground.guard }], guard := Option.some (7, Bool.true) })) (v := ?_) rfl (by kernel_rfl) (by kernel_rfl) (by kernel_rfl) (fun _ _ _ h => h) (Or.inl ⟨by rfl, ?_⟩) (by assumption) ?_
                    rotate_left
                    · first | exact fun _ _ => rfl | (intro w hSw; (try dsimp only at hSw); go_simp; try with_reducible rfl)
                    try simp only [Act.put, List.setIfInBounds_toArray, List.set_cons_zero, List.set_cons_succ]
                    refine wpAnyH_ready (rs := [13]) (by kernel_rfl) (by simp) ?_
                    refine AllReadyH.cons (o := ({ dst := Option.some 128, op := Go.Op.call { callee := Go.Callee.value (Go.Operand.func 35), args := #[Go.Operand.tmp 123, Go.Operand.tmp 127], argTypes := #[23, 3] }, type := 4, pos := "law.go:156", after := #[{ on := 8, ground := Go.Ground.data }, { on := 12, ground := Go.Ground.data }, { on := 7, ground := Go.Ground.chain }, { on := 7, ground := Go.Ground.guard }], guard := Option.some (7, Bool.true) })) rfl (fun Kc hKc => ?_) AllReadyH.nil
                    go_simp
                    (go_at_call 35; first | (with_reducible refine (FT.hasx HMX.out (by have := HNX.out; omega) (by assumption)).mono ?_; rintro e w6 ⟨rfl, K2⟩) | (with_reducible refine (FT.hasy HMY.out (by have := HNY.out; omega) (by assumption)).mono ?_; rintro e w6 ⟨rfl, K2⟩))
                    try go_wp2_with fail
                    refine hKc.out _ _ (FT.all2 HZC.out HZD.out (by assumption)) (fun hHeld => ?_)
                    clear hKc Kc
                    try simp only [Act.put, List.setIfInBounds_toArray, List.set_cons_zero, List.set_cons_succ]
                    refine wpAnyH_take (i := 14) (oi := ({ dst := Option.some 129, op := Go.Op.unOp Go.UnOp.not 4 (Go.Operand.tmp 128), type := 4, pos := "law.go:156", after := #[{ on := 13, ground := Go.Ground.data }, { on := 7, ground := Go.Ground.guard }], guard := Option.some (7, Bool.true) })) (v := ?_) rfl (by kernel_rfl) (by kernel_rfl) (by kernel_rfl) (fun _ _ _ h => h) (Or.inl ⟨by rfl, ?_⟩) (by assumption) ?_
                    rotate_left
                    · first | exact fun _ _ => rfl | (intro w hSw; (try dsimp only at hSw); go_simp; try with_reducible rfl)
                    try simp only [Act.put, List.setIfInBounds_toArray, List.set_cons_zero, List.set_cons_succ]
                    refine wpAnyH_take (i := 15) (oi := ({ dst := Option.some 130, op := Go.Op.pick (Go.Operand.tmp 122) (Go.Operand.tmp 129) (Go.Operand.const (Go.Value.bool Bool.false)), type := 4, pos := "law.go:156", after := #[{ on := 7, ground := Go.Ground.data }, { on := 14, ground := Go.Ground.data }], guard := Option.none })) (v := ?_) rfl (by kernel_rfl) (by kernel_rfl) (by kernel_rfl) (fun _ _ _ h => h) (Or.inl ⟨by rfl, ?_⟩) (by assumption) ?_
                    rotate_left
                    · first | exact fun _ _ => rfl | (intro w hSw; (try dsimp only at hSw); go_simp; try with_reducible rfl)
                    try simp only [Act.put, List.setIfInBounds_toArray, List.set_cons_zero, List.set_cons_succ]
                    refine wpAnyH_take (i := 16) (oi := ({ dst := Option.some 131, op := Go.Op.move (Go.Operand.tmp 130), type := 4, pos := "law.go:156", after := #[{ on := 15, ground := Go.Ground.data }, { on := 13, ground := Go.Ground.chain }], guard := Option.none })) (v := ?_) rfl (by kernel_rfl) (by kernel_rfl) (by kernel_rfl) (fun _ _ _ h => h) (Or.inl ⟨by rfl, ?_⟩) (by assumption) ?_
                    rotate_left
                    · first | exact fun _ _ => rfl | (intro w hSw; (try dsimp only at hSw); go_simp; try with_reducible rfl)
                    try simp only [Act.put, List.setIfInBounds_toArray, List.set_cons_zero, List.set_cons_succ]
                    refine wpAnyH_take (i := 17) (oi := ({ dst := Option.some 132, op := Go.Op.move (Go.Operand.tmp 18), type := 3, pos := "law.go:156", after := #[{ on := 16, ground := Go.Ground.guard }], guard := Option.some (16, Bool.false) })) (v := ?_) rfl (by kernel_rfl) (by kernel_rfl) (by kernel_rfl) (fun _ _ _ h => h) (Or.inl ⟨by rfl, ?_⟩) (by assumption) ?_
                    rotate_left
                    · first | exact fun _ _ => rfl | (intro w hSw; (try dsimp only at hSw); go_simp; try with_reducible rfl)
                    try simp only [Act.put, List.setIfInBounds_toArray, List.set_cons_zero, List.set_cons_succ]
                    refine wpAnyH_take (i := 18) (oi := ({ dst := Option.some 133, op := Go.Op.binOp Go.BinOp.gtr 3 (Go.Operand.tmp 132) (Go.Operand.const (Go.Value.int Go.IntKind.i64 0)) 3, type := 4, pos := "law.go:156", after := #[{ on := 17, ground := Go.Ground.data }, { on := 16, ground := Go.Ground.guard }], guard := Option.some (16, Bool.false) })) (v := ?_) rfl (by kernel_rfl) (by kernel_rfl) (by kernel_rfl) (fun _ _ _ h => h) (Or.inl ⟨by rfl, ?_⟩) (by assumption) ?_
                    rotate_left
                    · first | exact fun _ _ => rfl | (intro w hSw; (try dsimp only at hSw); go_simp; try with_reducible rfl)
                    try simp only [Act.put, List.setIfInBounds_toArray, List.set_cons_zero, List.set_cons_succ]
                    refine wpAnyH_take (i := 19) (oi := ({ dst := Option.some 134, op := Go.Op.move (Go.Operand.tmp 133), type := 4, pos := "law.go:156", after := #[{ on := 18, ground := Go.Ground.data }, { on := 16, ground := Go.Ground.chain }, { on := 16, ground := Go.Ground.guard }], guard := Option.some (16, Bool.false) })) (v := ?_) rfl (by kernel_rfl) (by kernel_rfl) (by kernel_rfl) (fun _ _ _ h => h) (Or.inl ⟨by rfl, ?_⟩) (by assumption) ?_
                    rotate_left
                    · first | exact fun _ _ => rfl | (intro w hSw; (try dsimp only at hSw); go_simp; try with_reducible rfl)
                    try simp only [Act.put, List.setIfInBounds_toArray, List.set_cons_zero, List.set_cons_succ]
                    refine wpAnyH_take (i := 20) (oi := ({ dst := Option.some 135, op := Go.Op.move (Go.Operand.tmp 12), type := 23, pos := "law.go:156", after := #[{ on := 19, ground := Go.Ground.guard }], guard := Option.some (19, Bool.true) })) (v := ?_) rfl (by kernel_rfl) (by kernel_rfl) (by kernel_rfl) (fun _ _ _ h => h) (Or.inl ⟨by rfl, ?_⟩) (by assumption) ?_
                    rotate_left
                    · first | exact fun _ _ => rfl | (intro w hSw; (try dsimp only at hSw); go_simp; try with_reducible rfl)
                    try simp only [Act.put, List.setIfInBounds_toArray, List.set_cons_zero, List.set_cons_succ]
                    refine wpAnyH_take (i := 21) (oi := ({ dst := Option.some 136, op := Go.Op.move (Go.Operand.tmp 18), type := 3, pos := "law.go:156", after := #[{ on := 19, ground := Go.Ground.guard }], guard := Option.some (19, Bool.true) })) (v := ?_) rfl (by kernel_rfl) (by kernel_rfl) (by kernel_rfl) (fun _ _ _ h => h) (Or.inl ⟨by rfl, ?_⟩) (by assumption) ?_
                    rotate_left
                    · first | exact fun _ _ => rfl | (intro w hSw; (try dsimp only at hSw); go_simp; try with_reducible rfl)
                    try simp only [Act.put, List.setIfInBounds_toArray, List.set_cons_zero, List.set_cons_succ]
                    refine wpAnyH_take (i := 22) (oi := ({ dst := Option.some 137, op := Go.Op.binOp Go.BinOp.sub 3 (Go.Operand.tmp 136) (Go.Operand.const (Go.Value.int Go.IntKind.i64 1)) 3, type := 3, pos := "law.go:156", after := #[{ on := 21, ground := Go.Ground.data }, { on := 19, ground := Go.Ground.guard }], guard := Option.some (19, Bool.true) })) (v := ?_) rfl (by kernel_rfl) (by kernel_rfl) (by kernel_rfl) (fun _ _ _ h => h) (Or.inl ⟨by rfl, ?_⟩) (by assumption) ?_
                    rotate_left
                    · first | exact fun _ _ => rfl | (intro w hSw; (try dsimp only at hSw); go_simp; try with_reducible rfl)
                    try simp only [Act.put, List.setIfInBounds_toArray, List.set_cons_zero, List.set_cons_succ]
                    refine wpAnyH_take (i := 23) (oi := ({ dst := Option.some 138, op := Go.Op.indexAddr 23 (Go.Operand.tmp 135) (Go.Operand.tmp 137), type := 0, pos := "law.go:156", after := #[{ on := 20, ground := Go.Ground.data }, { on := 22, ground := Go.Ground.data }, { on := 19, ground := Go.Ground.guard }], guard := Option.some (19, Bool.true) })) (v := ?_) rfl (by kernel_rfl) (by kernel_rfl) (by kernel_rfl) (fun _ _ _ h => h) (Or.inl ⟨by rfl, ?_⟩) (by assumption) ?_
                    rotate_left
                    · first | exact fun _ _ => rfl | (intro w hSw; (try dsimp only at hSw); go_simp; try with_reducible rfl)
                    try simp only [Act.put, List.setIfInBounds_toArray, List.set_cons_zero, List.set_cons_succ]
                    refine wpAnyH_take (i := 24) (oi := ({ dst := Option.some 139, op := Go.Op.load 3 (Go.Operand.tmp 138), type := 3, pos := "law.go:156", after := #[{ on := 23, ground := Go.Ground.data }, { on := 19, ground := Go.Ground.guard }], guard := Option.some (19, Bool.true) })) (v := ?_) rfl (by kernel_rfl) (by kernel_rfl) (by kernel_rfl) (fun _ _ _ h => h) (Or.inl ⟨by rfl, ?_⟩) (by assumption) ?_
                    rotate_left
                    · first | exact fun _ _ => rfl | (intro w hSw; (try dsimp only at hSw); go_simp; try with_reducible rfl)
                    try simp only [Act.put, List.setIfInBounds_toArray, List.set_cons_zero, List.set_cons_succ]
                    refine wpAnyH_take (i := 25) (oi := ({ dst := Option.some 140, op := Go.Op.move (Go.Operand.tmp 12), type := 23, pos := "law.go:156", after := #[{ on := 19, ground := Go.Ground.guard }], guard := Option.some (19, Bool.true) })) (v := ?_) rfl (by kernel_rfl) (by kernel_rfl) (by kernel_rfl) (fun _ _ _ h => h) (Or.inl ⟨by rfl, ?_⟩) (by assumption) ?_
                    rotate_left
                    · first | exact fun _ _ => rfl | (intro w hSw; (try dsimp only at hSw); go_simp; try with_reducible rfl)
                    try simp only [Act.put, List.setIfInBounds_toArray, List.set_cons_zero, List.set_cons_succ]
                    refine wpAnyH_take (i := 26) (oi := ({ dst := Option.some 141, op := Go.Op.move (Go.Operand.tmp 18), type := 3, pos := "law.go:156", after := #[{ on := 19, ground := Go.Ground.guard }], guard := Option.some (19, Bool.true) })) (v := ?_) rfl (by kernel_rfl) (by kernel_rfl) (by kernel_rfl) (fun _ _ _ h => h) (Or.inl ⟨by rfl, ?_⟩) (by assumption) ?_
                    rotate_left
                    · first | exact fun _ _ => rfl | (intro w hSw; (try dsimp only at hSw); go_simp; try with_reducible rfl)
                    try simp only [Act.put, List.setIfInBounds_toArray, List.set_cons_zero, List.set_cons_succ]
                    refine wpAnyH_take (i := 27) (oi := ({ dst := Option.some 142, op := Go.Op.indexAddr 23 (Go.Operand.tmp 140) (Go.Operand.tmp 141), type := 0, pos := "law.go:156", after := #[{ on := 25, ground := Go.Ground.data }, { on := 26, ground := Go.Ground.data }, { on := 19, ground := Go.Ground.guard }], guard := Option.some (19, Bool.true) })) (v := ?_) rfl (by kernel_rfl) (by kernel_rfl) (by kernel_rfl) (fun _ _ _ h => h) (Or.inl ⟨by rfl, ?_⟩) (by assumption) ?_
                    rotate_left
                    · first | exact fun _ _ => rfl | (intro w hSw; (try dsimp only at hSw); go_simp; try with_reducible rfl)
                    try simp only [Act.put, List.setIfInBounds_toArray, List.set_cons_zero, List.set_cons_succ]
                    refine wpAnyH_take (i := 28) (oi := ({ dst := Option.some 143, op := Go.Op.load 3 (Go.Operand.tmp 142), type := 3, pos := "law.go:156", after := #[{ on := 27, ground := Go.Ground.data }, { on := 19, ground := Go.Ground.guard }], guard := Option.some (19, Bool.true) })) (v := ?_) rfl (by kernel_rfl) (by kernel_rfl) (by kernel_rfl) (fun _ _ _ h => h) (Or.inl ⟨by rfl, ?_⟩) (by assumption) ?_
                    rotate_left
                    · first | exact fun _ _ => rfl | (intro w hSw; (try dsimp only at hSw); go_simp; try with_reducible rfl)
                    try simp only [Act.put, List.setIfInBounds_toArray, List.set_cons_zero, List.set_cons_succ]
                    refine wpAnyH_take (i := 29) (oi := ({ dst := Option.some 144, op := Go.Op.binOp Go.BinOp.geq 3 (Go.Operand.tmp 139) (Go.Operand.tmp 143) 3, type := 4, pos := "law.go:156", after := #[{ on := 24, ground := Go.Ground.data }, { on := 28, ground := Go.Ground.data }, { on := 19, ground := Go.Ground.guard }], guard := Option.some (19, Bool.true) })) (v := ?_) rfl (by kernel_rfl) (by kernel_rfl) (by kernel_rfl) (fun _ _ _ h => h) (Or.inl ⟨by rfl, ?_⟩) (by assumption) ?_
                    rotate_left
                    · first | exact fun _ _ => rfl | (intro w hSw; (try dsimp only at hSw); go_simp; try with_reducible rfl)
                    try simp only [Act.put, List.setIfInBounds_toArray, List.set_cons_zero, List.set_cons_succ]
                    refine wpAnyH_take (i := 30) (oi := ({ dst := Option.some 145, op := Go.Op.pick (Go.Operand.tmp 134) (Go.Operand.tmp 144) (Go.Operand.const (Go.Value.bool Bool.false)), type := 4, pos := "law.go:156", after := #[{ on := 19, ground := Go.Ground.data }, { on := 29, ground := Go.Ground.data }, { on := 16, ground := Go.Ground.guard }], guard := Option.some (16, Bool.false) })) (v := ?_) rfl (by kernel_rfl) (by kernel_rfl) (by kernel_rfl) (fun _ _ _ h => h) (Or.inl ⟨by rfl, ?_⟩) (by assumption) ?_
                    rotate_left
                    · first | exact fun _ _ => rfl | (intro w hSw; (try dsimp only at hSw); go_simp; try with_reducible rfl)
                    try simp only [Act.put, List.setIfInBounds_toArray, List.set_cons_zero, List.set_cons_succ]
                    refine wpAnyH_take (i := 31) (oi := ({ dst := Option.some 146, op := Go.Op.pick (Go.Operand.tmp 131) (Go.Operand.const (Go.Value.bool Bool.true)) (Go.Operand.tmp 145), type := 4, pos := "law.go:156", after := #[{ on := 16, ground := Go.Ground.data }, { on := 30, ground := Go.Ground.data }], guard := Option.none })) (v := ?_) rfl (by kernel_rfl) (by kernel_rfl) (by kernel_rfl) (fun _ _ _ h => h) (Or.inl ⟨by rfl, ?_⟩) (by assumption) ?_
                    rotate_left
                    · first | exact fun _ _ => rfl | (intro w hSw; (try dsimp only at hSw); go_simp; try with_reducible rfl)
                    try simp only [Act.put, List.setIfInBounds_toArray, List.set_cons_zero, List.set_cons_succ]
                    refine wpAnyH_done (by kernel_rfl) ?_ _
                    go_wp2
                    go_roundw
                    case rel => first | exact ⟨i + 1, by omega, by go_num, by assumption⟩ | ((repeat apply Exists.intro); exact ⟨⟨i + 1, by omega, by go_num, by assumption⟩, rfl⟩)
                    case measure => simp [intOf]; omega
                  · have g2 : ¬ (0 : Int) < (i : Int) := by omega
                    have g3 : decide ((0 : Int) < (i : Int)) = false := decide_eq_false g2
                    have g3' : decide (0 < i) = false := decide_eq_false h0
                    clear hm
                    refine wp_region_held_drew (S := (fun w' => w'.cell? ⟨bz, oz + i, none⟩ = some (.int .i64 z) ∧ Hid (FT w x qc c N f (.slice Ax nx cx) (.slice Ay ny cy) (.slice (some ⟨bz, oz, none⟩) nz cz) (.slice Am nm cm) L0 L1 Lz Lm w'))) (by kernel_rfl) (FT.all1 HZC.out KD) (fun hHeld => ?_)
                    refine wpAnyH_take (i := 0) (oi := ({ dst := Option.some 115, op := Go.Op.move (Go.Operand.tmp 8), type := 23, pos := "law.go:156", after := #[], guard := Option.none })) (v := ?_) rfl (by kernel_rfl) (by kernel_rfl) (by kernel_rfl) (fun _ _ _ h => h) (Or.inl ⟨by rfl, ?_⟩) (by assumption) ?_
                    rotate_left
                    · first | exact fun _ _ => rfl | (intro w hSw; (try dsimp only at hSw); go_simp; try with_reducible rfl)
                    try simp only [Act.put, List.setIfInBounds_toArray, List.set_cons_zero, List.set_cons_succ]
                    refine wpAnyH_take (i := 1) (oi := ({ dst := Option.some 116, op := Go.Op.move (Go.Operand.tmp 12), type := 23, pos := "law.go:156", after := #[], guard := Option.none })) (v := ?_) rfl (by kernel_rfl) (by kernel_rfl) (by kernel_rfl) (fun _ _ _ h => h) (Or.inl ⟨by rfl, ?_⟩) (by assumption) ?_
                    rotate_left
                    · first | exact fun _ _ => rfl | (intro w hSw; (try dsimp only at hSw); go_simp; try with_reducible rfl)
                    try simp only [Act.put, List.setIfInBounds_toArray, List.set_cons_zero, List.set_cons_succ]
                    refine wpAnyH_take (i := 2) (oi := ({ dst := Option.some 117, op := Go.Op.move (Go.Operand.tmp 18), type := 3, pos := "law.go:156", after := #[], guard := Option.none })) (v := ?_) rfl (by kernel_rfl) (by kernel_rfl) (by kernel_rfl) (fun _ _ _ h => h) (Or.inl ⟨by rfl, ?_⟩) (by assumption) ?_
                    rotate_left
                    · first | exact fun _ _ => rfl | (intro w hSw; (try dsimp only at hSw); go_simp; try with_reducible rfl)
                    try simp only [Act.put, List.setIfInBounds_toArray, List.set_cons_zero, List.set_cons_succ]
                    refine wpAnyH_take (i := 3) (oi := ({ dst := Option.some 118, op := Go.Op.indexAddr 23 (Go.Operand.tmp 116) (Go.Operand.tmp 117), type := 0, pos := "law.go:156", after := #[{ on := 1, ground := Go.Ground.data }, { on := 2, ground := Go.Ground.data }], guard := Option.none })) (v := ?_) rfl (by kernel_rfl) (by kernel_rfl) (by kernel_rfl) (fun _ _ _ h => h) (Or.inl ⟨by rfl, ?_⟩) (by assumption) ?_
                    rotate_left
                    · first | exact fun _ _ => rfl | (intro w hSw; (try dsimp only at hSw); go_simp; try with_reducible rfl)
                    try simp only [Act.put, List.setIfInBounds_toArray, List.set_cons_zero, List.set_cons_succ]
                    refine wpAnyH_take (i := 4) (oi := ({ dst := Option.some 119, op := Go.Op.load 3 (Go.Operand.tmp 118), type := 3, pos := "law.go:156", after := #[{ on := 3, ground := Go.Ground.data }], guard := Option.none })) (v := ?_) rfl (by kernel_rfl) (by kernel_rfl) (by kernel_rfl) (fun _ _ _ h => h) (Or.inl ⟨by rfl, ?_⟩) (by assumption) ?_
                    rotate_left
                    · first | exact fun _ _ => rfl | (intro w hSw; (try dsimp only at hSw); go_simp; try with_reducible rfl)
                    try simp only [Act.put, List.setIfInBounds_toArray, List.set_cons_zero, List.set_cons_succ]
                    refine wpAnyH_ready (rs := [5]) (by kernel_rfl) (by simp) ?_
                    refine AllReadyH.cons (o := ({ dst := Option.some 120, op := Go.Op.call { callee := Go.Callee.value (Go.Operand.func 35), args := #[Go.Operand.tmp 115, Go.Operand.tmp 119], argTypes := #[23, 3] }, type := 4, pos := "law.go:156", after := #[{ on := 0, ground := Go.Ground.data }, { on := 4, ground := Go.Ground.data }], guard := Option.none })) rfl (fun Kc hKc => ?_) AllReadyH.nil
                    go_simp
                    (go_at_call 35; first | (with_reducible refine (FT.hasx HMX.out (by have := HNX.out; omega) (by assumption)).mono ?_; rintro e w6 ⟨rfl, K2⟩) | (with_reducible refine (FT.hasy HMY.out (by have := HNY.out; omega) (by assumption)).mono ?_; rintro e w6 ⟨rfl, K2⟩))
                    try go_wp2_with fail
                    refine hKc.out _ _ (FT.all1 HZC.out (by assumption)) (fun hHeld => ?_)
                    clear hKc Kc
                    try simp only [Act.put, List.setIfInBounds_toArray, List.set_cons_zero, List.set_cons_succ]
                    refine wpAnyH_take (i := 6) (oi := ({ dst := Option.some 121, op := Go.Op.unOp Go.UnOp.not 4 (Go.Operand.tmp 120), type := 4, pos := "law.go:156", after := #[{ on := 5, ground := Go.Ground.data }], guard := Option.none })) (v := ?_) rfl (by kernel_rfl) (by kernel_rfl) (by kernel_rfl) (fun _ _ _ h => h) (Or.inl ⟨by rfl, ?_⟩) (by assumption) ?_
                    rotate_left
                    · first | exact fun _ _ => rfl | (intro w hSw; (try dsimp only at hSw); go_simp; try with_reducible rfl)
                    try simp only [Act.put, List.setIfInBounds_toArray, List.set_cons_zero, List.set_cons_succ]
                    refine wpAnyH_take (i := 7) (oi := ({ dst := Option.some 122, op := Go.Op.move (Go.Operand.tmp 121), type := 4, pos := "law.go:156", after := #[{ on := 6, ground := Go.Ground.data }, { on := 5, ground := Go.Ground.chain }], guard := Option.none })) (v := ?_) rfl (by kernel_rfl) (by kernel_rfl) (by kernel_rfl) (fun _ _ _ h => h) (Or.inl ⟨by rfl, ?_⟩) (by assumption) ?_
                    rotate_left
                    · first | exact fun _ _ => rfl | (intro w hSw; (try dsimp only at hSw); go_simp; try with_reducible rfl)
                    try simp only [Act.put, List.setIfInBounds_toArray, List.set_cons_zero, List.set_cons_succ]
                    refine wpAnyH_take (i := 8) (oi := ({ dst := Option.some 123, op := Go.Op.move (Go.Operand.tmp 10), type := 23, pos := "law.go:156", after := #[{ on := 7, ground := Go.Ground.guard }], guard := Option.some (7, Bool.true) })) (v := ?_) rfl (by kernel_rfl) (by kernel_rfl) (by kernel_rfl) (fun _ _ _ h => h) (Or.inl ⟨by rfl, ?_⟩) (by assumption) ?_
                    rotate_left
                    · first | exact fun _ _ => rfl | (intro w hSw; (try dsimp only at hSw); go_simp; try with_reducible rfl)
                    try simp only [Act.put, List.setIfInBounds_toArray, List.set_cons_zero, List.set_cons_succ]
                    refine wpAnyH_take (i := 9) (oi := ({ dst := Option.some 124, op := Go.Op.move (Go.Operand.tmp 12), type := 23, pos := "law.go:156", after := #[{ on := 7, ground := Go.Ground.guard }], guard := Option.some (7, Bool.true) })) (v := ?_) rfl (by kernel_rfl) (by kernel_rfl) (by kernel_rfl) (fun _ _ _ h => h) (Or.inl ⟨by rfl, ?_⟩) (by assumption) ?_
                    rotate_left
                    · first | exact fun _ _ => rfl | (intro w hSw; (try dsimp only at hSw); go_simp; try with_reducible rfl)
                    try simp only [Act.put, List.setIfInBounds_toArray, List.set_cons_zero, List.set_cons_succ]
                    refine wpAnyH_take (i := 10) (oi := ({ dst := Option.some 125, op := Go.Op.move (Go.Operand.tmp 18), type := 3, pos := "law.go:156", after := #[{ on := 7, ground := Go.Ground.guard }], guard := Option.some (7, Bool.true) })) (v := ?_) rfl (by kernel_rfl) (by kernel_rfl) (by kernel_rfl) (fun _ _ _ h => h) (Or.inl ⟨by rfl, ?_⟩) (by assumption) ?_
                    rotate_left
                    · first | exact fun _ _ => rfl | (intro w hSw; (try dsimp only at hSw); go_simp; try with_reducible rfl)
                    try simp only [Act.put, List.setIfInBounds_toArray, List.set_cons_zero, List.set_cons_succ]
                    refine wpAnyH_take (i := 11) (oi := ({ dst := Option.some 126, op := Go.Op.indexAddr 23 (Go.Operand.tmp 124) (Go.Operand.tmp 125), type := 0, pos := "law.go:156", after := #[{ on := 9, ground := Go.Ground.data }, { on := 10, ground := Go.Ground.data }, { on := 7, ground := Go.Ground.guard }], guard := Option.some (7, Bool.true) })) (v := ?_) rfl (by kernel_rfl) (by kernel_rfl) (by kernel_rfl) (fun _ _ _ h => h) (Or.inl ⟨by rfl, ?_⟩) (by assumption) ?_
                    rotate_left
                    · first | exact fun _ _ => rfl | (intro w hSw; (try dsimp only at hSw); go_simp; try with_reducible rfl)
                    try simp only [Act.put, List.setIfInBounds_toArray, List.set_cons_zero, List.set_cons_succ]
                    refine wpAnyH_take (i := 12) (oi := ({ dst := Option.some 127, op := Go.Op.load 3 (Go.Operand.tmp 126), type := 3, pos := "law.go:156", after := #[{ on := 11, ground := Go.Ground.data }, { on := 7, ground := Go.Ground.guard }], guard := Option.some (7, Bool.true) })) (v := ?_) rfl (by kernel_rfl) (by kernel_rfl) (by kernel_rfl) (fun _ _ _ h => h) (Or.inl ⟨by rfl, ?_⟩) (by assumption) ?_
                    rotate_left
                    · first | exact fun _ _ => rfl | (intro w hSw; (try dsimp only at hSw); go_simp; try with_reducible rfl)
                    try simp only [Act.put, List.setIfInBounds_toArray, List.set_cons_zero, List.set_cons_succ]
                    refine wpAnyH_ready (rs := [13]) (by kernel_rfl) (by simp) ?_
                    refine AllReadyH.cons (o := ({ dst := Option.some 128, op := Go.Op.call { callee := Go.Callee.value (Go.Operand.func 35), args := #[Go.Operand.tmp 123, Go.Operand.tmp 127], argTypes := #[23, 3] }, type := 4, pos := "law.go:156", after := #[{ on := 8, ground := Go.Ground.data }, { on := 12, ground := Go.Ground.data }, { on := 7, ground := Go.Ground.chain }, { on := 7, ground := Go.Ground.guard }], guard := Option.some (7, Bool.true) })) rfl (fun Kc hKc => ?_) AllReadyH.nil
                    go_simp
                    (go_at_call 35; first | (with_reducible refine (FT.hasx HMX.out (by have := HNX.out; omega) (by assumption)).mono ?_; rintro e w6 ⟨rfl, K2⟩) | (with_reducible refine (FT.hasy HMY.out (by have := HNY.out; omega) (by assumption)).mono ?_; rintro e w6 ⟨rfl, K2⟩))
                    try go_wp2_with fail
                    refine hKc.out _ _ (FT.all1 HZC.out (by assumption)) (fun hHeld => ?_)
                    clear hKc Kc
                    try simp only [Act.put, List.setIfInBounds_toArray, List.set_cons_zero, List.set_cons_succ]
                    refine wpAnyH_take (i := 14) (oi := ({ dst := Option.some 129, op := Go.Op.unOp Go.UnOp.not 4 (Go.Operand.tmp 128), type := 4, pos := "law.go:156", after := #[{ on := 13, ground := Go.Ground.data }, { on := 7, ground := Go.Ground.guard }], guard := Option.some (7, Bool.true) })) (v := ?_) rfl (by kernel_rfl) (by kernel_rfl) (by kernel_rfl) (fun _ _ _ h => h) (Or.inl ⟨by rfl, ?_⟩) (by assumption) ?_
                    rotate_left
                    · first | exact fun _ _ => rfl | (intro w hSw; (try dsimp only at hSw); go_simp; try with_reducible rfl)
                    try simp only [Act.put, List.setIfInBounds_toArray, List.set_cons_zero, List.set_cons_succ]
                    refine wpAnyH_take (i := 15) (oi := ({ dst := Option.some 130, op := Go.Op.pick (Go.Operand.tmp 122) (Go.Operand.tmp 129) (Go.Operand.const (Go.Value.bool Bool.false)), type := 4, pos := "law.go:156", after := #[{ on := 7, ground := Go.Ground.data }, { on := 14, ground := Go.Ground.data }], guard := Option.none })) (v := ?_) rfl (by kernel_rfl) (by kernel_rfl) (by kernel_rfl) (fun _ _ _ h => h) (Or.inl ⟨by rfl, ?_⟩) (by assumption) ?_
                    rotate_left
                    · first | exact fun _ _ => rfl | (intro w hSw; (try dsimp only at hSw); go_simp; try with_reducible rfl)
                    try simp only [Act.put, List.setIfInBounds_toArray, List.set_cons_zero, List.set_cons_succ]
                    refine wpAnyH_take (i := 16) (oi := ({ dst := Option.some 131, op := Go.Op.move (Go.Operand.tmp 130), type := 4, pos := "law.go:156", after := #[{ on := 15, ground := Go.Ground.data }, { on := 13, ground := Go.Ground.chain }], guard := Option.none })) (v := ?_) rfl (by kernel_rfl) (by kernel_rfl) (by kernel_rfl) (fun _ _ _ h => h) (Or.inl ⟨by rfl, ?_⟩) (by assumption) ?_
                    rotate_left
                    · first | exact fun _ _ => rfl | (intro w hSw; (try dsimp only at hSw); go_simp; try with_reducible rfl)
                    try simp only [Act.put, List.setIfInBounds_toArray, List.set_cons_zero, List.set_cons_succ]
                    refine wpAnyH_take (i := 17) (oi := ({ dst := Option.some 132, op := Go.Op.move (Go.Operand.tmp 18), type := 3, pos := "law.go:156", after := #[{ on := 16, ground := Go.Ground.guard }], guard := Option.some (16, Bool.false) })) (v := ?_) rfl (by kernel_rfl) (by kernel_rfl) (by kernel_rfl) (fun _ _ _ h => h) (Or.inl ⟨by rfl, ?_⟩) (by assumption) ?_
                    rotate_left
                    · first | exact fun _ _ => rfl | (intro w hSw; (try dsimp only at hSw); go_simp; try with_reducible rfl)
                    try simp only [Act.put, List.setIfInBounds_toArray, List.set_cons_zero, List.set_cons_succ]
                    refine wpAnyH_take (i := 18) (oi := ({ dst := Option.some 133, op := Go.Op.binOp Go.BinOp.gtr 3 (Go.Operand.tmp 132) (Go.Operand.const (Go.Value.int Go.IntKind.i64 0)) 3, type := 4, pos := "law.go:156", after := #[{ on := 17, ground := Go.Ground.data }, { on := 16, ground := Go.Ground.guard }], guard := Option.some (16, Bool.false) })) (v := ?_) rfl (by kernel_rfl) (by kernel_rfl) (by kernel_rfl) (fun _ _ _ h => h) (Or.inl ⟨by rfl, ?_⟩) (by assumption) ?_
                    rotate_left
                    · first | exact fun _ _ => rfl | (intro w hSw; (try dsimp only at hSw); go_simp; try with_reducible rfl)
                    try simp only [Act.put, List.setIfInBounds_toArray, List.set_cons_zero, List.set_cons_succ]
                    refine wpAnyH_take (i := 19) (oi := ({ dst := Option.some 134, op := Go.Op.move (Go.Operand.tmp 133), type := 4, pos := "law.go:156", after := #[{ on := 18, ground := Go.Ground.data }, { on := 16, ground := Go.Ground.chain }, { on := 16, ground := Go.Ground.guard }], guard := Option.some (16, Bool.false) })) (v := ?_) rfl (by kernel_rfl) (by kernel_rfl) (by kernel_rfl) (fun _ _ _ h => h) (Or.inl ⟨by rfl, ?_⟩) (by assumption) ?_
                    rotate_left
                    · first | exact fun _ _ => rfl | (intro w hSw; (try dsimp only at hSw); go_simp; try with_reducible rfl)
                    try simp only [Act.put, List.setIfInBounds_toArray, List.set_cons_zero, List.set_cons_succ]
                    refine wpAnyH_take (i := 20) (oi := ({ dst := Option.some 135, op := Go.Op.move (Go.Operand.tmp 12), type := 23, pos := "law.go:156", after := #[{ on := 19, ground := Go.Ground.guard }], guard := Option.some (19, Bool.true) })) (v := undef) rfl (by kernel_rfl) (by kernel_rfl) (by kernel_rfl) (fun _ _ _ h => h) (Or.inr ⟨by rfl, rfl⟩) (by assumption) ?_
                    try simp only [Act.put, List.setIfInBounds_toArray, List.set_cons_zero, List.set_cons_succ]
                    refine wpAnyH_take (i := 21) (oi := ({ dst := Option.some 136, op := Go.Op.move (Go.Operand.tmp 18), type := 3, pos := "law.go:156", after := #[{ on := 19, ground := Go.Ground.guard }], guard := Option.some (19, Bool.true) })) (v := undef) rfl (by kernel_rfl) (by kernel_rfl) (by kernel_rfl) (fun _ _ _ h => h) (Or.inr ⟨by rfl, rfl⟩) (by assumption) ?_
                    try simp only [Act.put, List.setIfInBounds_toArray, List.set_cons_zero, List.set_cons_succ]
                    refine wpAnyH_take (i := 22) (oi := ({ dst := Option.some 137, op := Go.Op.binOp Go.BinOp.sub 3 (Go.Operand.tmp 136) (Go.Operand.const (Go.Value.int Go.IntKind.i64 1)) 3, type := 3, pos := "law.go:156", after := #[{ on := 21, ground := Go.Ground.data }, { on := 19, ground := Go.Ground.guard }], guard := Option.some (19, Bool.true) })) (v := undef) rfl (by kernel_rfl) (by kernel_rfl) (by kernel_rfl) (fun _ _ _ h => h) (Or.inr ⟨by rfl, rfl⟩) (by assumption) ?_
                    try simp only [Act.put, List.setIfInBounds_toArray, List.set_cons_zero, List.set_cons_succ]
                    refine wpAnyH_take (i := 23) (oi := ({ dst := Option.some 138, op := Go.Op.indexAddr 23 (Go.Operand.tmp 135) (Go.Operand.tmp 137), type := 0, pos := "law.go:156", after := #[{ on := 20, ground := Go.Ground.data }, { on := 22, ground := Go.Ground.data }, { on := 19, ground := Go.Ground.guard }], guard := Option.some (19, Bool.true) })) (v := undef) rfl (by kernel_rfl) (by kernel_rfl) (by kernel_rfl) (fun _ _ _ h => h) (Or.inr ⟨by rfl, rfl⟩) (by assumption) ?_
                    try simp only [Act.put, List.setIfInBounds_toArray, List.set_cons_zero, List.set_cons_succ]
                    refine wpAnyH_take (i := 24) (oi := ({ dst := Option.some 139, op := Go.Op.load 3 (Go.Operand.tmp 138), type := 3, pos := "law.go:156", after := #[{ on := 23, ground := Go.Ground.data }, { on := 19, ground := Go.Ground.guard }], guard := Option.some (19, Bool.true) })) (v := undef) rfl (by kernel_rfl) (by kernel_rfl) (by kernel_rfl) (fun _ _ _ h => h) (Or.inr ⟨by rfl, rfl⟩) (by assumption) ?_
                    try simp only [Act.put, List.setIfInBounds_toArray, List.set_cons_zero, List.set_cons_succ]
                    refine wpAnyH_take (i := 25) (oi := ({ dst := Option.some 140, op := Go.Op.move (Go.Operand.tmp 12), type := 23, pos := "law.go:156", after := #[{ on := 19, ground := Go.Ground.guard }], guard := Option.some (19, Bool.true) })) (v := undef) rfl (by kernel_rfl) (by kernel_rfl) (by kernel_rfl) (fun _ _ _ h => h) (Or.inr ⟨by rfl, rfl⟩) (by assumption) ?_
                    try simp only [Act.put, List.setIfInBounds_toArray, List.set_cons_zero, List.set_cons_succ]
                    refine wpAnyH_take (i := 26) (oi := ({ dst := Option.some 141, op := Go.Op.move (Go.Operand.tmp 18), type := 3, pos := "law.go:156", after := #[{ on := 19, ground := Go.Ground.guard }], guard := Option.some (19, Bool.true) })) (v := undef) rfl (by kernel_rfl) (by kernel_rfl) (by kernel_rfl) (fun _ _ _ h => h) (Or.inr ⟨by rfl, rfl⟩) (by assumption) ?_
                    try simp only [Act.put, List.setIfInBounds_toArray, List.set_cons_zero, List.set_cons_succ]
                    refine wpAnyH_take (i := 27) (oi := ({ dst := Option.some 142, op := Go.Op.indexAddr 23 (Go.Operand.tmp 140) (Go.Operand.tmp 141), type := 0, pos := "law.go:156", after := #[{ on := 25, ground := Go.Ground.data }, { on := 26, ground := Go.Ground.data }, { on := 19, ground := Go.Ground.guard }], guard := Option.some (19, Bool.true) })) (v := undef) rfl (by kernel_rfl) (by kernel_rfl) (by kernel_rfl) (fun _ _ _ h => h) (Or.inr ⟨by rfl, rfl⟩) (by assumption) ?_
                    try simp only [Act.put, List.setIfInBounds_toArray, List.set_cons_zero, List.set_cons_succ]
                    refine wpAnyH_take (i := 28) (oi := ({ dst := Option.some 143, op := Go.Op.load 3 (Go.Operand.tmp 142), type := 3, pos := "law.go:156", after := #[{ on := 27, ground := Go.Ground.data }, { on := 19, ground := Go.Ground.guard }], guard := Option.some (19, Bool.true) })) (v := undef) rfl (by kernel_rfl) (by kernel_rfl) (by kernel_rfl) (fun _ _ _ h => h) (Or.inr ⟨by rfl, rfl⟩) (by assumption) ?_
                    try simp only [Act.put, List.setIfInBounds_toArray, List.set_cons_zero, List.set_cons_succ]
                    refine wpAnyH_take (i := 29) (oi := ({ dst := Option.some 144, op := Go.Op.binOp Go.BinOp.geq 3 (Go.Operand.tmp 139) (Go.Operand.tmp 143) 3, type := 4, pos := "law.go:156", after := #[{ on := 24, ground := Go.Ground.data }, { on := 28, ground := Go.Ground.data }, { on := 19, ground := Go.Ground.guard }], guard := Option.some (19, Bool.true) })) (v := undef) rfl (by kernel_rfl) (by kernel_rfl) (by kernel_rfl) (fun _ _ _ h => h) (Or.inr ⟨by rfl, rfl⟩) (by assumption) ?_
                    try simp only [Act.put, List.setIfInBounds_toArray, List.set_cons_zero, List.set_cons_succ]
                    refine wpAnyH_take (i := 30) (oi := ({ dst := Option.some 145, op := Go.Op.pick (Go.Operand.tmp 134) (Go.Operand.tmp 144) (Go.Operand.const (Go.Value.bool Bool.false)), type := 4, pos := "law.go:156", after := #[{ on := 19, ground := Go.Ground.data }, { on := 29, ground := Go.Ground.data }, { on := 16, ground := Go.Ground.guard }], guard := Option.some (16, Bool.false) })) (v := ?_) rfl (by kernel_rfl) (by kernel_rfl) (by kernel_rfl) (fun _ _ _ h => h) (Or.inl ⟨by rfl, ?_⟩) (by assumption) ?_
                    rotate_left
                    · first | exact fun _ _ => rfl | (intro w hSw; (try dsimp only at hSw); go_simp; try with_reducible rfl)
                    try simp only [Act.put, List.setIfInBounds_toArray, List.set_cons_zero, List.set_cons_succ]
                    refine wpAnyH_take (i := 31) (oi := ({ dst := Option.some 146, op := Go.Op.pick (Go.Operand.tmp 131) (Go.Operand.const (Go.Value.bool Bool.true)) (Go.Operand.tmp 145), type := 4, pos := "law.go:156", after := #[{ on := 16, ground := Go.Ground.data }, { on := 30, ground := Go.Ground.data }], guard := Option.none })) (v := ?_) rfl (by kernel_rfl) (by kernel_rfl) (by kernel_rfl) (fun _ _ _ h => h) (Or.inl ⟨by rfl, ?_⟩) (by assumption) ?_
                    rotate_left
                    · first | exact fun _ _ => rfl | (intro w hSw; (try dsimp only at hSw); go_simp; try with_reducible rfl)
                    try simp only [Act.put, List.setIfInBounds_toArray, List.set_cons_zero, List.set_cons_succ]
                    refine wpAnyH_done (by kernel_rfl) ?_ _
                    go_wp2
                    go_roundw
                    case rel => first | exact ⟨i + 1, by omega, by go_num, by assumption⟩ | ((repeat apply Exists.intro); exact ⟨⟨i + 1, by omega, by go_num, by assumption⟩, rfl⟩)
                    case measure => simp [intOf]; omega
              · have g1 : ¬ (i : Int) < (nz : Int) := by omega
                go_wp2
                go_ret
                exact ⟨rfl, K.out.ah.be⟩
          · obtain rfl : ny = 0 := by simpa using HNY.out.symm
            obtain ⟨eL, eE⟩ := HF.out.second HR0.out HR1.out (by simp)
            subst eL eE
            obtain rfl : nz = 0 := by simpa using HNZ.out.symm
            have hk10 : ¬ k1 = 0 := by omega
            have dk : (k1 == 0) = false := by simpa using hk10
            have dk' : (k1 != 0) = true := by simpa using hk10
            go_wp2_with fail
            refine (top_none _ (HE.out.below K.out.ah.be)).mono ?_
            rintro e w9 ⟨rfl, hb⟩
            replace K := Lib.hid (K.out.below hb)
            clear hb
            go_wp2_with fail
            refine (top_at p1 k1 hk10 _ (HE.out.below K.out.ah.be)).mono ?_
            rintro e w10 ⟨rfl, hb⟩
            replace K := Lib.hid (K.out.below hb)
            clear hb
            go_wp2_with fail
            refine (top_at p1 k1 hk10 _ (HE.out.below K.out.ah.be)).mono ?_
            rintro e w11 ⟨rfl, hb⟩
            replace K := Lib.hid (K.out.below hb)
            clear hb
            go_wp2
            go_ret
            exact ⟨rfl, K.out.ah.be⟩
        · obtain rfl : nx = 0 := by simpa using HNX.out.symm
          obtain ⟨eL, eE⟩ := HF.out.first HR0.out (by simp)
          subst eL eE
          obtain rfl : nz = 0 := by simpa using HNZ.out.symm
          have hk00 : ¬ k0 = 0 := by omega
          have dk : (k0 == 0) = false := by simpa using hk00
          have dk' : (k0 != 0) = true := by simpa using hk00
          go_wp2_with fail
          refine (top_at p0 k0 hk00 _ (HE.out.below K.out.ah.be)).mono ?_
          rintro e w9 ⟨rfl, hb⟩
          replace K := Lib.hid (K.out.below hb)
          clear hb
          go_wp2_with fail
          refine (top_at p0 k0 hk00 _ (HE.out.below K.out.ah.be)).mono ?_
          rintro e w10 ⟨rfl, hb⟩
          replace K := Lib.hid (K.out.below hb)
          clear hb
          go_wp2
          go_ret
          exact ⟨rfl, K.out.ah.be⟩

end Go.Proofs.YtkhbhkllnigbgaaDoor
