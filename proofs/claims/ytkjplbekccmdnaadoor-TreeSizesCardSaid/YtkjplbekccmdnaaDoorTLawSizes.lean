/- TreeSizes: the law's walk. -/
import Derived.Test.YtkjplbekccmdnaaDoorTSize2
import Derived.Test.YtkjplbekccmdnaaDoorTLawParts
namespace Go.Proofs.YtkjplbekccmdnaaDoor
open Go.ChangeShapes Go.WideShapes Go.ChangeAt Go.RowKit
theorem int_v {a b : Int} (h : a = b) : Value.int .i64 a = Value.int .i64 b := by rw [h]
/-- Within a field: the field's box, and all that was there. -/
structure SB (W0 : World) (q : Nat) (y : Tr) (A1 : Option Addr) (k1 : Nat) (A2 : Option Addr) (k2 : Nat) (W : World) : Prop where
  be : Below W0.heap.size W0 W
  box : Cell4 W q 0 y A1 k1 A2 k2
  lt : q < W.heap.size
theorem SB.below {W0 : World} {q : Nat} {y : Tr} {A1 : Option Addr} {k1 : Nat} {A2 : Option Addr} {k2 : Nat} {W W' : World} (h : SB W0 q y A1 k1 A2 k2 W) (hb : Below W.heap.size W W') : SB W0 q y A1 k1 A2 k2 W' := ⟨Below.step h.be hb h.be.size, h.box.of_block (hb.block _ h.lt), Nat.lt_of_lt_of_le h.lt hb.size⟩
theorem SB.drew {W0 : World} {q : Nat} {y : Tr} {A1 : Option Addr} {k1 : Nat} {A2 : Option Addr} {k2 : Nat} {W : World} (h : SB W0 q y A1 k1 A2 k2 W) : SB W0 q y A1 k1 A2 k2 W.drew := h.below (Below.refl _ _).drew
theorem SB.mk' {W0 W : World} (hb : Below W0.heap.size W0 W) (y : Tr) (A1 : Option Addr) (k1 : Nat) (A2 : Option Addr) (k2 : Nat) : SB W0 W.heap.size y A1 k1 A2 k2 (W.alloc (.cells #[.int .u64 ((y).num : Nat), .string (y).bs, .slice A1 (y).nl k1, .slice A2 (y).kl k2] 34)) := ⟨hb.alloc hb.size _, cell4_box W y A1 k1 A2 k2, by simp⟩

theorem sizes_S {W0 W : World} {bs os t bf of i LL ci kq b2 o2 j τ : Nat} {k : Int} {y z : Tr} {B1 : Option Addr} {k1 k2 : Nat} {A3 A4 : Option Addr} {k3 k4 : Nat} (hbs : bs < W0.heap.size) (hct : W0.cell? ⟨bs, os + t, none⟩ = some (.slice (some ⟨bf, of, none⟩) LL ci)) (hbf : bf < W0.heap.size) (hcf : W0.cell? ⟨bf, of + i * 2 + 1, none⟩ = some (.int .i64 k)) (hk : k = (τ : Int)) (hlt2 : b2 < W0.heap.size) (hz : Cell4 W0 b2 (o2 + j * 4) z A3 k3 A4 k4) (h : SB W0 kq y B1 k1 (some ⟨b2, o2, none⟩) k2 W) :
    W.cell? ⟨bs, os + t, none⟩ = some (.slice (some ⟨bf, of, none⟩) LL ci) ∧ W.cell? ⟨bf, of + i * 2 + 1, none⟩ = some (.int .i64 (τ : Int)) ∧ W.cell? ⟨kq, 3, none⟩ = some (.slice (some ⟨b2, o2, none⟩) y.kl k2) ∧ W.cell? ⟨b2, o2 + j * 4, none⟩ = some (.int .u64 (z.num : Nat)) ∧ W.cell? ⟨b2, o2 + j * 4 + 1, none⟩ = some (.string z.bs) ∧ W.cell? ⟨b2, o2 + j * 4 + 2, none⟩ = some (.slice A3 z.nl k3) ∧ W.cell? ⟨b2, o2 + j * 4 + 3, none⟩ = some (.slice A4 z.kl k4) ∧ SB W0 kq y B1 k1 (some ⟨b2, o2, none⟩) k2 W := by
  subst hk
  have hz' := hz.of_block (h.be.block b2 hlt2)
  exact ⟨(h.be.cell (p := ⟨bs, os + t, none⟩) hbs).trans hct, (h.be.cell (p := ⟨bf, of + i * 2 + 1, none⟩) hbf).trans hcf, h.box.c3, hz'.c0, hz'.c1, hz'.c2, hz'.c3, h⟩
set_option maxRecDepth 100000 in
set_option maxHeartbeats 8000000 in
theorem lawSizes_any (A1 : Option Addr) (L1 c1 : Nat) (A2 : Option Addr) (L2 c2 : Nat) (T : Int) (w : World) (hE : Cs.ErrT w) (hN1 : NumsAt w A1 L1 c1) (hN2 : NumsAt w A2 L2 c2) :
    Calls Tryd.prog 6 #[.agg #[.slice A1 L1 c1, .slice A2 L2 c2, .int .i64 T]] w fun e w' => e = .returned (.bool true) ∧ Below w.heap.size w w' := by
  have HE := Lib.hid hE
  have H1 := Lib.hid hN1
  have H2 := Lib.hid hN2
  clear hE hN1 hN2
  go_enter Tryd.func6, Tryd.ntmps6
  go_wp2_with fail
  refine (awake_any _ (HE.out.below ((Below.refl _ _).alloc (Nat.le_refl _) _))).mono ?_
  rintro e w1 ⟨rfl, hb⟩
  have HB1 := Lib.hid (Below.step (B := w.heap.size) (a := w) (by (repeat (first | with_reducible exact Below.refl _ _ | with_reducible refine Below.drew ?_ | (with_reducible refine Below.setCell ?_ ?side _; case side => exact (by first | (simp; done) | (simp; omega) | omega)) | (with_reducible refine Below.alloc ?_ ?side _; case side => exact (by first | (simp; done) | (simp; omega) | omega))))) hb (by first | (simp; done) | (simp; omega) | omega))
  have hr := (spec_row w A1 L1 c1 A2 L2 c2 T).of_block (hb.block _ (by simp))
  have b0 : w1.cell? ⟨w.heap.size, 0, none⟩ = some (.slice A1 L1 c1) := hr.cell (i := 0) (by omega)
  have b1 : w1.cell? ⟨w.heap.size, 1, none⟩ = some (.slice A2 L2 c2) := hr.cell (i := 1) (by omega)
  have b2 : w1.cell? ⟨w.heap.size, 2, none⟩ = some (.int .i64 T) := hr.cell (i := 2) (by omega)
  clear hr hb
  go_wp2_with fail
  clear b0 b1 b2
  refine (smade_any 3 4 A1 L1 c1 A2 L2 c2 T _ (H1.out.below HB1.out) (H2.out.below HB1.out) (by omega) (by omega) (by omega)).mono ?_
  rintro e w2 ⟨s, A, c, t, x, An, cn, Ak, ck, rfl, hQ⟩
  have K0 := Lib.hid (LW.of_made (cn := cn) (ck := ck) hQ HE.out HB1.out)
  have HSM := Lib.hid hQ.sm
  have HM := Lib.hid hQ.made
  have HR := Lib.hid hQ.right
  have H4 := Lib.hid hQ.four
  have ht := hQ.lt
  have hx5 := hQ.sm.le.2.2.2
  have HX : Hid (chkC s t x = 0) := Lib.hid (by rw [chkC_ok HR.out ht]; exact HM.out.chk (by omega))
  have hbig : wds true x + 22 ≤ 44 * 5 ^ 8 := wds_le HSM.out true
  have hw5 : (5 : Nat) ^ 8 = 390625 := by decide
  rw [hw5] at hbig
  clear hQ hw5
  go_wp2_with fail
  generalize w2.alloc (.cells #[.int .u64 ((x).num : Nat), .string (x).bs, .slice An (x).nl cn, .slice Ak (x).kl ck] 34) = W0 at K0 ⊢
  generalize w2.heap.size = q at K0 ⊢
  have hkl := HM.out.1.2.2.2
  have hl1 := (HR.out.2.2 t ht).1
  obtain ⟨b, off, rfl, -, hlt, hc⟩ := K0.out.tat.kids (by omega)
  obtain ⟨bs, os, rfl, hbs, hcs⟩ := K0.out.sat.some_ (by omega)
  obtain ⟨Ai, ci, hct, hfr⟩ := hcs t ht
  obtain ⟨bf, of, rfl, hbf, hcf⟩ := hfr.some_ (by omega)
  have HC := Lib.hid hc
  have HCF := Lib.hid hcf
  have HCT := Lib.hid hct
  have HKL := Lib.hid hkl
  obtain ⟨LL, HLL⟩ : ∃ LL, Hid (s.len t = LL) := ⟨_, Lib.hid rfl⟩
  rw [HLL.out] at HCT HCF HKL
  have hlq := K0.out.lt
  clear hc hcs hct hfr hcf hkl hl1
  obtain ⟨v0, v1, v2, v3⟩ := K0.out.all
  go_wp2
  clear v0 v1 v2 v3
  go_loopw [7, 8] (fun nv iv wr => ∃ i : Nat, i ≤ x.kl ∧ iv = .int .i64 i ∧ nv = .int .i64 ((1 + x.kl + sumN (fun i => wds false (x.kf i)) i : Nat) : Int) ∧ Hid (Below W0.heap.size W0 wr)) (fun _ iv _ => x.kl - (intOf iv).toNat)
  case atStart => exact ⟨0, by omega, rfl, int_v (by simp [sumN]), Lib.hid (Below.refl _ _)⟩
  case round =>
    obtain ⟨i, hi, rfl, rfl, HB⟩ := hrel
    have K1 := Lib.hid (K0.out.below HB.out)
    obtain ⟨v0, v1, v2, v3⟩ := K1.out.all
    have hl8 := K1.out.lt
    by_cases hi1 : i < x.kl
    · obtain ⟨B1, k1, B2, k2, h4, hty⟩ := HC.out i hi1
      obtain ⟨c0, c1', c2', c3⟩ := h4.of_block (HB.out.block b hlt)
      have HTY := Lib.hid hty
      have HFT := Lib.hid (HM.out.2 i hi1)
      have hyl := (HSM.out.kid hi1).le
      have hsb : sumN (fun i => wds false (x.kf i)) i + wds false (x.kf i) ≤ 20000000 := by
        have h1 := sum_room (c := fun i => wds false (x.kf i)) hi1
        have h2 := wds_true x
        try simp only at h1
        omega
      have HSUM : Hid (sumN (fun i => wds false (x.kf i)) (i + 1) = sumN (fun i => wds false (x.kf i)) i + wds false (x.kf i)) := Lib.hid rfl
      generalize sumN (fun i => wds false (x.kf i)) i = S at HSUM hsb ⊢
      have hil : i < LL := by rw [← HKL.out]; exact hi1
      obtain ⟨τ, HTT⟩ : ∃ τ, Hid ((s.t t i).toNat = τ) := ⟨_, Lib.hid rfl⟩
      have hils : i < s.len t := by rw [HLL.out]; exact hil
      have htl : τ < s.n := by rw [← HTT.out]; exact HR.out.tlt ht hils
      have HTV : Hid (s.t t i = (τ : Int)) := Lib.hid (by rw [← HTT.out]; have := HR.out.field ht hils; omega)
      have HMK := Lib.hid HFT.out.2.2.2.2.2.2
      rw [HTT.out] at HMK
      clear h4 hty
      obtain ⟨y, HY⟩ : ∃ y, Hid (x.kf i = y) := ⟨_, Lib.hid rfl⟩
      rw [HY.out] at c0 c1' c2' c3 HTY HMK hyl hsb HSUM
      obtain ⟨y1, y2, y3, y4⟩ := hyl
      have HWF := Lib.hid (wds_false y)
      obtain ⟨C, hC, HC2⟩ : ∃ C : Nat, ((y.bs.size : Int) + 7) / 8 = (C : Int) ∧ Hid (cnt y.bs.size = C) := ⟨cnt y.bs.size, by unfold cnt; omega, Lib.hid rfl⟩
      rw [HC2.out] at HWF
      have hC7 : C ≤ 8 := by omega
      go_wp2
      clear c0 c1' c2' c3 v0 v1 v2 v3 hC
      have KS := Lib.hid (SB.mk' HB.out y B1 k1 B2 k2)
      generalize wr.heap.size = kq at KS ⊢
      have hbd : ∀ j, j ≤ y.kl → S + C + y.nl + sumN (fun j => wds true (y.kf j)) j ≤ 20000000 := fun j hj => by
        have h1 := sumN_mono (f := fun j => wds true (y.kf j)) hj
        have h2 := HWF.out
        omega
      have HBD := Lib.hid hbd
      clear hbd hsb
      go_loopw [7, 10] (fun nv jv wr => ∃ j : Nat, j ≤ y.kl ∧ jv = .int .i64 j ∧ nv = .int .i64 ((1 + x.kl + S + C + y.nl + sumN (fun j => wds true (y.kf j)) j : Nat) : Int) ∧ Hid (SB W0 kq y B1 k1 B2 k2 wr)) (fun _ jv _ => y.kl - (intOf jv).toNat)
      case atStart => exact ⟨0, by omega, rfl, int_v (by simp [sumN]), KS⟩
      case round =>
        clear KS
        obtain ⟨j, hj, rfl, rfl, KS⟩ := hrel
        have u3 := KS.out.box.c3
        simp only [Nat.zero_add] at u3
        by_cases hj1 : j < y.kl
        · obtain ⟨b2, o2, rfl, -, hlt2, hc2⟩ := HTY.out.kids (by omega)
          obtain ⟨A3, k3, A4, k4, h4, htz⟩ := hc2 j hj1
          have HZ4 := Lib.hid h4
          have HTZ := Lib.hid htz
          have HMZ := Lib.hid (HMK.out j hj1)
          have HSZ : Hid (Sm (2 * 3) (y.kf j)) := Lib.hid (HMZ.out.sm (fun i hi => by have := H4.out i hi; omega) htl (fun i j hi hj => HR.out.tlt hi hj))
          have HCZ : Hid (sizeC s τ (y.kf j) = 1 + wds true (y.kf j)) := Lib.hid (if_pos (by rw [chkC_ok HR.out htl]; exact HMZ.out.chk (by omega)))
          have hbj := HBD.out (j + 1) (by omega)
          have HSJ : Hid (sumN (fun j => wds true (y.kf j)) (j + 1) = sumN (fun j => wds true (y.kf j)) j + wds true (y.kf j)) := Lib.hid rfl
          rw [HSJ.out] at hbj
          generalize sumN (fun j => wds true (y.kf j)) j = SJ at HSJ hbj ⊢
          obtain ⟨SZ, HSZV⟩ : ∃ SZ, Hid (sizeC s τ (y.kf j) = SZ) := ⟨_, Lib.hid rfl⟩
          rw [HSZV.out] at HCZ
          have hSZ : SZ ≤ 30000000 := by have := HCZ.out; omega
          have hSZ1 : 1 ≤ SZ := by have := HCZ.out; omega
          obtain ⟨z, HZZ⟩ : ∃ z, Hid (y.kf j = z) := ⟨_, Lib.hid rfl⟩
          rw [HZZ.out] at HZ4 HTZ HSZ HSZV HCZ HSJ hbj
          clear h4 htz hc2
          obtain ⟨P, HP⟩ : ∃ P, Hid (1 + x.kl + S + C + y.nl + SJ = P) := ⟨_, Lib.hid rfl⟩
          have hP : P ≤ 30000000 := by have := HP.out; omega
          rw [HP.out]
          have g0 : (0 : Int) ≤ (j : Int) := by omega
          have g1 : (0 : Int) ≤ (i : Int) := by omega
          have g2 : (0 : Int) ≤ (t : Int) := by omega
          have hw1 : IntKind.i64.wrap ((P : Int) + (SZ : Int)) = (P : Int) + (SZ : Int) := IntWalk.i64_in _ (by omega)
          have hw2 : IntKind.i64.wrap ((P : Int) + (SZ : Int) - 1) = (P : Int) + (SZ : Int) - 1 := IntWalk.i64_in _ (by omega)
          go_wp2_with fail
          clear u3
          go_region_held3 (fun w' => w'.cell? ⟨bs, os + t, none⟩ = some (.slice (some ⟨bf, of, none⟩) LL ci) ∧ w'.cell? ⟨bf, of + i * 2 + 1, none⟩ = some (.int .i64 (τ : Int)) ∧ w'.cell? ⟨kq, 3, none⟩ = some (.slice (some ⟨b2, o2, none⟩) y.kl k2) ∧ w'.cell? ⟨b2, o2 + j * 4, none⟩ = some (.int .u64 (z.num : Nat)) ∧ w'.cell? ⟨b2, o2 + j * 4 + 1, none⟩ = some (.string z.bs) ∧ w'.cell? ⟨b2, o2 + j * 4 + 2, none⟩ = some (.slice A3 z.nl k3) ∧ w'.cell? ⟨b2, o2 + j * 4 + 3, none⟩ = some (.slice A4 z.kl k4) ∧ SB W0 kq y B1 k1 (some ⟨b2, o2, none⟩) k2 w')
            (first | exact sizes_S hbs HCT.out hbf (HCF.out i hil).2 HTV.out hlt2 HZ4.out KS.out.drew | exact sizes_S hbs HCT.out hbf (HCF.out i hil).2 HTV.out hlt2 HZ4.out KS2.out | assumption)
            (first
              | (go_at_call 16; (with_reducible refine (tsize_any s _ c τ z A3 A4 k3 k4 3 _ (K0.out.sat.below KS.out.drew.be) HSZ.out (by omega) (HTZ.out.below KS.out.drew.be)).mono ?_); rintro e w3 ⟨rfl, hb⟩; have KS2 := Lib.hid (KS.out.drew.below hb); clear hb; rw [HSZV.out]))
          all_goals
            go_wp2
            go_roundw
            case rel => first | exact ⟨j + 1, by omega, by go_num, int_v (by have := HSJ.out; have := HCZ.out; have := HP.out; rw [HSJ.out]; omega), KS2⟩ | ((repeat apply Exists.intro); exact ⟨⟨j + 1, by omega, by go_num, int_v (by have := HSJ.out; have := HCZ.out; have := HP.out; rw [HSJ.out]; omega), KS2⟩, rfl⟩)
            case measure => simp [intOf]; omega
        · have e : j = y.kl := by omega
          subst e
          go_wp2
          go_roundw
          case rel => first | exact ⟨i + 1, by omega, by go_num, int_v (by rw [HSUM.out, HWF.out]; omega), Lib.hid KS.out.be⟩ | ((repeat apply Exists.intro); exact ⟨⟨i + 1, by omega, by go_num, int_v (by rw [HSUM.out, HWF.out]; omega), Lib.hid KS.out.be⟩, rfl⟩)
          case measure => simp [intOf]; omega
    · have e : i = x.kl := by omega
      subst e
      have HZ : Hid (sizeC s t x = 1 + x.kl + sumN (fun i => wds false (x.kf i)) x.kl) := Lib.hid (by rw [sizeC, if_pos HX.out, wds_true]; omega)
      obtain ⟨N, HN⟩ : ∃ N, Hid (1 + x.kl + sumN (fun i => wds false (x.kf i)) x.kl = N) := ⟨_, Lib.hid rfl⟩
      rw [HN.out] at HZ ⊢
      have HZ0 : Hid (sizeC s (s.n : Int) x = 0) := Lib.hid (by
        have h1 : chkC s (s.n : Int) x = 1 := if_neg fun h => by have := h.2; unfold hasT at this; omega
        rw [sizeC, if_neg (by omega)])
      have hdp := HM.out.deep
      have d4 : decide (((dp true x : Nat) : Int) ≤ 4) = true := decide_eq_true (by omega)
      have d4' : decide (dp true x ≤ 4) = true := decide_eq_true hdp
      have hdeep := tdeep_any x An (some ⟨b, off, none⟩) cn ck 4
      obtain ⟨DP, HDP⟩ : ∃ DP, Hid (dp true x = DP) := ⟨_, Lib.hid rfl⟩
      rw [HDP.out] at hdeep d4 d4' hdp
      have HDE := Lib.hid hdeep
      clear hdeep
      go_wp2_with fail
      clear v0 v1 v2 v3
      refine (tsize_any s _ c t x An _ cn ck 4 _ K1.out.sat HSM.out (by omega) K1.out.tat).mono ?_
      rintro e w3 ⟨rfl, hb⟩
      have K2 := Lib.hid (K1.out.below hb)
      clear hb
      rw [HZ.out]
      obtain ⟨v0, v1, v2, v3⟩ := K2.out.all
      go_wp2_with fail
      clear v0 v1 v2 v3
      refine (tcheck_any s _ c t x An _ cn ck _ _ K2.out.sat HSM.out K2.out.tat).mono ?_
      rintro e w4 ⟨rfl, hb⟩
      have K3 := Lib.hid (K2.out.below hb)
      clear hb
      rw [HX.out, errV_0]
      obtain ⟨v0, v1, v2, v3⟩ := K3.out.all
      go_wp2_with fail
      clear v0 v1 v2 v3
      refine (top_none _ K3.out.et).mono ?_
      rintro e w5 ⟨rfl, hb⟩
      have K4 := Lib.hid (K3.out.below hb)
      clear hb
      obtain ⟨v0, v1, v2, v3⟩ := K4.out.all
      go_wp2_with fail
      clear v0 v1 v2 v3
      refine (HDE.out _ HSM.out (by omega) K4.out.tat).mono ?_
      rintro e w6 ⟨rfl, hb⟩
      have K5 := Lib.hid (K4.out.below hb)
      clear hb
      obtain ⟨v0, v1, v2, v3⟩ := K5.out.all
      go_wp2_with fail
      clear v0 v1 v2 v3
      refine (tsize_any s _ c (s.n : Int) x An _ cn ck 4 _ K5.out.sat HSM.out (by omega) K5.out.tat).mono ?_
      rintro e w7 ⟨rfl, hb⟩
      have K6 := Lib.hid (K5.out.below hb)
      clear hb
      rw [HZ0.out]
      go_wp2
      go_ret
      exact ⟨rfl, K6.out.be⟩

end Go.Proofs.YtkjplbekccmdnaaDoor
