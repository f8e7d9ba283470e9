/- PoolNil: the law's walk. -/
import Derived.Test.YtkpffnihnhlghaaDoorOAwake
import Derived.Deep.DeepCutAuto
namespace Go.Proofs.YtkpffnihnhlghaaDoor
open Go.RowKit
theorem zeroO_not : rightB zeroC = false := rightB_false fun h => by have := h.b; simp [zeroC] at this
/-- The config in its box, the run, the arena. -/
structure NK (w wB : World) (q p c n : Nat) (x : Cfg) (qc : Nat) (t : TK) (y : St) (W : World) : Prop where
  th : TH wB q p c n x t y W
  cfg : CfgAt W qc x
  be : Below w.heap.size w W
theorem NK.below {w wB : World} {q p c n : Nat} {x : Cfg} {qc : Nat} {t : TK} {y : St} {W W' : World} (h : NK w wB q p c n x qc t y W) (hb : Below W.heap.size W W') : NK w wB q p c n x qc t y W' := ⟨h.th.below hb, h.cfg.below hb, Below.step h.be hb h.be.size⟩
theorem NK.of {w wB : World} {q p c n : Nat} {x : Cfg} {qc : Nat} {t : TK} {y : St} {W : World} (h : TH wB q p c n x t y W) (hc : CfgAt wB qc x) (h1 : qc ≠ q ∧ qc ≠ p ∧ qc ≠ c) (hb : Below w.heap.size w wB) (h2 : w.heap.size ≤ q ∧ w.heap.size ≤ p ∧ w.heap.size ≤ c) : NK w wB q p c n x qc t y W :=
  ⟨h, hc.of_block (h.onl.block _ hc.lt (by simp; omega)), onl_be hb h.onl (by intro k hk; simp at hk; omega)⟩
set_option maxRecDepth 100000 in
set_option maxHeartbeats 16000000 in
theorem lawNil_any (a0 a1 cls blk : Int) (w : World) (hL : Lim w) : Calls Tryd.prog 7 #[.agg #[.int .i64 a0, .int .i64 a1], .int .i64 cls, .int .i64 blk] w fun e w' => e = .returned (.bool true) ∧ Below w.heap.size w w' := by
  have HL := Lib.hid hL
  have hg := glim_lt hL
  clear hL
  have HQ0 : Hid (ArrAt (w.alloc (.cells #[.int .i64 a0, .int .i64 a1] 54)) w.heap.size 54 #[.int .i64 a0, .int .i64 a1]) := Lib.hid (arrAt_box w _ _)
  have x0 := World.rowIs.cell HQ0.out (i := 0) (by simp)
  have x1 := World.rowIs.cell HQ0.out (i := 1) (by simp)
  have HB0 := Lib.hid (show Below w.heap.size w (w.alloc (.cells #[.int .i64 a0, .int .i64 a1] 54)) from ((Below.refl _ _).alloc (Nat.le_refl _) _))
  go_enter Tryd.func7, Tryd.ntmps7
  go_wp2_with fail
  generalize w.alloc (.cells #[.int .i64 a0, .int .i64 a1] 54) = W0 at HQ0 HB0 x0 x1 ⊢
  clear x0 x1 HQ0
  refine (cfg11_any a0 a1 _).mono ?_
  rintro e w1 ⟨x, rfl, hr, -, -, hn0, hn1, hb⟩
  have HR := Lib.hid hr
  have HB1 := Lib.hid (Below.step HB0.out hb HB0.out.size)
  obtain ⟨N, hN⟩ : ∃ N : Nat, sizeC x = (N : Int) := ⟨(sizeC x).toNat, by have := hr.sizes; omega⟩
  have HNN := Lib.hid hN
  have N1 : 7 ≤ N := by have := hr.sizes; omega
  have N2 : N ≤ 2869 := by have := hr.sizes; omega
  have hxb := hr.b
  have hm0 : 0 ≤ x.n0 := by omega
  have hm1 : 0 ≤ x.n1 := by omega
  clear hr hb hN HB0 hxb
  have hcb := cfgAt_box w1 x
  have HB1' := Lib.hid (HB1.out.alloc HB1.out.size (.cells #[.int .i64 x.t, .int .i64 x.s, .int .i64 x.l, .int .i64 x.c, .int .i64 x.s0, .int .i64 x.n0, .int .i64 x.s1, .int .i64 x.n1, .int .i64 x.r] 60))
  obtain ⟨c0, c1, c2, c3, c4, c5, c6, c7, c8⟩ := hcb.cells
  have HCB := Lib.hid hcb
  have hsz1 := HB1.out.size
  clear hcb
  go_wp2_with fail
  generalize w1.alloc (.cells #[.int .i64 x.t, .int .i64 x.s, .int .i64 x.l, .int .i64 x.c, .int .i64 x.s0, .int .i64 x.n0, .int .i64 x.s1, .int .i64 x.n1, .int .i64 x.r] 60) = Wa at HCB HB1' c0 c1 c2 c3 c4 c5 c6 c7 c8 ⊢
  generalize w1.heap.size = qc at HCB hsz1 c0 c1 c2 c3 c4 c5 c6 c7 c8 ⊢
  refine (make_yes x N _ (HL.out.below HB1'.out) HR.out HNN.out).mono ?_
  rintro e w2 ⟨p, c, y0, rfl, hA, hy, hs, hp, hc, hb⟩
  have HB2 := Lib.hid (Below.step HB1'.out hb HB1'.out.size)
  have HC2 := Lib.hid (HCB.out.below hb)
  have HA := Lib.hid hA
  have HY := Lib.hid hy
  have hqcl := HCB.out.lt
  have hsz := HB1'.out.size
  have hpw : w.heap.size ≤ p := by omega
  have hcw : w.heap.size ≤ c := by omega
  have hqp : qc ≠ p := by omega
  have hqq : qc ≠ c := by omega
  have hs0 : 0 ≤ y0.s := by rw [hs]; exact (nz_bound _ _).1
  have hs0b : y0.s < 3000 := by rw [hs]; have := (nz_bound (wordsC x) N).2; omega
  have hpl : p < w2.heap.size := hA.obj.lt
  have hcl : c < w2.heap.size := hA.row.lt
  obtain ⟨m, hm⟩ : ∃ m, y0.s = m := ⟨_, rfl⟩
  have HST : Hid (∀ W : World, ArS W p c N y0 → Calls Tryd.prog 33 #[.pointer (some ⟨p, 0, none⟩)] W fun e W' => e = .returned (.int .i64 m) ∧ W = W') := Lib.hid fun W h => by rw [← hm]; exact steps_any W p c N y0 h
  clear hA hy hs hp hc hb HCB HB1' c0 c1 c2 c3 c4 c5 c6 c7 c8
  obtain ⟨c0, c1, c2, c3, c4, c5, c6, c7, c8⟩ := HC2.out.cells
  go_wp2_with fail
  refine (HST.out _ HA.out).mono ?_
  rintro e w3 ⟨rfl, rfl⟩
  go_wp2_with fail
  refine (otstep_nil _ _).mono ?_
  rintro e w3 ⟨rfl, rfl⟩
  go_wp2_with fail
  refine (otdone_nil _).mono ?_
  rintro e w3 ⟨rfl, rfl⟩
  go_wp2_with fail
  refine (otblock_nil _).mono ?_
  rintro e w3 ⟨rfl, rfl⟩
  go_wp2_with fail
  refine (ogstep_nil _ _).mono ?_
  rintro e w3 ⟨rfl, rfl⟩
  go_wp2_with fail
  refine (ogdone_nil _).mono ?_
  rintro e w3 ⟨rfl, rfl⟩
  go_wp2_with fail
  refine (HST.out _ HA.out).mono ?_
  rintro e w3 ⟨rfl, rfl⟩
  go_upto_region 9 with (fail)
  obtain ⟨isB, hisB⟩ : ∃ b : Bool, decide (1 ≤ blk ∧ blk ≤ x.n0 + x.n1) = b := ⟨_, rfl⟩
  have HIS := Lib.hid hisB
  have KA : Hid (ArS w2 p c N y0 ∧ CfgAt w2 qc x ∧ Below w.heap.size w w2) := Lib.hid ⟨HA.out, HC2.out, HB2.out⟩
  clear hisB HA HC2 HB2
  go_cut [14] (fun v wc => v = .bool isB ∧ Hid (ArS wc p c N y0 ∧ CfgAt wc qc x ∧ Below w.heap.size w wc ∧ w2.heap.size ≤ wc.heap.size))
  case first =>
    by_cases h1 : 1 ≤ blk
    · have g1 : decide (blk < 1) = false := by simp; omega
      have g2 : decide (1 ≤ blk) = true := decide_eq_true h1
      go_wp2_with fail
      refine (r4Blocks_any x _ (by omega) (by omega) (by omega) (by omega)).mono ?_
      rintro e w3 ⟨rfl, hb⟩
      have HI2 : Hid (decide (blk ≤ x.n0 + x.n1) = isB) := Lib.hid (by rw [← HIS.out]; simp [h1])
      have K3 := Lib.hid (show ArS w3 p c N y0 ∧ CfgAt w3 qc x ∧ Below w.heap.size w w3 ∧ w2.heap.size ≤ w3.heap.size from ⟨Ar.below KA.out.1 hb hpl hcl, KA.out.2.1.below hb, Below.step KA.out.2.2 hb KA.out.2.2.size, hb.size⟩)
      clear hb
      go_wp2
      go_meet
      case rel => exact ⟨by rw [← HI2.out], K3⟩
    · have g1 : decide (blk < 1) = true := by simp; omega
      have g2 : decide (1 ≤ blk) = false := decide_eq_false h1
      have HI2 : Hid (isB = false) := Lib.hid (by rw [← HIS.out]; simp [h1])
      go_wp2
      go_meet
      case rel => exact ⟨by rw [HI2.out], Lib.hid ⟨KA.out.1, KA.out.2.1, KA.out.2.2, Nat.le_refl _⟩⟩
  case rest =>
  obtain ⟨rfl, KB⟩ := hcut
  rename World => w3
  have hz3 := KB.out.2.2.2
  clear KA c0 c1 c2 c3 c4 c5 c6 c7 c8
  obtain ⟨c0, c1, c2, c3, c4, c5, c6, c7, c8⟩ := KB.out.2.1.cells
  go_wp2_with fail
  refine (newtake_any x 1 (by omega) _ (HL.out.below KB.out.2.2.1) HR.out).mono ?_
  rintro e wB ⟨q, rfl, hq, hT, hb⟩
  have HBB := Lib.hid (Below.step KB.out.2.2.1 hb KB.out.2.2.1.size)
  have HCB := Lib.hid (KB.out.2.1.below hb)
  have hqw : w.heap.size ≤ q := by have := KB.out.2.2.1.size; omega
  have hqq2 : qc ≠ q := by have := KB.out.2.1.lt; omega
  have HT0 : Hid (TH wB q p c N x (tk0 1) y0 wB) := Lib.hid ⟨hT, Ar.below KB.out.1 hb (by omega) (by omega), HL.out.below HBB.out, OnlS.refl _ _, by omega, by omega, by omega, by omega, by omega⟩
  have HOK0 := Lib.hid (made_okw HR.out HY.out)
  have HK0 : Hid (TkOk 1 (tk0 1)) := Lib.hid ⟨rfl, by show 0 < _; omega, by show 1 ≤ 3; omega⟩
  clear hT hb hq KB c0 c1 c2 c3 c4 c5 c6 c7 c8
  go_wp2_with fail
  go_loopw [16] (fun iv wr => ∃ (i : Nat) (t : TK) (y : St), i ≤ 9 ∧ iv = .int .i64 i ∧ Hid (TH wB q p c N x t y wr) ∧ Hid (TkOk 1 t) ∧ Hid (OkW y N) ∧ Hid (Stg N 1 m i t y)) (fun iv _ => 9 - (intOf iv).toNat)
  case atStart => exact ⟨0, tk0 1, y0, by omega, rfl, HT0, HK0, HOK0, Lib.hid (.inr (.inl ⟨rfl, rfl, hm⟩))⟩
  case round =>
    clear HT0 HK0 HOK0
    obtain ⟨i, t, y, hi, rfl, K, HK, HOK, HSG⟩ := hrel
    have hyb : m ≤ y.s ∧ y.s ≤ m + 3 := by rcases HSG.out with ⟨-, h1, h2⟩ | ⟨-, -, h1⟩ | ⟨-, -, h1, -⟩ | ⟨-, -, h1, -⟩ <;> omega
    by_cases hin : i < 9
    · have g0 : (i : Int) < 9 := by omega
      obtain ⟨T, hT⟩ : ∃ T, tkNext x N t y = T := ⟨_, rfl⟩
      have HT := Lib.hid hT
      go_wp2_with fail
      refine (otstep_any wB q p c N x HR.out t y HK.out.k (by rw [HK.out.C]; omega) (by omega) (by omega) HK.out.X HOK.out _ K.out).mono ?_
      rintro e w5 ⟨rfl, hK⟩
      rw [hT] at hK ⊢
      have K2 := Lib.hid hK
      have HK2 : Hid (TkOk 1 T.1) := Lib.hid (by rw [← hT]; exact HK.out.next x HOK.out)
      have HOK2 : Hid (OkW T.2 N) := Lib.hid (by rw [← hT]; exact HOK.out.tk x _)
      have HSG2 : Hid (Stg N 1 m (i + 1) T.1 T.2) := Lib.hid (by rw [← hT]; exact HSG.out.next (by omega) (by omega) HK.out HOK.out)
      clear hK K HK HOK HSG hT
      go_wp2_with fail
      go_roundw
      case rel => first | exact ⟨i + 1, T.1, T.2, by omega, by go_num, K2, HK2, HOK2, HSG2⟩ | ((repeat apply Exists.intro); exact ⟨⟨i + 1, T.1, T.2, by omega, by go_num, K2, HK2, HOK2, HSG2⟩, rfl⟩)
      case measure => simp [intOf]; omega
    · have g0 : ¬ (i : Int) < 9 := by omega
      obtain ⟨hk0, hsm, hms⟩ : t.k = 0 ∧ y.s ≤ m + 3 ∧ m ≤ y.s := by rcases HSG.out with h1 | ⟨-, h1, -⟩ | ⟨-, h1, -⟩ | ⟨-, h1, -⟩ <;> first | exact h1 | omega
      have HE : Hid (tkNext x N t y = (t, y)) := Lib.hid (by unfold tkNext; rw [hk0]; rfl)
      obtain ⟨m2, hm2⟩ : ∃ m2, y.s = m2 := ⟨_, rfl⟩
      have HST2 : Hid (∀ W : World, ArS W p c N y → Calls Tryd.prog 33 #[.pointer (some ⟨p, 0, none⟩)] W fun e W' => e = .returned (.int .i64 m2) ∧ W = W') := Lib.hid fun W h => by rw [← hm2]; exact steps_any W p c N y h
      have HKK := Lib.hid hk0
      have hd3 : decide (m2 - m ≤ 3) = true := by simp; omega
      have hd3' : m2 - m ≤ 3 := by omega
      have hwd : IntKind.i64.wrap (m2 - m) = m2 - m := IntWalk.i64_in _ (by omega)
      have hwd2 : wrap64 (m2 - m) = m2 - m := by unfold wrap64; omega
      have hd4 : decide (3 < m2 - m) = false := by simp; omega
      clear hk0
      go_wp2_with fail
      refine (HST2.out _ K.out.ar).mono ?_
      rintro e w6 ⟨rfl, rfl⟩
      have KN := Lib.hid (NK.of K.out HCB.out ⟨hqq2, hqp, hqq⟩ HBB.out ⟨hqw, hpw, hcw⟩)
      go_wp2_with fail
      refine (awake11_any _ K.out.lim).mono ?_
      rintro e w7 ⟨rfl, hb⟩
      replace KN := Lib.hid (KN.out.below hb)
      clear hb K
      obtain ⟨c0, c1, c2, c3, c4, c5, c6, c7, c8⟩ := KN.out.cfg.cells
      by_cases h0 : cls = 0
      · subst h0
        go_wp2_with fail
        refine (newtake_any x 0 (by omega) _ KN.out.th.lim HR.out).mono ?_
        rintro e v1 ⟨q1, rfl, -, -, hb⟩
        replace KN := Lib.hid (KN.out.below hb)
        clear hb c0 c1 c2 c3 c4 c5 c6 c7 c8
        obtain ⟨c0, c1, c2, c3, c4, c5, c6, c7, c8⟩ := KN.out.cfg.cells
        by_cases hbk : 1 ≤ blk ∧ blk ≤ x.n0 + x.n1
        · have hB : isB = true := by rw [← HIS.out]; simpa using hbk
          subst hB
          go_wp2_with fail
          refine (newgive_any x blk (classC x blk) (blockC x blk) rfl (by unfold classC; rw [if_neg (by omega)]; split <;> omega) rfl _ KN.out.th.lim HR.out).mono ?_
          rintro e v2 ⟨q2, rfl, -, -, hb⟩
          replace KN := Lib.hid (KN.out.below hb)
          clear hb c0 c1 c2 c3 c4 c5 c6 c7 c8
          obtain ⟨c0, c1, c2, c3, c4, c5, c6, c7, c8⟩ := KN.out.cfg.cells
          go_wp2_with fail
          refine (newtake_no zeroC 0 _ KN.out.th.lim zeroO_not).mono ?_
          rintro e v3 ⟨rfl, hb⟩
          replace KN := Lib.hid (KN.out.below hb)
          clear hb c0 c1 c2 c3 c4 c5 c6 c7 c8
          obtain ⟨c0, c1, c2, c3, c4, c5, c6, c7, c8⟩ := KN.out.cfg.cells
          go_wp2_with fail
          refine (newgive_nil zeroC 1 (-1) (by omega) _ fun W hb => class_no zeroC 1 (by omega) W (KN.out.th.lim.below hb) zeroO_not).mono ?_
          rintro e v4 ⟨rfl, hb⟩
          replace KN := Lib.hid (KN.out.below hb)
          clear hb c0 c1 c2 c3 c4 c5 c6 c7 c8
          obtain ⟨c0, c1, c2, c3, c4, c5, c6, c7, c8⟩ := KN.out.cfg.cells
          have d13 := World.rowIs.cell KN.out.th.ta (i := 13) (by omega)
          replace d13 : v4.cell? ⟨q, 13, none⟩ = some .nilFunc := d13.trans (by show some (nextV q t.k) = _; rw [HKK.out]; rfl)
          go_wp2_with fail
          refine (otdone_none _ q d13).mono ?_
          rintro e v5 ⟨rfl, rfl⟩
          clear d13
          go_wp2_with fail
          refine (otstep_any wB q p c N x HR.out t y HK.out.k (by rw [HK.out.C]; omega) (by omega) (by omega) HK.out.X HOK.out _ KN.out.th).mono ?_
          rintro e v6 ⟨rfl, hK⟩
          rw [HE.out] at hK ⊢
          have hke : decide (t.k = 0) = true := decide_eq_true HKK.out
          rw [show decide ((t, y).1.k = 0) = true from hke]
          have KF := Lib.hid hK
          clear hK hke c0 c1 c2 c3 c4 c5 c6 c7 c8
          go_wp2_with fail
          refine (HST2.out _ KF.out.ar).mono ?_
          rintro e v7 ⟨rfl, rfl⟩
          go_wp2
          go_ret
          exact ⟨rfl, onl_be HBB.out KF.out.onl (by intro k hk; simp at hk; omega)⟩
        · have hB : isB = false := by rw [← HIS.out]; simpa using hbk
          subst hB
          go_wp2_with fail
          refine (newgive_nil x blk (-1) (by omega) _ fun W hb => by
            have h := class_any x blk W (KN.out.th.lim.below hb) HR.out
            rw [class_out (by omega)] at h
            exact h).mono ?_
          rintro e v2 ⟨rfl, hb⟩
          replace KN := Lib.hid (KN.out.below hb)
          clear hb c0 c1 c2 c3 c4 c5 c6 c7 c8
          obtain ⟨c0, c1, c2, c3, c4, c5, c6, c7, c8⟩ := KN.out.cfg.cells
          go_wp2_with fail
          refine (newtake_no zeroC 0 _ KN.out.th.lim zeroO_not).mono ?_
          rintro e v3 ⟨rfl, hb⟩
          replace KN := Lib.hid (KN.out.below hb)
          clear hb c0 c1 c2 c3 c4 c5 c6 c7 c8
          obtain ⟨c0, c1, c2, c3, c4, c5, c6, c7, c8⟩ := KN.out.cfg.cells
          go_wp2_with fail
          refine (newgive_nil zeroC 1 (-1) (by omega) _ fun W hb => class_no zeroC 1 (by omega) W (KN.out.th.lim.below hb) zeroO_not).mono ?_
          rintro e v4 ⟨rfl, hb⟩
          replace KN := Lib.hid (KN.out.below hb)
          clear hb c0 c1 c2 c3 c4 c5 c6 c7 c8
          obtain ⟨c0, c1, c2, c3, c4, c5, c6, c7, c8⟩ := KN.out.cfg.cells
          have d13 := World.rowIs.cell KN.out.th.ta (i := 13) (by omega)
          replace d13 : v4.cell? ⟨q, 13, none⟩ = some .nilFunc := d13.trans (by show some (nextV q t.k) = _; rw [HKK.out]; rfl)
          go_wp2_with fail
          refine (otdone_none _ q d13).mono ?_
          rintro e v5 ⟨rfl, rfl⟩
          clear d13
          go_wp2_with fail
          refine (otstep_any wB q p c N x HR.out t y HK.out.k (by rw [HK.out.C]; omega) (by omega) (by omega) HK.out.X HOK.out _ KN.out.th).mono ?_
          rintro e v6 ⟨rfl, hK⟩
          rw [HE.out] at hK ⊢
          have hke : decide (t.k = 0) = true := decide_eq_true HKK.out
          rw [show decide ((t, y).1.k = 0) = true from hke]
          have KF := Lib.hid hK
          clear hK hke c0 c1 c2 c3 c4 c5 c6 c7 c8
          go_wp2_with fail
          refine (HST2.out _ KF.out.ar).mono ?_
          rintro e v7 ⟨rfl, rfl⟩
          go_wp2
          go_ret
          exact ⟨rfl, onl_be HBB.out KF.out.onl (by intro k hk; simp at hk; omega)⟩
      by_cases h1 : cls = 1
      · subst h1
        go_wp2_with fail
        refine (newtake_any x 1 (by omega) _ KN.out.th.lim HR.out).mono ?_
        rintro e v1 ⟨q1, rfl, -, -, hb⟩
        replace KN := Lib.hid (KN.out.below hb)
        clear hb c0 c1 c2 c3 c4 c5 c6 c7 c8
        obtain ⟨c0, c1, c2, c3, c4, c5, c6, c7, c8⟩ := KN.out.cfg.cells
        by_cases hbk : 1 ≤ blk ∧ blk ≤ x.n0 + x.n1
        · have hB : isB = true := by rw [← HIS.out]; simpa using hbk
          subst hB
          go_wp2_with fail
          refine (newgive_any x blk (classC x blk) (blockC x blk) rfl (by unfold classC; rw [if_neg (by omega)]; split <;> omega) rfl _ KN.out.th.lim HR.out).mono ?_
          rintro e v2 ⟨q2, rfl, -, -, hb⟩
          replace KN := Lib.hid (KN.out.below hb)
          clear hb c0 c1 c2 c3 c4 c5 c6 c7 c8
          obtain ⟨c0, c1, c2, c3, c4, c5, c6, c7, c8⟩ := KN.out.cfg.cells
          go_wp2_with fail
          refine (newtake_no zeroC 0 _ KN.out.th.lim zeroO_not).mono ?_
          rintro e v3 ⟨rfl, hb⟩
          replace KN := Lib.hid (KN.out.below hb)
          clear hb c0 c1 c2 c3 c4 c5 c6 c7 c8
          obtain ⟨c0, c1, c2, c3, c4, c5, c6, c7, c8⟩ := KN.out.cfg.cells
          go_wp2_with fail
          refine (newgive_nil zeroC 1 (-1) (by omega) _ fun W hb => class_no zeroC 1 (by omega) W (KN.out.th.lim.below hb) zeroO_not).mono ?_
          rintro e v4 ⟨rfl, hb⟩
          replace KN := Lib.hid (KN.out.below hb)
          clear hb c0 c1 c2 c3 c4 c5 c6 c7 c8
          obtain ⟨c0, c1, c2, c3, c4, c5, c6, c7, c8⟩ := KN.out.cfg.cells
          have d13 := World.rowIs.cell KN.out.th.ta (i := 13) (by omega)
          replace d13 : v4.cell? ⟨q, 13, none⟩ = some .nilFunc := d13.trans (by show some (nextV q t.k) = _; rw [HKK.out]; rfl)
          go_wp2_with fail
          refine (otdone_none _ q d13).mono ?_
          rintro e v5 ⟨rfl, rfl⟩
          clear d13
          go_wp2_with fail
          refine (otstep_any wB q p c N x HR.out t y HK.out.k (by rw [HK.out.C]; omega) (by omega) (by omega) HK.out.X HOK.out _ KN.out.th).mono ?_
          rintro e v6 ⟨rfl, hK⟩
          rw [HE.out] at hK ⊢
          have hke : decide (t.k = 0) = true := decide_eq_true HKK.out
          rw [show decide ((t, y).1.k = 0) = true from hke]
          have KF := Lib.hid hK
          clear hK hke c0 c1 c2 c3 c4 c5 c6 c7 c8
          go_wp2_with fail
          refine (HST2.out _ KF.out.ar).mono ?_
          rintro e v7 ⟨rfl, rfl⟩
          go_wp2
          go_ret
          exact ⟨rfl, onl_be HBB.out KF.out.onl (by intro k hk; simp at hk; omega)⟩
        · have hB : isB = false := by rw [← HIS.out]; simpa using hbk
          subst hB
          go_wp2_with fail
          refine (newgive_nil x blk (-1) (by omega) _ fun W hb => by
            have h := class_any x blk W (KN.out.th.lim.below hb) HR.out
            rw [class_out (by omega)] at h
            exact h).mono ?_
          rintro e v2 ⟨rfl, hb⟩
          replace KN := Lib.hid (KN.out.below hb)
          clear hb c0 c1 c2 c3 c4 c5 c6 c7 c8
          obtain ⟨c0, c1, c2, c3, c4, c5, c6, c7, c8⟩ := KN.out.cfg.cells
          go_wp2_with fail
          refine (newtake_no zeroC 0 _ KN.out.th.lim zeroO_not).mono ?_
          rintro e v3 ⟨rfl, hb⟩
          replace KN := Lib.hid (KN.out.below hb)
          clear hb c0 c1 c2 c3 c4 c5 c6 c7 c8
          obtain ⟨c0, c1, c2, c3, c4, c5, c6, c7, c8⟩ := KN.out.cfg.cells
          go_wp2_with fail
          refine (newgive_nil zeroC 1 (-1) (by omega) _ fun W hb => class_no zeroC 1 (by omega) W (KN.out.th.lim.below hb) zeroO_not).mono ?_
          rintro e v4 ⟨rfl, hb⟩
          replace KN := Lib.hid (KN.out.below hb)
          clear hb c0 c1 c2 c3 c4 c5 c6 c7 c8
          obtain ⟨c0, c1, c2, c3, c4, c5, c6, c7, c8⟩ := KN.out.cfg.cells
          have d13 := World.rowIs.cell KN.out.th.ta (i := 13) (by omega)
          replace d13 : v4.cell? ⟨q, 13, none⟩ = some .nilFunc := d13.trans (by show some (nextV q t.k) = _; rw [HKK.out]; rfl)
          go_wp2_with fail
          refine (otdone_none _ q d13).mono ?_
          rintro e v5 ⟨rfl, rfl⟩
          clear d13
          go_wp2_with fail
          refine (otstep_any wB q p c N x HR.out t y HK.out.k (by rw [HK.out.C]; omega) (by omega) (by omega) HK.out.X HOK.out _ KN.out.th).mono ?_
          rintro e v6 ⟨rfl, hK⟩
          rw [HE.out] at hK ⊢
          have hke : decide (t.k = 0) = true := decide_eq_true HKK.out
          rw [show decide ((t, y).1.k = 0) = true from hke]
          have KF := Lib.hid hK
          clear hK hke c0 c1 c2 c3 c4 c5 c6 c7 c8
          go_wp2_with fail
          refine (HST2.out _ KF.out.ar).mono ?_
          rintro e v7 ⟨rfl, rfl⟩
          go_wp2
          go_ret
          exact ⟨rfl, onl_be HBB.out KF.out.onl (by intro k hk; simp at hk; omega)⟩
      have d0 : (cls == 0) = false := by simpa using h0
      have d1 : (cls == 1) = false := by simpa using h1
      go_wp2_with fail
      refine (newtake_out x cls (by omega) _ KN.out.th.lim HR.out).mono ?_
      rintro e v1 ⟨rfl, hb⟩
      replace KN := Lib.hid (KN.out.below hb)
      clear hb c0 c1 c2 c3 c4 c5 c6 c7 c8
      obtain ⟨c0, c1, c2, c3, c4, c5, c6, c7, c8⟩ := KN.out.cfg.cells
      by_cases hbk : 1 ≤ blk ∧ blk ≤ x.n0 + x.n1
      · have hB : isB = true := by rw [← HIS.out]; simpa using hbk
        subst hB
        go_wp2_with fail
        refine (newgive_any x blk (classC x blk) (blockC x blk) rfl (by unfold classC; rw [if_neg (by omega)]; split <;> omega) rfl _ KN.out.th.lim HR.out).mono ?_
        rintro e v2 ⟨q2, rfl, -, -, hb⟩
        replace KN := Lib.hid (KN.out.below hb)
        clear hb c0 c1 c2 c3 c4 c5 c6 c7 c8
        obtain ⟨c0, c1, c2, c3, c4, c5, c6, c7, c8⟩ := KN.out.cfg.cells
        go_wp2_with fail
        refine (newtake_no zeroC 0 _ KN.out.th.lim zeroO_not).mono ?_
        rintro e v3 ⟨rfl, hb⟩
        replace KN := Lib.hid (KN.out.below hb)
        clear hb c0 c1 c2 c3 c4 c5 c6 c7 c8
        obtain ⟨c0, c1, c2, c3, c4, c5, c6, c7, c8⟩ := KN.out.cfg.cells
        go_wp2_with fail
        refine (newgive_nil zeroC 1 (-1) (by omega) _ fun W hb => class_no zeroC 1 (by omega) W (KN.out.th.lim.below hb) zeroO_not).mono ?_
        rintro e v4 ⟨rfl, hb⟩
        replace KN := Lib.hid (KN.out.below hb)
        clear hb c0 c1 c2 c3 c4 c5 c6 c7 c8
        obtain ⟨c0, c1, c2, c3, c4, c5, c6, c7, c8⟩ := KN.out.cfg.cells
        have d13 := World.rowIs.cell KN.out.th.ta (i := 13) (by omega)
        replace d13 : v4.cell? ⟨q, 13, none⟩ = some .nilFunc := d13.trans (by show some (nextV q t.k) = _; rw [HKK.out]; rfl)
        go_wp2_with fail
        refine (otdone_none _ q d13).mono ?_
        rintro e v5 ⟨rfl, rfl⟩
        clear d13
        go_wp2_with fail
        refine (otstep_any wB q p c N x HR.out t y HK.out.k (by rw [HK.out.C]; omega) (by omega) (by omega) HK.out.X HOK.out _ KN.out.th).mono ?_
        rintro e v6 ⟨rfl, hK⟩
        rw [HE.out] at hK ⊢
        have hke : decide (t.k = 0) = true := decide_eq_true HKK.out
        rw [show decide ((t, y).1.k = 0) = true from hke]
        have KF := Lib.hid hK
        clear hK hke c0 c1 c2 c3 c4 c5 c6 c7 c8
        go_wp2_with fail
        refine (HST2.out _ KF.out.ar).mono ?_
        rintro e v7 ⟨rfl, rfl⟩
        go_wp2
        go_ret
        exact ⟨rfl, onl_be HBB.out KF.out.onl (by intro k hk; simp at hk; omega)⟩
      · have hB : isB = false := by rw [← HIS.out]; simpa using hbk
        subst hB
        go_wp2_with fail
        refine (newgive_nil x blk (-1) (by omega) _ fun W hb => by
          have h := class_any x blk W (KN.out.th.lim.below hb) HR.out
          rw [class_out (by omega)] at h
          exact h).mono ?_
        rintro e v2 ⟨rfl, hb⟩
        replace KN := Lib.hid (KN.out.below hb)
        clear hb c0 c1 c2 c3 c4 c5 c6 c7 c8
        obtain ⟨c0, c1, c2, c3, c4, c5, c6, c7, c8⟩ := KN.out.cfg.cells
        go_wp2_with fail
        refine (newtake_no zeroC 0 _ KN.out.th.lim zeroO_not).mono ?_
        rintro e v3 ⟨rfl, hb⟩
        replace KN := Lib.hid (KN.out.below hb)
        clear hb c0 c1 c2 c3 c4 c5 c6 c7 c8
        obtain ⟨c0, c1, c2, c3, c4, c5, c6, c7, c8⟩ := KN.out.cfg.cells
        go_wp2_with fail
        refine (newgive_nil zeroC 1 (-1) (by omega) _ fun W hb => class_no zeroC 1 (by omega) W (KN.out.th.lim.below hb) zeroO_not).mono ?_
        rintro e v4 ⟨rfl, hb⟩
        replace KN := Lib.hid (KN.out.below hb)
        clear hb c0 c1 c2 c3 c4 c5 c6 c7 c8
        obtain ⟨c0, c1, c2, c3, c4, c5, c6, c7, c8⟩ := KN.out.cfg.cells
        have d13 := World.rowIs.cell KN.out.th.ta (i := 13) (by omega)
        replace d13 : v4.cell? ⟨q, 13, none⟩ = some .nilFunc := d13.trans (by show some (nextV q t.k) = _; rw [HKK.out]; rfl)
        go_wp2_with fail
        refine (otdone_none _ q d13).mono ?_
        rintro e v5 ⟨rfl, rfl⟩
        clear d13
        go_wp2_with fail
        refine (otstep_any wB q p c N x HR.out t y HK.out.k (by rw [HK.out.C]; omega) (by omega) (by omega) HK.out.X HOK.out _ KN.out.th).mono ?_
        rintro e v6 ⟨rfl, hK⟩
        rw [HE.out] at hK ⊢
        have hke : decide (t.k = 0) = true := decide_eq_true HKK.out
        rw [show decide ((t, y).1.k = 0) = true from hke]
        have KF := Lib.hid hK
        clear hK hke c0 c1 c2 c3 c4 c5 c6 c7 c8
        go_wp2_with fail
        refine (HST2.out _ KF.out.ar).mono ?_
        rintro e v7 ⟨rfl, rfl⟩
        go_wp2
        go_ret
        exact ⟨rfl, onl_be HBB.out KF.out.onl (by intro k hk; simp at hk; omega)⟩

end Go.Proofs.YtkpffnihnhlghaaDoor
