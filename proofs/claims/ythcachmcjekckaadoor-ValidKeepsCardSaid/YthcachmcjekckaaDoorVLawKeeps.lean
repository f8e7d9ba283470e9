/- ValidKeeps: the law's walk. -/
import Derived.Test.YthcachmcjekckaaDoorVKeepM
namespace Go.Proofs.YthcachmcjekckaaDoor
open Go.ChangeShapes Go.WideShapes Go.ChangeAt Go.RowKit
set_option maxRecDepth 100000 in
set_option maxHeartbeats 4000000 in
theorem lawKeeps_any (A1 : Option Addr) (L1 c1 : Nat) (A2 : Option Addr) (L2 c2 : Nat) (T : Int) (wd : Nat) (hwd : wd < 18446744073709551616) (w : World) (hE : Cs.ErrT w) (hN1 : NumsAt w A1 L1 c1) (hN2 : NumsAt w A2 L2 c2) :
    Calls Tryd.prog 7 #[.agg #[.slice A1 L1 c1, .slice A2 L2 c2, .int .i64 T], .int .u64 (wd : Nat)] w fun e w' => e = .returned (.bool true) ∧ Below w.heap.size w w' := by
  have HE := Lib.hid hE
  have H1 := Lib.hid hN1
  have H2 := Lib.hid hN2
  obtain ⟨i0, hi0, hz1, hz2, hz3⟩ := info_parts info_u64
  clear hE hN1 hN2
  go_enter Tryd.func7, Tryd.ntmps7
  go_wp2_with fail
  refine (awake8_any _ (HE.out.below ((Below.refl _ _).alloc (Nat.le_refl _) _))).mono ?_
  rintro e w1 ⟨rfl, hb⟩
  have HB1 := Lib.hid (Below.step (B := w.heap.size) (a := w) (by (repeat (first | with_reducible exact Below.refl _ _ | with_reducible refine Below.drew ?_ | (with_reducible refine Below.setCell ?_ ?side _; case side => exact (by first | (simp; done) | (simp; omega) | omega)) | (with_reducible refine Below.alloc ?_ ?side _; case side => exact (by first | (simp; done) | (simp; omega) | omega))))) hb (by first | (simp; done) | (simp; omega) | omega))
  have hr := (spec8_row w A1 L1 c1 A2 L2 c2 T).of_block (hb.block _ (by simp))
  have b0 : w1.cell? ⟨w.heap.size, 0, none⟩ = some (.slice A1 L1 c1) := hr.cell (i := 0) (by omega)
  have b1 : w1.cell? ⟨w.heap.size, 1, none⟩ = some (.slice A2 L2 c2) := hr.cell (i := 1) (by omega)
  have b2 : w1.cell? ⟨w.heap.size, 2, none⟩ = some (.int .i64 T) := hr.cell (i := 2) (by omega)
  clear hr hb
  go_wp2_with fail
  clear b0 b1 b2
  refine (s8made_any 2 3 A1 L1 c1 A2 L2 c2 T _ (H1.out.below HB1.out) (H2.out.below HB1.out) (by omega) (by omega) (by omega)).mono ?_
  rintro e w2 ⟨s, A, c, t, x, Aw, cw, rfl, hQ⟩
  have HB2 := Lib.hid (Below.step HB1.out hQ.be HB1.out.size)
  have K0 := Lib.hid (show VW w1 3 s A t x Aw cw w2 from ⟨hQ, HE.out.below HB2.out⟩)
  have hck := hQ.chk (by omega)
  have hcap := hQ.cap
  rcases bmsg_cases hQ.right hQ.lt hck with ⟨hl, he⟩ | ⟨hl, he, hlen⟩
  · have hlz : (bmsg s t x).length = 0 := by rw [he]; rfl
    have hlk := lookP_zero hQ.right (nth (bmsg s t x))
    have HLK := Lib.hid hlk
    rw [hlz]
    clear hQ hck hl he hlz hcap hlk
    go_wp2_with fail
    refine (vcheck_any s A c Aw 0 cw (nth (bmsg s t x)) _ K0.out.mw.sat ⟨fun j hj => absurd hj (Nat.not_lt_zero j), fun h => absurd h (Nat.lt_irrefl 0)⟩ (Nat.zero_le _)).mono ?_
    rintro e w3 ⟨rfl, hb⟩
    rw [HLK.out, enc_code1 21 (by decide)]
    have K1 := Lib.hid (K0.out.below hb)
    clear hb
    go_wp2_with fail
    refine (top_one 21 (by decide) _ K1.out.et).mono ?_
    rintro e w4 ⟨rfl, hb⟩
    have K2 := Lib.hid (K1.out.below hb)
    have HB5 := Lib.hid (Below.step HB1.out K2.out.mw.be HB1.out.size)
    clear hb
    go_wp2
    go_ret
    exact ⟨rfl, HB5.out⟩
  · have hR := hQ.right
    have ht := hQ.lt
    have hsml : SmL (msgL s t x) := msgL_small s t (hQ.made.sm (fun i hi => by have := hQ.four i hi; omega) hQ.lt (fun i j hi hj => hQ.right.tlt hi hj) (by omega) : Sm (2 * 3) x)
    have hM1 : 1 ≤ wds true x := by
      have e1 := wds_true x
      have e2 := chk_kl hck
      have e3 := (hR.2.2 t ht).1
      omega
    obtain ⟨M, hM⟩ : ∃ M, wds true x = M := ⟨_, rfl⟩
    have hlk := lookP_built hR ht hck hl
    have hkeep := fun (i z : Nat) hi hz => lookP_keeps hR ht hck hl (i := i) (z := z) hi hz
    have h0 := msg_0 s t x
    rw [hM] at hlk hl hlen hkeep h0 hM1
    have hml : (bmsg s t x).length = M + 1 := by rw [he, hlen, Nat.add_comm]
    have hrow := hQ.row.row
    rw [hml, he] at hrow
    rw [hml] at hcap
    rw [hml]
    rw [Nat.add_comm 1 M] at hlen hl hlk h0 hkeep
    have ht8 : t < 8 := by have := hR.2.1; omega
    generalize msgL s t x = L at hrow hlk hkeep h0 hlen hsml
    obtain ⟨b, o, rfl, hblt, hcl⟩ := hrow.some_ (by omega)
    have hlo : nth L 0 % 4294967296 = M + 1 := by rw [h0]; exact (refN_lo (by omega) (by omega)).1
    have hhi : nth L 0 / 4294967296 = t := by rw [h0]; exact (refN_lo (by omega) (by omega)).2
    have hc0 : w2.cell? ⟨b, o, none⟩ = some (.int .u64 ((nth L 0 : Nat) : Int)) := hcl 0 (by omega)
    have hsh : ((nth L 0 : Nat) : Int) / 4294967296 = (t : Int) := by omega
    have hM0 : (((M + 1 : Nat) : Int) == 0) = false := by simp; omega
    have hM0' : ((M : Int) + 1 == 0) = false := by simp; omega
    have d1 : decide ((s.n : Int) ≤ (t : Int)) = false := by simp; omega
    have d1' : decide (s.n ≤ t) = false := by simp; omega
    obtain ⟨bs, os, rfl, hbs, hcs⟩ := (K0.out.mw.sat).some_ (by omega)
    obtain ⟨Ai, ci, hct, hfr⟩ := hcs t ht
    have HLM : Hid (s.len t ≤ M) := Lib.hid (by have e1 := wds_true x; have e2 := chk_kl hck; omega)
    have HLM : Hid (s.len t ≤ M) := Lib.hid (by have e1 := wds_true x; have e2 := chk_kl hck; omega)
    have HLM : Hid (s.len t ≤ M) := Lib.hid (by have e1 := wds_true x; have e2 := chk_kl hck; omega)
    have HRW := Lib.hid hrow
    have HLK := Lib.hid hlk
    have HKE := Lib.hid hkeep
    have HLO := Lib.hid hlo
    have HHI := Lib.hid hhi
    have HLN := Lib.hid hlen
    have HSM := Lib.hid hsml
    have HR := Lib.hid hR
    have HTT := Lib.hid ht
    have HFR := Lib.hid hfr
    clear hQ hck he hrow hlk hkeep h0 hlen hsml hR hM hml hcl hlo hhi hcs hfr
    -- THE LOOP
    go_wp2_with fail
    obtain ⟨LT, HLT⟩ : ∃ LT, Hid (s.len t = LT) := ⟨_, Lib.hid rfl⟩
    have hl6 : LT ≤ 6 := by rw [← HLT.out]; exact (HR.out.2.2 t HTT.out).2.1
    have hlm : LT ≤ M := by rw [← HLT.out]; exact HLM.out
    rw [HLT.out] at hct
    have HTA : Hid (L.take (M + 1) = L) := Lib.hid (List.take_of_length_le (by rw [HLN.out]; exact Nat.le_refl _))
    have HTK : Hid ((L.take (M + 1)).length = M + 1) := Lib.hid (by rw [HTA.out]; exact HLN.out)
    go_loopw [9] (fun iv wr => ∃ i : Nat, i ≤ LT ∧ iv = .int .i64 i ∧ Hid (Below w2.heap.size w2 wr)) (fun iv _ => LT - (intOf iv).toNat)
    case atStart => exact ⟨0, by omega, rfl, Lib.hid (Below.refl _ _)⟩
    case round =>
      obtain ⟨i, hi, rfl, HBW⟩ := hrel
      have hst : wr.cell? ⟨bs, os + t, none⟩ = some (.slice Ai LT ci) := (HBW.out.cell (p := ⟨bs, os + t, none⟩) hbs).trans hct
      have hbs2 : bs < wr.heap.size := Nat.lt_of_lt_of_le hbs HBW.out.size
      by_cases hi1 : i < LT
      · have HNW : Hid (∀ j u, (wcells (L.take (M + 1)))[j]? = some u → (wr.alloc (.cells #[] 28)).cell? ((⟨b, o, none⟩ : Addr).add j) = some u) := Lib.hid (copy_news ((HRW.out.below HBW.out).below ((Below.refl _ _).alloc (Nat.le_refl _) _)) (by rw [HLN.out]; exact Nat.le_refl _) (Nat.le_refl _))
        obtain ⟨bf, of, hAi, hbf, hcf⟩ := (HFR.out.below HBW.out).some_ (by rw [HLT.out]; omega)
        obtain ⟨hkk, -⟩ := hcf i (by rw [HLT.out]; exact hi1)
        have hbf2 : bf < wr.heap.size := hbf
        rw [hAi] at hst
        clear hcf
        obtain ⟨kk, HKK⟩ : ∃ kk, Hid (s.k t i = kk) := ⟨_, Lib.hid rfl⟩
        rw [HKK.out] at hkk
        by_cases hk1 : kk = 1
        · subst hk1
          go_wp2_with (first
            | (at_builtin; (refine wpList_append_own_at _ rfl _ _ 29 rfl 0 28 i0 (.int .u64 0) 1 8 Tryd.underlying29 hi0 hz1 hz2 hz3 rfl (by decide) _ 0 [] rfl (World.ownsRow_lit wr #[] 0 (Nat.zero_le _) (by unfold maxLen; omega) rfl) ⟨b, o, none⟩ (M + 1) cw (wcells (L.take (M + 1))) rfl (by rw [wcells_length, HTK.out, Nat.mul_one]) HNW.out (wcells_one _) (by unfold maxLen; omega) (by omega) (Nat.zero_le _) ?_); intro v' w3 hown hgrow _ hat; obtain ⟨g, cap, hv, hg, hW, hB⟩ := copied (c0 := .cells #[] 28) (L := L.take (M + 1)) rfl (by rw [HTK.out, Nat.zero_add]) (by rw [HTK.out]; omega) hown hgrow hat; rw [HTK.out] at hv; subst hv; have HG := Lib.hid hg; have HW := Lib.hid hW; have HB := Lib.hid hB; have hcell := HW.out.nth_cell (p := 1 + i) (by rw [HTK.out]; omega); have hfz := HW.out.frozen (1 + i); have hk1 := (hB.cell (p := ⟨bf, of + i * 2, none⟩) hbf2).trans hkk; have hs1 := (hB.cell (p := ⟨bs, os + t, none⟩) hbs2).trans hst; clear hown hgrow hat hg hW hB)
            | fail)
          have hle := WRw.le HW.out
          rw [HTK.out] at hle
          have HW2 := Lib.hid (HW.out.put (1 + i) wd)
          have HB2' : Hid (Below wr.heap.size wr (w3.setCell ⟨g, 1 + i, none⟩ (.int .u64 ((wd : Nat) : Int)))) := Lib.hid (HB.out.setCell HG.out _)
          have hrw := WRw.row HW2.out ((HSM.out.take (M + 1)).set (1 + i) (by omega))
          rw [List.length_set, HTK.out, HTA.out] at hrw
          have HRT := Lib.hid hrw
          clear hrw hk1 hs1 hcell hfz
          try simp only [Int.toNat_natCast] at *
          generalize hW9 : w3.setCell ⟨g, 1 + i, none⟩ (.int .u64 ((wd : Nat) : Int)) = w3' at HB2' HRT HW2 ⊢
          try rw [show w3.setCell ⟨g, 1 + i, none⟩ (.int .u64 0) = w3' from hW9]
          obtain ⟨cc, hcc⟩ := HKE.out i wd (by rw [HLT.out]; exact hi1) (.inl HKK.out)
          have HCC := Lib.hid hcc
          have K1 := Lib.hid ((K0.out.below HBW.out).below HB2'.out)
          refine (vcheck_any s _ c (some ⟨g, 0, none⟩) (M + 1) cap _ _ K1.out.mw.sat HRT.out hle).mono ?_
          rintro e w4 ⟨rfl, hb⟩
          rw [HCC.out, show Cs.enc (([], cc) : List (Int × Int) × Nat).1 = .nilIface from rfl]
          have HB4 := Lib.hid (Below.step HB2'.out hb HB2'.out.size)
          have K2 := Lib.hid (K1.out.below hb)
          clear hb hcc hW9
          go_wp2_with fail
          refine (top_none _ K2.out.et).mono ?_
          rintro e w5 ⟨rfl, hb⟩
          have HB5 := Lib.hid (Below.step HBW.out (Below.step HB4.out hb HB4.out.size) HBW.out.size)
          clear hb
          go_wp2
          go_roundw
          case rel => exact ⟨i + 1, by omega, by go_num, HB5⟩
          case measure => simp [intOf]; omega
        · have dk : (kk == 1) = false := by simpa using hk1
          go_wp2_with (first
            | (at_builtin; (refine wpList_append_own_at _ rfl _ _ 29 rfl 0 28 i0 (.int .u64 0) 1 8 Tryd.underlying29 hi0 hz1 hz2 hz3 rfl (by decide) _ 0 [] rfl (World.ownsRow_lit wr #[] 0 (Nat.zero_le _) (by unfold maxLen; omega) rfl) ⟨b, o, none⟩ (M + 1) cw (wcells (L.take (M + 1))) rfl (by rw [wcells_length, HTK.out, Nat.mul_one]) HNW.out (wcells_one _) (by unfold maxLen; omega) (by omega) (Nat.zero_le _) ?_); intro v' w3 hown hgrow _ hat; obtain ⟨g, cap, hv, hg, hW, hB⟩ := copied (c0 := .cells #[] 28) (L := L.take (M + 1)) rfl (by rw [HTK.out, Nat.zero_add]) (by rw [HTK.out]; omega) hown hgrow hat; rw [HTK.out] at hv; subst hv; have HG := Lib.hid hg; have HW := Lib.hid hW; have HB := Lib.hid hB; have hcell := HW.out.nth_cell (p := 1 + i) (by rw [HTK.out]; omega); have hfz := HW.out.frozen (1 + i); have hk1 := (hB.cell (p := ⟨bf, of + i * 2, none⟩) hbf2).trans hkk; have hs1 := (hB.cell (p := ⟨bs, os + t, none⟩) hbs2).trans hst; clear hown hgrow hat hg hW hB)
            | fail)
          have hle := WRw.le HW.out
          rw [HTK.out] at hle
          have HW2 := Lib.hid (HW.out.put (1 + i) 0)
          have HB2' : Hid (Below wr.heap.size wr (w3.setCell ⟨g, 1 + i, none⟩ (.int .u64 ((0 : Nat) : Int)))) := Lib.hid (HB.out.setCell HG.out _)
          have hrw := WRw.row HW2.out ((HSM.out.take (M + 1)).set (1 + i) (by omega))
          rw [List.length_set, HTK.out, HTA.out] at hrw
          have HRT := Lib.hid hrw
          clear hrw hk1 hs1 hcell hfz
          try simp only [Int.toNat_natCast] at *
          generalize hW9 : w3.setCell ⟨g, 1 + i, none⟩ (.int .u64 ((0 : Nat) : Int)) = w3' at HB2' HRT HW2 ⊢
          try rw [show w3.setCell ⟨g, 1 + i, none⟩ (.int .u64 0) = w3' from hW9]
          obtain ⟨cc, hcc⟩ := HKE.out i 0 (by rw [HLT.out]; exact hi1) (.inr rfl)
          have HCC := Lib.hid hcc
          have K1 := Lib.hid ((K0.out.below HBW.out).below HB2'.out)
          refine (vcheck_any s _ c (some ⟨g, 0, none⟩) (M + 1) cap _ _ K1.out.mw.sat HRT.out hle).mono ?_
          rintro e w4 ⟨rfl, hb⟩
          rw [HCC.out, show Cs.enc (([], cc) : List (Int × Int) × Nat).1 = .nilIface from rfl]
          have HB4 := Lib.hid (Below.step HB2'.out hb HB2'.out.size)
          have K2 := Lib.hid (K1.out.below hb)
          clear hb hcc hW9
          go_wp2_with fail
          refine (top_none _ K2.out.et).mono ?_
          rintro e w5 ⟨rfl, hb⟩
          have HB5 := Lib.hid (Below.step HBW.out (Below.step HB4.out hb HB4.out.size) HBW.out.size)
          clear hb
          go_wp2
          go_roundw
          case rel => exact ⟨i + 1, by omega, by go_num, HB5⟩
          case measure => simp [intOf]; omega
      · have e : i = LT := by omega
        subst e
        have HNW : Hid (∀ j u, (wcells (L.take (M + 1)))[j]? = some u → (wr.alloc (.cells #[] 28)).cell? ((⟨b, o, none⟩ : Addr).add j) = some u) := Lib.hid (copy_news ((HRW.out.below HBW.out).below ((Below.refl _ _).alloc (Nat.le_refl _) _)) (by rw [HLN.out]; exact Nat.le_refl _) (Nat.le_refl _))
        have HLK9 : Hid (lookP s (nth (L.take (M + 1) ++ [wd])) (M + 1 + 1) = if M + 1 + 1 ≤ 200 then ([(0, 0), (10, 0)], 0) else ([(21, 0)], 0)) := Lib.hid (by
          by_cases h : M + 1 + 1 ≤ 200
          · rw [if_pos h]
            refine lookP_form HR.out _ (by omega) h ?_
            rw [HTA.out, nth_append_left (by rw [HLN.out]; omega), HLO.out]
            omega
          · rw [if_neg h]
            exact lookP_wide HR.out _ (by omega))
        have hkw := K0.out.below HBW.out
        have HKW := Lib.hid hkw
        clear hkw
        by_cases h200 : M + 1 + 1 ≤ 200
        · rw [if_pos h200] at HLK9
          have dl : decide ((200 : Int) < (M : Int) + 1 + 1) = false := by simp; omega
          go_wp2_with (first
            | (at_builtin; (refine wpList_append_own_at _ rfl (.tmp 75) (.tmp 76) 29 rfl 0 28 i0 (.int .u64 0) 1 8 Tryd.underlying29 hi0 hz1 hz2 hz3 rfl (by decide) _ 0 [] rfl (World.ownsRow_lit wr #[] 0 (Nat.zero_le _) (by unfold maxLen; omega) rfl) ⟨b, o, none⟩ (M + 1) cw (wcells (L.take (M + 1))) rfl (by rw [wcells_length, HTK.out, Nat.mul_one]) HNW.out (wcells_one _) (by unfold maxLen; omega) (by omega) (Nat.zero_le _) ?_); intro v' w3 hown hgrow _ hat; obtain ⟨g, cap, hv, hg, hW, hB⟩ := copied (c0 := .cells #[] 28) (L := L.take (M + 1)) rfl (by rw [HTK.out, Nat.zero_add]) (by rw [HTK.out]; omega) hown hgrow hat; rw [HTK.out] at hv; subst hv; have HG := Lib.hid hg; have HW := Lib.hid hW; have HB := Lib.hid hB; have HO1 : Hid (w3.ownsRow 0 28 1 (.slice (some ⟨g, 0, none⟩) (M + 1) cap) (M + 1) (wcells (L.take (M + 1)))) := Lib.hid (by have h9 := hW; unfold WRw at h9; rw [HTK.out] at h9; exact h9); clear hown hgrow hat hg hW hB)
            | (at_builtin; (refine wpList_append_own_at _ rfl _ _ 29 rfl 0 28 i0 (.int .u64 0) 1 8 Tryd.underlying29 hi0 hz1 hz2 hz3 rfl (by decide) _ _ _ rfl (HO1.out.alloc _) ⟨_, 0, none⟩ 1 1 [.int .u64 (wd : Nat)] rfl rfl (cell_one_new _ _ _) (by simp [Value.oneCell']) (by unfold maxLen; omega) (by omega) (Nat.zero_le _) ?_); intro v'' w5 hown hgrow _ hat; obtain ⟨g2, cap2, hv, hW2, hB2⟩ := copied2 HB.out HG.out (by rw [HTK.out]) HW.out hown hgrow; subst hv; have HW2 := Lib.hid hW2; have HB2' := Lib.hid hB2; clear hown hgrow hat hW2 hB2)
            | fail)
          have hle := WRw.le HW2.out
          have hrw := WRw.row HW2.out ((HSM.out.take (M + 1)).append (fun y hy => by rw [List.mem_singleton.1 hy]; exact hwd))
          rw [List.length_append, HTK.out, List.length_singleton] at hrw hle
          have HRT := Lib.hid hrw
          have K1 := Lib.hid (HKW.out.below HB2'.out)
          clear hrw
          refine (vcheck_any s _ c (some ⟨g2, 0, none⟩) (M + 1 + 1) cap2 _ _ K1.out.mw.sat HRT.out hle).mono ?_
          rintro e w6 ⟨rfl, hb⟩
          rw [HLK9.out]
          have K2 := Lib.hid (K1.out.below hb)
          have HR2 := Lib.hid (HRT.out.below hb)
          clear hb
          go_wp2_with fail
          refine (Cs.word_any [(0, 0), (10, 0)] (by simp [Cs.Ok]) (by simp) _).mono ?_
          rintro e w7 ⟨rfl, hb⟩
          rw [show Cs.wordFrom (0, false) [(0, 0), (10, 0)] = (0, true) by decide]
          have K3 := Lib.hid (K2.out.below hb)
          have HR3 := Lib.hid (HR2.out.below hb)
          clear hb
          go_wp2_with fail
          refine (vcheck_any s _ c (some ⟨g2, 0, none⟩) (M + 1 + 1) cap2 _ _ K3.out.mw.sat HR3.out hle).mono ?_
          rintro e w8 ⟨rfl, hb⟩
          rw [HLK9.out]
          have K4 := Lib.hid (K3.out.below hb)
          clear hb
          go_wp2_with fail
          refine (top_at 0 10 (by decide) _ K4.out.et).mono ?_
          rintro e w9 ⟨rfl, hb⟩
          have K5 := Lib.hid (K4.out.below hb)
          have HB9 := Lib.hid (Below.step HB1.out K5.out.mw.be HB1.out.size)
          clear hb
          go_wp2
          go_ret
          exact ⟨rfl, HB9.out⟩
        · rw [if_neg h200] at HLK9
          have dl : decide ((200 : Int) < (M : Int) + 1 + 1) = true := by simp; omega
          go_wp2_with (first
            | (at_builtin; (refine wpList_append_own_at _ rfl (.tmp 75) (.tmp 76) 29 rfl 0 28 i0 (.int .u64 0) 1 8 Tryd.underlying29 hi0 hz1 hz2 hz3 rfl (by decide) _ 0 [] rfl (World.ownsRow_lit wr #[] 0 (Nat.zero_le _) (by unfold maxLen; omega) rfl) ⟨b, o, none⟩ (M + 1) cw (wcells (L.take (M + 1))) rfl (by rw [wcells_length, HTK.out, Nat.mul_one]) HNW.out (wcells_one _) (by unfold maxLen; omega) (by omega) (Nat.zero_le _) ?_); intro v' w3 hown hgrow _ hat; obtain ⟨g, cap, hv, hg, hW, hB⟩ := copied (c0 := .cells #[] 28) (L := L.take (M + 1)) rfl (by rw [HTK.out, Nat.zero_add]) (by rw [HTK.out]; omega) hown hgrow hat; rw [HTK.out] at hv; subst hv; have HG := Lib.hid hg; have HW := Lib.hid hW; have HB := Lib.hid hB; have HO1 : Hid (w3.ownsRow 0 28 1 (.slice (some ⟨g, 0, none⟩) (M + 1) cap) (M + 1) (wcells (L.take (M + 1)))) := Lib.hid (by have h9 := hW; unfold WRw at h9; rw [HTK.out] at h9; exact h9); clear hown hgrow hat hg hW hB)
            | (at_builtin; (refine wpList_append_own_at _ rfl _ _ 29 rfl 0 28 i0 (.int .u64 0) 1 8 Tryd.underlying29 hi0 hz1 hz2 hz3 rfl (by decide) _ _ _ rfl (HO1.out.alloc _) ⟨_, 0, none⟩ 1 1 [.int .u64 (wd : Nat)] rfl rfl (cell_one_new _ _ _) (by simp [Value.oneCell']) (by unfold maxLen; omega) (by omega) (Nat.zero_le _) ?_); intro v'' w5 hown hgrow _ hat; obtain ⟨g2, cap2, hv, hW2, hB2⟩ := copied2 HB.out HG.out (by rw [HTK.out]) HW.out hown hgrow; subst hv; have HW2 := Lib.hid hW2; have HB2' := Lib.hid hB2; clear hown hgrow hat hW2 hB2)
            | fail)
          have hle := WRw.le HW2.out
          have hrw := WRw.row HW2.out ((HSM.out.take (M + 1)).append (fun y hy => by rw [List.mem_singleton.1 hy]; exact hwd))
          rw [List.length_append, HTK.out, List.length_singleton] at hrw hle
          have HRT := Lib.hid hrw
          have K1 := Lib.hid (HKW.out.below HB2'.out)
          clear hrw
          refine (vcheck_any s _ c (some ⟨g2, 0, none⟩) (M + 1 + 1) cap2 _ _ K1.out.mw.sat HRT.out hle).mono ?_
          rintro e w6 ⟨rfl, hb⟩
          rw [HLK9.out]
          have K2 := Lib.hid (K1.out.below hb)
          have HR2 := Lib.hid (HRT.out.below hb)
          clear hb
          go_wp2_with fail
          refine (Cs.word_any [(21, 0)] (by simp [Cs.Ok]) (by simp) _).mono ?_
          rintro e w7 ⟨rfl, hb⟩
          rw [show Cs.wordFrom (0, false) [(21, 0)] = (0, false) by decide]
          have K3 := Lib.hid (K2.out.below hb)
          have HR3 := Lib.hid (HR2.out.below hb)
          clear hb
          go_wp2_with fail
          refine (vcheck_any s _ c (some ⟨g2, 0, none⟩) (M + 1 + 1) cap2 _ _ K3.out.mw.sat HR3.out hle).mono ?_
          rintro e w8 ⟨rfl, hb⟩
          rw [HLK9.out, enc_code1 21 (by decide)]
          have K4 := Lib.hid (K3.out.below hb)
          clear hb
          go_wp2_with fail
          refine (top_one 21 (by decide) _ K4.out.et).mono ?_
          rintro e w9 ⟨rfl, hb⟩
          have K5 := Lib.hid (K4.out.below hb)
          have HB9 := Lib.hid (Below.step HB1.out K5.out.mw.be HB1.out.size)
          clear hb
          go_wp2
          go_ret
          exact ⟨rfl, HB9.out⟩

end Go.Proofs.YthcachmcjekckaaDoor
