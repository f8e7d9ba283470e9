/- ValidCut: the law's walk. -/
import Derived.Test.YthcachmcjekckaaDoorVTwo
namespace Go.Proofs.YthcachmcjekckaaDoor
open Go.ChangeShapes Go.WideShapes Go.ChangeAt Go.RowKit
set_option maxRecDepth 100000 in
set_option maxHeartbeats 4000000 in
theorem lawCut_any (A1 : Option Addr) (L1 c1 : Nat) (A2 : Option Addr) (L2 c2 : Nat) (T : Int) (less : Int) (says : Bool) (w : World) (hE : Cs.ErrT w) (hN1 : NumsAt w A1 L1 c1) (hN2 : NumsAt w A2 L2 c2) :
    Calls Tryd.prog 8 #[.agg #[.slice A1 L1 c1, .slice A2 L2 c2, .int .i64 T], .int .i64 less, .bool says] w fun e w' => e = .returned (.bool true) ∧ Below w.heap.size w w' := by
  have HE := Lib.hid hE
  have H1 := Lib.hid hN1
  have H2 := Lib.hid hN2
  obtain ⟨i0, hi0, hz1, hz2, hz3⟩ := info_parts info_u64
  clear hE hN1 hN2
  go_enter Tryd.func8, Tryd.ntmps8
  go_wp2_with fail
  refine (awake8_any _ (HE.out.below ((Below.refl _ _).alloc (Nat.le_refl _) _))).mono ?_
  rintro e w1 ⟨rfl, hb⟩
  have HB1 := Lib.hid (Below.step (B := w.heap.size) (a := w) (by (repeat (first | with_reducible exact Below.refl _ _ | with_reducible refine Below.drew ?_ | (with_reducible refine Below.setCell ?_ ?side _; case side => exact (by first | (simp; done) | (simp; omega) | omega)) | (with_reducible refine Below.alloc ?_ ?side _; case side => exact (by first | (simp; done) | (simp; omega) | omega))))) hb (by first | (simp; done) | (simp; omega) | omega))
  have hr := (spec8_row w A1 L1 c1 A2 L2 c2 T).of_block (hb.block _ (by simp))
  have b0 : w1.cell? ⟨w.heap.size, 0, none⟩ = some (.slice A1 L1 c1) := hr.cell (i := 0) (by omega)
  have b1 : w1.cell? ⟨w.heap.size, 1, none⟩ = some (.slice A2 L2 c2) := hr.cell (i := 1) (by omega)
  have b2 : w1.cell? ⟨w.heap.size, 2, none⟩ = some (.int .i64 T) := hr.cell (i := 2) (by omega)
  clear hr hb
  go_wp2_with fail
  clear b0 b1 b2
  refine (s8made_any 3 4 A1 L1 c1 A2 L2 c2 T _ (H1.out.below HB1.out) (H2.out.below HB1.out) (by omega) (by omega) (by omega)).mono ?_
  rintro e w2 ⟨s, A, c, t, x, Aw, cw, rfl, hQ⟩
  have HB2 := Lib.hid (Below.step HB1.out hQ.be HB1.out.size)
  have K0 := Lib.hid (show VW w1 4 s A t x Aw cw w2 from ⟨hQ, HE.out.below HB2.out⟩)
  have hck := hQ.chk (by omega)
  have hcap := hQ.cap
  rcases bmsg_cases hQ.right hQ.lt hck with ⟨hl, he⟩ | ⟨hl, he, hlen⟩
  · have hlz : (bmsg s t x).length = 0 := by rw [he]; rfl
    rw [hlz]
    clear hQ hck hl he hlz hcap
    go_wp2
    go_ret
    exact ⟨rfl, HB2.out⟩
  · have hR := hQ.right
    have ht := hQ.lt
    have hsml : SmL (msgL s t x) := msgL_small s t (hQ.made.sm (fun i hi => by have := hQ.four i hi; omega) hQ.lt (fun i j hi hj => hQ.right.tlt hi hj) (by omega) : Sm (2 * 4) x)
    have hM1 : 1 ≤ wds true x := by
      have e1 := wds_true x
      have e2 := chk_kl hck
      have e3 := (hR.2.2 t ht).1
      omega
    obtain ⟨M, hM⟩ : ∃ M, wds true x = M := ⟨_, rfl⟩
    have hlk := lookP_built hR ht hck hl
    have hpart := fun f N h1 h2 h3 h4 h5 => (lookP_part hR ht hck (f := f) (N := N) h1 h2 h3 h4 h5).2
    have hlies := msg_lies s t x
    have h0 := msg_0 s t x
    rw [hM] at hlk hl hlen hpart h0 hM1
    have hml : (bmsg s t x).length = M + 1 := by rw [he, hlen, Nat.add_comm]
    have hrow := hQ.row.row
    rw [hml, he] at hrow
    rw [hml] at hcap
    rw [hml]
    rw [Nat.add_comm] at hlen hl hlk h0
    have ht8 : t < 8 := by have := hR.2.1; omega
    generalize msgL s t x = L at hrow hlk hlies h0 hlen hsml
    obtain ⟨b, o, rfl, hblt, hcl⟩ := hrow.some_ (by omega)
    have hlo : nth L 0 % 4294967296 = M + 1 := by rw [h0]; exact (refN_lo (by omega) (by omega)).1
    have hhi : nth L 0 / 4294967296 = t := by rw [h0]; exact (refN_lo (by omega) (by omega)).2
    obtain ⟨k, hk, hke⟩ := rest less M hM1 (by omega)
    obtain ⟨N, hN⟩ : ∃ N, N + k = M := ⟨M - k, by omega⟩
    have hNK : (M : Int) - (k : Int) = (N : Int) := by omega
    have d2 : decide ((M : Int) + 1 < 2) = false := by simp; omega
    have hm1' : (M : Int) + 1 - 1 = (M : Int) := by omega
    have hM0 : ((M : Int) == 0) = false := by simp; omega
    have HRW := Lib.hid hrow
    have HLK := Lib.hid hlk
    have HPT := Lib.hid hpart
    have HLI := Lib.hid hlies
    have HLO := Lib.hid hlo
    have HHI := Lib.hid hhi
    have HLN := Lib.hid hlen
    have HSM := Lib.hid hsml
    have HR := Lib.hid hR
    have HTT := Lib.hid ht
    clear hQ hck he hrow hlk hpart hlies h0 hlen hsml hR ht hM hml hcl hlo hhi
    -- THE WALK
    have HTK : Hid ((L.take N).length = N) := Lib.hid (by rw [List.length_take, HLN.out]; omega)
    have HNW : Hid (∀ j u, (wcells (L.take N))[j]? = some u → (w2.alloc (.cells #[] 28)).cell? ((⟨b, o, none⟩ : Addr).add j) = some u) := Lib.hid (copy_news (HRW.out.below ((Below.refl _ _).alloc (Nat.le_refl _) _)) (by rw [HLN.out]; exact Nat.le_refl _) (by omega))
    have hN1 : 1 ≤ N := by omega
    have HB3' := fun w3 (h : Below w2.heap.size w2 w3) => K0.out.below h
    cases says with
    | false =>
      go_wp2_with (first
        | (at_builtin; (refine wpList_append_own_at _ rfl _ _ 29 rfl 0 28 i0 (.int .u64 0) 1 8 Tryd.underlying29 hi0 hz1 hz2 hz3 rfl (by decide) _ 0 [] rfl (World.ownsRow_lit w2 #[] 0 (Nat.zero_le _) (by unfold maxLen; omega) rfl) ⟨b, o, none⟩ N cw (wcells (L.take N)) rfl (by rw [wcells_length, HTK.out, Nat.mul_one]) HNW.out (wcells_one _) (by unfold maxLen; omega) (by omega) (Nat.zero_le _) ?_); intro v' w3 hown hgrow _ hat; obtain ⟨g, cap, hv, hg, hW, hB⟩ := copied (c0 := .cells #[] 28) (L := L.take N) rfl (by rw [HTK.out, Nat.zero_add]) (by rw [HTK.out]; omega) hown hgrow hat; rw [HTK.out] at hv; subst hv; have HG := Lib.hid hg; have HW := Lib.hid hW; have HB := Lib.hid hB; clear hown hgrow hat hg hW hB)
        | fail)
      have K1 := Lib.hid (K0.out.below HB.out)
      have HR1 := Lib.hid (HRW.out.below HB.out)
      have hlk2 : lookP s (nth (L.take N)) N = ([(0, 0), (10, 0)], 0) := lookP_form HR.out _ hN1 (by omega) (by rw [nth_take (by omega), HLO.out]; omega)
      have HLK2 := Lib.hid hlk2
      have hrw := WRw.row HW.out (HSM.out.take N)
      have hle := WRw.le HW.out
      rw [HTK.out] at hrw hle
      have HRT := Lib.hid hrw
      clear hlk2 hrw
      go_wp2_with fail
      refine (vcheck_any s A c (some ⟨g, 0, none⟩) N cap _ _ K1.out.mw.sat HRT.out hle).mono ?_
      rintro e w4 ⟨rfl, hb⟩
      rw [HLK2.out]
      have K2 := Lib.hid (K1.out.below hb)
      have HR2 := Lib.hid (HR1.out.below hb)
      clear hb
      go_wp2_with fail
      refine (top_at 0 10 (by decide) _ K2.out.et).mono ?_
      rintro e w5 ⟨rfl, hb⟩
      have K3 := Lib.hid (K2.out.below hb)
      have HR3 := Lib.hid (HR2.out.below hb)
      clear hb
      go_wp2_with fail
      refine (vcheck_any s A c _ (M + 1) cw _ _ K3.out.mw.sat HR3.out hcap).mono ?_
      rintro e w6 ⟨rfl, hb⟩
      rw [HLK.out, show Cs.enc (([], M) : List (Int × Int) × Nat).1 = .nilIface from rfl]
      have K4 := Lib.hid (K3.out.below hb)
      clear hb
      go_wp2_with fail
      refine (top_none _ K4.out.et).mono ?_
      rintro e w7 ⟨rfl, hb⟩
      have K5 := Lib.hid (K4.out.below hb)
      have HB5 := Lib.hid (Below.step HB1.out K5.out.mw.be HB1.out.size)
      clear hb
      go_wp2
      go_ret
      exact ⟨rfl, HB5.out⟩
    | true =>
      have hX : nth L 0 < 18446744073709551616 := HRW.out.lt 0 (by omega)
      have hfa := lo_cut (nth L 0) hX
      rw [HHI.out] at hfa
      have hfb := lo_put t N (by omega) (by omega)
      obtain ⟨Z, hZ⟩ : ∃ Z, t * 4294967296 = Z := ⟨_, rfl⟩
      rw [hZ] at hfa hfb
      obtain ⟨Y, hY⟩ : ∃ Y, Z + N = Y := ⟨_, rfl⟩
      rw [hY] at hfb
      have HY : Hid (Y % 4294967296 = N ∧ Y / 4294967296 = t ∧ Y < 18446744073709551616) := Lib.hid (by omega)
      clear hZ hY
      have hx0 : nth (L.take N) 0 = nth L 0 := nth_take (by omega)
      go_wp2_with (first
        | (at_builtin; (refine wpList_append_own_at _ rfl _ _ 29 rfl 0 28 i0 (.int .u64 0) 1 8 Tryd.underlying29 hi0 hz1 hz2 hz3 rfl (by decide) _ 0 [] rfl (World.ownsRow_lit w2 #[] 0 (Nat.zero_le _) (by unfold maxLen; omega) rfl) ⟨b, o, none⟩ N cw (wcells (L.take N)) rfl (by rw [wcells_length, HTK.out, Nat.mul_one]) HNW.out (wcells_one _) (by unfold maxLen; omega) (by omega) (Nat.zero_le _) ?_); intro v' w3 hown hgrow _ hat; obtain ⟨g, cap, hv, hg, hW, hB⟩ := copied (c0 := .cells #[] 28) (L := L.take N) rfl (by rw [HTK.out, Nat.zero_add]) (by rw [HTK.out]; omega) hown hgrow hat; rw [HTK.out] at hv; subst hv; have HG := Lib.hid hg; have HW := Lib.hid hW; have HB := Lib.hid hB; have hcell := HW.out.nth_cell (p := 0) (by rw [HTK.out]; omega); rw [hx0] at hcell; have hfz := HW.out.frozen 0; clear hown hgrow hat hg hW hB)
        | fail)
      have K1 := Lib.hid (K0.out.below HB.out)
      have HR1 := Lib.hid (HRW.out.below HB.out)
      have hle := WRw.le HW.out
      have HW2 := Lib.hid (HW.out.put 0 Y)
      have HB2' : Hid (Below w2.heap.size w2 (w3.setCell ⟨g, 0, none⟩ (.int .u64 (Y : Nat)))) := Lib.hid (HB.out.setCell HG.out _)
      have hst : lookP s (nth ((L.take N).set 0 Y)) N = ([(0, 0), (10, 0)], 0) ∨ ∃ p c, lookP s (nth ((L.take N).set 0 Y)) N = ([(0, p), (23, 0)], c) := .inr (HPT.out (nth ((L.take N).set 0 Y)) N hN1 (by omega) (by rw [nth_set_eq (by rw [HTK.out]; omega)]; exact HY.out.1) (by rw [nth_set_eq (by rw [HTK.out]; omega)]; exact HY.out.2.1) (fun i hi hlt => by
        rw [nth_set_ne (by omega), nth_take (by omega)]
        exact HLI.out N i hi hlt) (by omega))
      obtain ⟨p, c', hlk2⟩ := hst.resolve_left (fun e => by
        obtain ⟨p, c', e2⟩ := HPT.out (nth ((L.take N).set 0 Y)) N hN1 (by omega) (by rw [nth_set_eq (by rw [HTK.out]; omega)]; exact HY.out.1) (by rw [nth_set_eq (by rw [HTK.out]; omega)]; exact HY.out.2.1) (fun i hi hlt => by
          rw [nth_set_ne (by omega), nth_take (by omega)]
          exact HLI.out N i hi hlt) (by omega)
        rw [e2] at e
        simp at e)
      have HLK2 := Lib.hid hlk2
      have hrw := WRw.row HW2.out ((HSM.out.take N).set 0 HY.out.2.2)
      rw [List.length_set, HTK.out] at hrw
      rw [HTK.out] at hle
      have HRT := Lib.hid hrw
      clear hlk2 hst hrw
      go_wp2_with fail
      clear hcell hfz hfa hfb
      generalize w3.setCell ⟨g, 0, none⟩ (.int .u64 (Y : Nat)) = w3' at HB2' HRT HW2 ⊢
      have K1' := Lib.hid (K0.out.below HB2'.out)
      have HR1' := Lib.hid (HRW.out.below HB2'.out)
      refine (vcheck_any s A c (some ⟨g, 0, none⟩) N cap _ _ K1'.out.mw.sat HRT.out hle).mono ?_
      rintro e w4 ⟨rfl, hb⟩
      rw [HLK2.out]
      have K2 := Lib.hid (K1'.out.below hb)
      have HR2 := Lib.hid (HR1'.out.below hb)
      clear hb
      go_wp2_with fail
      refine (top_at p 23 (by decide) _ K2.out.et).mono ?_
      rintro e w5 ⟨rfl, hb⟩
      have K3 := Lib.hid (K2.out.below hb)
      have HR3 := Lib.hid (HR2.out.below hb)
      clear hb
      go_wp2_with fail
      refine (vcheck_any s A c _ (M + 1) cw _ _ K3.out.mw.sat HR3.out hcap).mono ?_
      rintro e w6 ⟨rfl, hb⟩
      rw [HLK.out, show Cs.enc (([], M) : List (Int × Int) × Nat).1 = .nilIface from rfl]
      have K4 := Lib.hid (K3.out.below hb)
      clear hb
      go_wp2_with fail
      refine (top_none _ K4.out.et).mono ?_
      rintro e w7 ⟨rfl, hb⟩
      have K5 := Lib.hid (K4.out.below hb)
      have HB5 := Lib.hid (Below.step HB1.out K5.out.mw.be HB1.out.size)
      clear hb
      go_wp2
      go_ret
      exact ⟨rfl, HB5.out⟩

end Go.Proofs.YthcachmcjekckaaDoor
