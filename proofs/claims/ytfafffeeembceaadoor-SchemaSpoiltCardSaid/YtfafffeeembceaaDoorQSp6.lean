/- SchemaSpoilt: a type with seven fields. -/
import Derived.Test.YtfafffeeembceaaDoorQGrow
import Derived.Deep.LoopGhost
import Derived.Test.YtfafffeeembceaaDoorQTells
namespace Go.Proofs.YtfafffeeembceaaDoor
open Go.RowKit
set_option maxRecDepth 100000 in
set_option maxHeartbeats 8000000 in
theorem spoilt_6 (Al : Option Addr) (L cl : Nat) (how q0 q1 : Int) (w : World) (hE : Cs.ErrT w) (hL : L ≤ 9223372036854775807) (hi : IRow w Al L) (hmask : bits .and .i64 how 7 = 6) :
    Calls Tryd.prog 6 #[.slice Al L cl, .int .i64 how, .agg #[.int .i64 q0, .int .i64 q1]] w fun e w' => e = .returned (.bool true) ∧ Below w.heap.size w w' := by
  obtain ⟨i0, hi0, hz1, hz2, hz3⟩ := info_parts info_field
  obtain ⟨j0, hj0, hy1, hy2, hy3⟩ := info_parts info_fs
  have HE := Lib.hid hE
  have HI := Lib.hid hi
  have HM := Lib.hid hmask
  clear hE hi hmask
  have hQ := World.rowIs_alloc w #[.int .i64 q0, .int .i64 q1] 25 (fun j => if j = 0 then .int .i64 q0 else .int .i64 q1) (by intro j hj; match j, hj with | 0, _ => rfl | 1, _ => rfl)
  have HQ := Lib.hid hQ
  clear hQ
  go_enter Tryd.func6, Tryd.ntmps6
  go_wp2_with fail
  refine (awake5_any _).mono ?_
  rintro e w1 ⟨rfl, hb⟩
  have H1 := Lib.hid (Below.step (B := w.heap.size) (a := w) (by (repeat (first | with_reducible exact Below.refl _ _ | with_reducible refine Below.drew ?_ | (with_reducible refine Below.setCell ?_ ?side _; case side => exact (by first | (simp; done) | (simp; omega) | omega)) | (with_reducible refine Below.alloc ?_ ?side _; case side => exact (by first | (simp; done) | (simp; omega) | omega))))) hb (by first | (simp; done) | (simp; omega) | omega))
  have HQ1 := Lib.hid (HQ.out.of_block (hb.block _ HQ.out.lt))
  clear hb HQ
  go_wp2_with fail
  refine (made_any Al L cl _ hL (HI.out.below H1.out)).mono ?_
  rintro e w2 ⟨s, A, c, rfl, hright, h4, hl4, hsat, hb⟩
  have H2 := Lib.hid (Below.step H1.out hb H1.out.size)
  have HQ2 := Lib.hid (HQ1.out.of_block (hb.block _ HQ1.out.lt))
  have HS := Lib.hid hsat
  have HR := Lib.hid hright
  have HL4 := Lib.hid hl4
  have h1 := hright.1
  clear hb H1 HQ1 hsat hright hl4
  obtain ⟨n, HN⟩ : ∃ n, Hid (s.n = n) := ⟨_, Lib.hid rfl⟩
  rw [HN.out] at h1 h4 ⊢
  have c0 : w2.cell? ⟨w.heap.size, 0, none⟩ = some (.int .i64 q0) := HQ2.out.cell (i := 0) (by simp)
  obtain ⟨t, htn, hte⟩ := rest q0 n h1 (by omega)
  have hn0 : ((n : Int) == 0) = false := by simp; omega
  have hn0' : ((n : Int) = 0) = False := by simp; omega
  go_wp2
  clear c0
  go_loopw [10, 11] (fun xv iv wr => ∃ (m : Nat) (bl cp : Nat → Nat) (a : Option Addr) (cc : Nat), m ≤ n ∧ iv = .int .i64 m ∧ xv = .slice a m cc ∧ Hid (XAt w2 s m bl cp (.slice a m cc) wr)) (fun _ iv _ => n - (intOf iv).toNat)
  case atStart => exact ⟨0, fun _ => 0, fun _ => 0, none, 0, by omega, rfl, rfl, Lib.hid (XAt.nil _ _ _ _ _ (Below.refl _ _))⟩
  case round =>
    obtain ⟨m, bl, cp, a, cc, hm, rfl, rfl, HX⟩ := hrel
    by_cases hlt : m < n
    · have hlt' : m < s.n := by rw [HN.out]; exact hlt
      obtain ⟨b, off, rfl, hbl, hc⟩ := HS.out.some_ (by omega)
      obtain ⟨Ai, ci, hcell, hf⟩ := hc m hlt'
      have c1 := (HX.out.below.cell (p := ⟨b, off + m, none⟩) hbl).trans hcell
      have HF := Lib.hid (hf.below HX.out.below)
      obtain ⟨l1, l6, -⟩ := HR.out.2.2 m hlt'
      clear hc hcell hf
      obtain ⟨Lm, HLm⟩ : ∃ Lm, Hid (s.len m = Lm) := ⟨_, Lib.hid rfl⟩
      rw [HLm.out] at c1 l1 l6 HF
      obtain ⟨b', off', rfl, hb', hc'⟩ := HF.out.some_ (by omega)
      have hzx := HX.out.below.size
      have hne : b ≠ wr.heap.size := by omega
      have hne2 : wr.heap.size ≠ b := by omega
      have c1' := (((Below.refl wr.heap.size wr).alloc (Nat.le_refl _) (.cells #[] 48)).cell (p := ⟨b, off + m, none⟩) (by show b < wr.heap.size; omega)).trans c1
      have HN1 := Lib.hid (frow_cells (W := wr.alloc (.cells #[] 48)) (b := b') (off := off') (L := Lm) (k := s.k m) (t := s.t m) (fun j hj => ⟨(((Below.refl wr.heap.size wr).alloc (Nat.le_refl _) (.cells #[] 48)).cell (p := ⟨b', off' + j * 2, none⟩) hb').trans (hc' j hj).1, (((Below.refl wr.heap.size wr).alloc (Nat.le_refl _) (.cells #[] 48)).cell (p := ⟨b', off' + j * 2 + 1, none⟩) hb').trans (hc' j hj).2⟩))
      clear hc'
      go_wp2_with (first
        | (at_builtin; (refine wpList_append_own _ rfl _ _ 46 rfl wr.heap.size 48 i0 (.agg #[.int .i64 0, .int .i64 0]) 2 16 Tryd.underlying46 hi0 hz1 hz2 hz3 rfl (by decide) _ 0 [] rfl (World.ownsRow_made wr #[] 0 (Nat.le_refl _) (by unfold maxLen; omega) rfl) ⟨b', off', none⟩ Lm ci (cellsF (s.k m) (s.t m) Lm) rfl (cellsF_length _ _ _) HN1.out (cellsF_one _ _ _) (by unfold maxLen; omega) (by omega) (by simp) ?_); intro v1 w3 hown1 hgrow1 _; rw [Nat.zero_add, List.nil_append] at hown1; obtain ⟨g1, cap1, rfl, hg1, -⟩ := World.ownsRow.form hown1 (by omega); have HB3 := Lib.hid (below_grown hgrow1); have HO3 := Lib.hid (own_mono hown1 hzx); have hz3' := HB3.out.size; clear hown1 hgrow1)
        | (at_builtin; (refine wpList_append_own _ rfl _ _ 23 rfl w2.heap.size 46 j0 (.slice none 0 0) 1 24 Tryd.underlying23 hj0 hy1 hy2 hy3 rfl (by decide) _ _ _ rfl ((HX.out.fresh HB3.out).own.alloc _) ⟨_, 0, none⟩ 1 1 [.slice (some ⟨g1, 0, none⟩) Lm cap1] rfl rfl (cell_one_at _ _ _ _ (by simp)) (by simp [Value.oneCell']) (by unfold maxLen; omega) (by omega) (by simp; omega) ?_); intro v' w4 hown' hgrow _; obtain ⟨g', cap', rfl⟩ := ownsRow_succ hown'; have Hnx := Lib.hid (HX.out.next HB3.out hg1 (by rw [HLm.out]; exact HO3.out) (by rw [HLm.out]; exact hown') (by rw [HLm.out]; exact hgrow)); clear hown' hgrow))
      go_roundw
      case rel => exact ⟨m + 1, _, _, _, cap', by omega, by go_num, rfl, Hnx⟩
      case measure => simp [intOf]; omega
    · have e : m = n := by omega
      subst e
      obtain ⟨g, rfl⟩ : ∃ g, a = some ⟨g, 0, none⟩ := by
        obtain ⟨g, cap, e, _, _⟩ := World.ownsRow.form HX.out.own (by omega)
        cases e
        exact ⟨g, rfl⟩
      have HQ3 := Lib.hid (HQ2.out.of_block (HX.out.below.block _ HQ2.out.lt))
      have c1 : wr.cell? ⟨w.heap.size, 1, none⟩ = some (.int .i64 q1) := HQ3.out.cell (i := 1) (by simp)
      have cx : wr.cell? ⟨g, t, none⟩ = some (.slice (some ⟨bl t, 0, none⟩) (s.len t) (cp t)) := by
        rw [World.ownsRow.cellAt HX.out.own t (by omega)]
        simp [cellsT, htn, adOf]
      have htn' : t < s.n := by rw [HN.out]; exact htn
      obtain ⟨l1, l6, -⟩ := HR.out.2.2 t htn'
      have hl4 := HL4.out t htn'
      obtain ⟨Lt, HLt⟩ : ∃ Lt, Hid (s.len t = Lt) := ⟨_, Lib.hid rfl⟩
      rw [HLt.out] at cx l1 l6 hl4
      obtain ⟨i, hiL, hie⟩ := rest q1 Lt l1 (by omega)
      have hL0 : ((Lt : Int) == 0) = false := by simp; omega
      have hL0' : ((Lt : Int) = 0) = False := by simp; omega
      go_wp2_with fail
      go_region
      have HX2 := Lib.hid (HX.out.fresh (Below.refl _ _).drew)
      clear c1 cx hte hie hn0 hn0' hL0 hL0'
      have HQ4 : Hid ((wr.drew.alloc (.cells #[.int .i64 1, .int .i64 0] 48)).cell? ⟨w.heap.size, 1, none⟩ = some (.int .i64 q1)) := Lib.hid ((((Below.refl wr.drew.heap.size wr.drew).alloc (Nat.le_refl _) (.cells #[.int .i64 1, .int .i64 0] 48)).cell (p := ⟨w.heap.size, 1, none⟩) HQ3.out.lt).trans (HQ3.out.cell (i := 1) (by simp)))
      generalize wr.drew = W at HX2 HQ4 ⊢
      have hQ4 : (W.alloc (.cells #[.int .i64 1, .int .i64 0] 48)).cell? ⟨w.heap.size, 1, none⟩ = some (.int .i64 q1) := HQ4.out
      have HX3 := Lib.hid (HX2.out.fresh ((Below.refl _ _).alloc (Nat.le_refl _) (.cells #[.int .i64 1, .int .i64 0] 48)))
      have hNUM := World.rowIs_alloc W #[.int .i64 1, .int .i64 0] 48 (fun j => if j = 0 then .int .i64 1 else .int .i64 0) (by intro j hj; match j, hj with | 0, _ => rfl | 1, _ => rfl)
      have HNUM := Lib.hid hNUM
      have hbn : bl t < W.heap.size := ((HX2.out.rows t htn).lt (bl t) rfl).2
      have hgn : g < W.heap.size := (HX2.out.own.lt g rfl).2
      have hm7 := HM.out
      have cx := HX3.out.head htn
      have cf := World.ownsRow.frozenAt HX3.out.own t
      obtain ⟨ck, ct⟩ := HX3.out.cells htn (i := i) (by rw [HLt.out]; exact hiL)
      have kf := World.ownsRow.frozenAt (HX3.out.rows t htn)
      have kf0 := kf (i * 2)
      have kf1 := kf (i * 2 + 1)
      rw [HLt.out] at cx
      clear kf hNUM
      clear HX HQ3 HQ4
      clear hQ4
      have hnb : bl t ≠ W.heap.size := by omega
      have hLt := HLt.out
      go_wp2_with fail
      clear cx cf ck ct kf0 kf1
      obtain ⟨nb, HNB⟩ : ∃ nb, Hid (W.heap.size = nb) := ⟨_, Lib.hid rfl⟩
      rw [HNB.out] at HNUM hnb ⊢
      have HSN := Lib.hid HN.out
      generalize (W.alloc (.cells #[.int .i64 1, .int .i64 0] 48)) = W4 at HX3 HNUM ⊢
      go_loopg [] 7 (fun k wr => ∃ (q : Nat) (bl' cp' : Nat → Nat) (x' : Sch), q ≤ 7 ∧ 7 - q ≤ k ∧ x'.len t = q ∧ x'.n = m ∧ bl' t ≠ nb ∧ Hid (XAt w2 x' m bl' cp' (.slice (some ⟨g, 0, none⟩) m cc) wr) ∧ Hid (wr.rowIs nb 48 2 (fun j => if j = 0 then .int .i64 1 else .int .i64 0)))
      case atStart => exact ⟨Lt, bl, cp, s, by omega, by omega, hLt, HSN.out, hnb, HX3, HNUM⟩
      case round =>
        clear HX3 HNUM hnb hLt HX2
        obtain ⟨q, bl', cp', x', hq7, hgk, hxl, hxn, hbn', HX, HNM⟩ := hrel
        have cx := HX.out.head htn
        rw [hxl] at cx
        have cf := World.ownsRow.frozenAt HX.out.own t
        have HRT := Lib.hid (HX.out.rows t htn)
        rw [hxl] at HRT
        have hgb : g ≠ bl' t := fun e => HX.out.row_ne htn (by show some (bl' t) = some g; rw [e])
        have hglt := (HX.out.own.lt g rfl).2
        have hzz := HX.out.below.size
        by_cases hq1 : q < 7
        · go_wp2_with (at_builtin; (refine wpList_append_own_at _ rfl _ _ 46 rfl w2.heap.size 48 i0 (.agg #[.int .i64 0, .int .i64 0]) 2 16 Tryd.underlying46 hi0 hz1 hz2 hz3 rfl (by decide) _ _ _ rfl HRT.out ⟨nb, 0, none⟩ 1 1 [.int .i64 1, .int .i64 0] rfl rfl (num_cells HNM.out) (by simp [Value.oneCell']) (by unfold maxLen; omega) (by omega) (by omega) ?_); intro v' w3 hown' hgrow _ hblk; obtain ⟨b3, cap3, rfl⟩ := ownsRow_succ hown'; have HO3 := Lib.hid (show w3.ownsRow w2.heap.size 48 2 (.slice (some ⟨b3, 0, none⟩) (q + 1) cap3) (q + 1) (cellsF (adPut (x'.k t) q 1) (adPut (x'.t t) q 0) (q + 1)) from by rw [cellsF_more]; exact hown'); have HG3 := Lib.hid (show wr.grownBy w3 (some (bl' t)) from hgrow); have HBK : Hid (b3 = bl' t ∨ b3 = wr.heap.size) := Lib.hid (hblk.elim (fun e => .inl (Option.some.inj e)) (fun e => .inr (Option.some.inj e))); have cx3 := (World.cell?_of_block (w := wr) (w' := w3) (a := ⟨g, t, none⟩) (HG3.out.block g hglt (fun e => hgb (Option.some.inj e)))).trans cx; have cf3 := (World.frozen?_of_block (w := wr) (w' := w3) (a := ⟨g, t, none⟩) (HG3.out.block g hglt (fun e => hgb (Option.some.inj e)))).trans cf; clear hown' hgrow hblk)
          have HX' := Lib.hid (HX.out.grow htn HO3.out HG3.out HBK.out)
          have HNM' : Hid ((w3.setCell ⟨g, t, none⟩ (.slice (some ⟨b3, 0, none⟩) (q + 1) cap3)).rowIs nb 48 2 (fun j => if j = 0 then .int .i64 1 else .int .i64 0)) := Lib.hid ((HNM.out.of_block (HG3.out.block nb HNM.out.lt (fun e => hbn' (Option.some.inj e).symm))).setOther (a := ⟨g, t, none⟩) (fun e => num_ne HNM.out HX.out.own e) _)
          go_roundg (7 - (q + 1))
          case measure => omega
          case rel =>
            refine ⟨q + 1, adPut bl' t b3, adPut cp' t cap3, x'.put t (q + 1) (adPut (x'.k t) q 1) (adPut (x'.t t) q 0), by omega, Nat.le_refl _, if_pos rfl, hxn, ?_, HX', HNM'⟩
            rw [adPut_at]
            rcases HBK.out with e | e
            · rw [e]; exact hbn'
            · have := HNM.out.lt; omega
        · have HXN : Hid (x'.n = m) := Lib.hid hxn
          have HNO : Hid (okS x' = false) := Lib.hid (okS_false fun h => by
            have h1 := (h.2.2 t (by rw [HXN.out]; exact htn)).2.1
            omega)
          have HXS := Lib.hid (HX.out.sat HXN.out)
          have HB5 := Lib.hid HX.out.below
          go_wp2_with fail
          clear HX HNM HRT cx cf
          have hwr : ∃ W5, W5 = wr := ⟨_, rfl⟩
          obtain ⟨W5, hw5⟩ := hwr
          subst hw5
          have hk := check_yes s A c W5 (HS.out.below HB5.out) (okS_true HR.out)
          rw [HN.out] at hk
          have HS5 := Lib.hid (HS.out.below HB5.out)
          have H5 := Lib.hid (Below.step H2.out HB5.out H2.out.size)
          clear HS H2 HB5
          go_wp2_with fail
          refine hk.mono ?_
          rintro e v1 ⟨rfl, hb⟩
          have HS6 := Lib.hid (HS5.out.below hb)
          have HX6 := Lib.hid (HXS.out.below hb)
          have H6 := Lib.hid (Below.step H5.out hb H5.out.size)
          clear hb hk HS5 HXS H5
          go_wp2_with fail
          refine (top_none _ (HE.out.below H6.out)).mono ?_
          rintro e v2 ⟨rfl, hb⟩
          have HS7 := Lib.hid (HS6.out.below hb)
          have HX7 := Lib.hid (HX6.out.below hb)
          have H7 := Lib.hid (Below.step H6.out hb H6.out.size)
          clear hb HS6 HX6 H6
          have hk := check_no x' _ cc v2 HX7.out HNO.out
          rw [HXN.out] at hk
          go_wp2_with fail
          refine hk.mono ?_
          rintro e v3 ⟨rfl, hb⟩
          have HS8 := Lib.hid (HS7.out.below hb)
          have HX8 := Lib.hid (HX7.out.below hb)
          have H8 := Lib.hid (Below.step H7.out hb H7.out.size)
          clear hb hk HS7 HX7 H7
          go_wp2_with fail
          refine (top_one 1 (by omega) _ (HE.out.below H8.out)).mono ?_
          rintro e v4 ⟨rfl, hb⟩
          have HS9 := Lib.hid (HS8.out.below hb)
          have HX9 := Lib.hid (HX8.out.below hb)
          have H9 := Lib.hid (Below.step H8.out hb H8.out.size)
          clear hb HS8 HX8 H8
          have hk := pack_no x' _ cc v4 HX9.out HNO.out
          rw [HXN.out] at hk
          go_wp2_with fail
          refine hk.mono ?_
          rintro e v5 ⟨rfl, hb⟩
          have HS10 := Lib.hid (HS9.out.below hb)
          have HX10 := Lib.hid (HX9.out.below hb)
          have H10 := Lib.hid (Below.step H9.out hb H9.out.size)
          clear hb hk HS9 HX9 H9
          have HD1 : Hid (dpAt x' 0 = 0) := Lib.hid (if_neg fun g => by rw [HNO.out] at g; cases g.1)
          have hk := deep_any x' _ cc 0 v5 HX10.out
          rw [HXN.out, HD1.out] at hk
          go_wp2_with fail
          refine hk.mono ?_
          rintro e v6 ⟨rfl, hb⟩
          have HS11 := Lib.hid (HS10.out.below hb)
          have H11 := Lib.hid (Below.step H10.out hb H10.out.size)
          clear hb hk HS10 HX10 H10
          have HD2 : Hid (dpAt s 0 = (deepS s 0 : Nat)) := Lib.hid (if_pos ⟨okS_true HR.out, by unfold hasT; have := HR.out.1; omega⟩)
          have hk := deep_any s A c 0 v6 HS11.out
          rw [HN.out, HD2.out] at hk
          have hd1 := deepS_pos s 0
          go_wp2_with fail
          refine hk.mono ?_
          rintro e v7 ⟨rfl, hb⟩
          have H12 := Lib.hid (Below.step H11.out hb H11.out.size)
          clear hb hk HS11 H11
          generalize deepS s 0 = D at hd1 ⊢
          have dD : decide (0 < (D : Int)) = true := by simp; omega
          have dD' : decide (0 < D) = true := by simp; omega
          go_wp2
          go_ret
          exact ⟨rfl, H12.out⟩

end Go.Proofs.YtfafffeeembceaaDoor
