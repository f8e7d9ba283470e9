/- PlanMakes: the four ways of Open, and any configs and words. -/
import Derived.Test.YtohncolnnkmljaaDoorPMkT
namespace Go.Proofs.YtohncolnnkmljaaDoor
open Go.RowKit
set_option maxRecDepth 100000 in
set_option maxHeartbeats 8000000 in
theorem lawMakes_bad (a0 a1 a2 a3 a4 a5 a6 a7 a8 : Int) (r : Cfg) (Q0 Q1 : V) (w : World) (hL : Lim w) (hE : Cs.ErrT w) (n : Nat) (n1 : 2 ≤ n) (n2 : n ≤ 65) (m : Nat) (hmask : bits .and .u64 (Q0.toNat : Int) 63 = (m : Int)) (hn : 2 + (m : Int) = (n : Int)) (ho : unpOk Q1.toNat = false) (hq : ¬ (Q0.toNat : Int) = 7597137583116413295) : Calls Tryd.prog 6 #[.agg #[.int .i64 a0, .int .i64 a1, .int .i64 a2, .int .i64 a3, .int .i64 a4, .int .i64 a5, .int .i64 a6, .int .i64 a7, .int .i64 a8], (.agg #[.int .i64 r.t, .int .i64 r.s, .int .i64 r.l, .int .i64 r.c, .int .i64 r.s0, .int .i64 r.n0, .int .i64 r.s1, .int .i64 r.n1, .int .i64 r.r]), .agg #[.int .u64 (Q0.toNat : Int), .int .u64 (Q1.toNat : Int)]] w fun e w' => e = .returned (.bool true) ∧ Below w.heap.size w w' := by
  have HL := Lib.hid hL
  have HE := Lib.hid hE
  have HMK := Lib.hid hmask
  have HNN := Lib.hid hn
  clear hL hE hmask hn
  have HOq := Lib.hid hq
  clear hq
  go_enter Tryd.func6, Tryd.ntmps6
  go_wp2_with fail
  refine (awake4_any _ (HL.out.below (by (repeat (first | with_reducible exact Below.refl _ _ | with_reducible refine Below.drew ?_ | (with_reducible refine Below.setCell ?_ ?side _; case side => exact (by first | (simp; done) | (simp; omega) | omega)) | (with_reducible refine Below.alloc ?_ ?side _; case side => exact (by first | (simp; done) | (simp; omega) | omega))))))).mono ?_
  rintro e w1 ⟨rfl, hb⟩
  have H1 := Lib.hid (Below.step (B := w.heap.size) (a := w) (by (repeat (first | with_reducible exact Below.refl _ _ | with_reducible refine Below.drew ?_ | (with_reducible refine Below.setCell ?_ ?side _; case side => exact (by first | (simp; done) | (simp; omega) | omega)) | (with_reducible refine Below.alloc ?_ ?side _; case side => exact (by first | (simp; done) | (simp; omega) | omega))))) hb (by first | (simp; done) | (simp; omega) | omega))
  have hA : ArrAt w1 w.heap.size 27 #[.int .i64 a0, .int .i64 a1, .int .i64 a2, .int .i64 a3, .int .i64 a4, .int .i64 a5, .int .i64 a6, .int .i64 a7, .int .i64 a8] := ArrAt.below (((arrAt_box w _ _).alloc _).alloc _) hb
  have hr0 := cfgAt_box (w.alloc (.cells #[.int .i64 a0, .int .i64 a1, .int .i64 a2, .int .i64 a3, .int .i64 a4, .int .i64 a5, .int .i64 a6, .int .i64 a7, .int .i64 a8] 27)) r
  have hq0 := arrAt_box ((w.alloc (.cells #[.int .i64 a0, .int .i64 a1, .int .i64 a2, .int .i64 a3, .int .i64 a4, .int .i64 a5, .int .i64 a6, .int .i64 a7, .int .i64 a8] 27)).alloc (.cells #[.int .i64 r.t, .int .i64 r.s, .int .i64 r.l, .int .i64 r.c, .int .i64 r.s0, .int .i64 r.n0, .int .i64 r.s1, .int .i64 r.n1, .int .i64 r.r] 26)) #[.int .u64 (Q0.toNat : Int), .int .u64 (Q1.toNat : Int)] 46
  simp only [World.size_alloc] at hr0 hq0
  have HR1 := Lib.hid (CfgAt.below (hr0.alloc _) hb)
  have HQ1 := Lib.hid (ArrAt.below hq0 hb)
  clear hb hr0 hq0
  obtain ⟨c0, c1, c2, c3, c4, c5, c6, c7, c8⟩ := hA.nine
  go_wp2_with fail
  refine (config_any a0 a1 a2 a3 a4 a5 a6 a7 a8 _).mono ?_
  rintro e w2 ⟨x, rfl, hx, hb⟩
  have HX := Lib.hid hx
  have H2 := Lib.hid (Below.step H1.out hb H1.out.size)
  have HR2 := Lib.hid (HR1.out.below hb)
  have HQ2 := Lib.hid (HQ1.out.below hb)
  clear hb hA H1 HR1 HQ1 c0 c1 c2 c3 c4 c5 c6 c7 c8 hx
  obtain ⟨N, hN⟩ : ∃ N : Nat, sizeC x = (N : Int) := ⟨(sizeC x).toNat, by have := HX.out.sizes; omega⟩
  have HN := Lib.hid hN
  have N1 : 7 ≤ N := by have := HX.out.sizes; omega
  have N2 : N ≤ 2869 := by have := HX.out.sizes; omega
  clear hN
  have hzw := H2.out.size
  go_wp2_with fail
  refine (make_yes x N _ (HL.out.below (by (repeat (first | with_reducible exact Below.refl _ _ | with_reducible exact H2.out | with_reducible refine Below.drew ?_ | (with_reducible refine Below.setCell ?_ ?side _; case side => exact (by have := (H2.out).size; first | (simp; done) | (simp; omega) | omega)) | (with_reducible refine Below.alloc ?_ ?side _; case side => exact (by have := (H2.out).size; first | (simp; done) | (simp; omega) | omega)))))) HX.out HN.out).mono ?_
  rintro e w3 ⟨p, c, y, rfl, hA, hyf, hys, hp, hc, hb⟩
  have l1 := HR2.out.lt
  have l2 := World.rowIs.lt HQ2.out
  simp at hp hc
  have HM3 := Lib.hid (show MM w (w.heap.size + 1) r (w.heap.size + 1 + 1) (Q0.toNat : Int) (Q1.toNat : Int) w2.heap.size x p c N y w3 from ⟨CfgAt.below (HR2.out.alloc _) hb, ArrAt.below (HQ2.out.alloc _) hb, (cfgAt_box w2 x).below hb, hA, by omega, by omega, by omega, ⟨by omega, by omega, by omega, by omega, by omega, by omega, by omega, by omega⟩, Below.step (B := w.heap.size) (a := w) (by (repeat (first | with_reducible exact Below.refl _ _ | with_reducible exact H2.out | with_reducible refine Below.drew ?_ | (with_reducible refine Below.setCell ?_ ?side _; case side => exact (by have := (H2.out).size; first | (simp; done) | (simp; omega) | omega)) | (with_reducible refine Below.alloc ?_ ?side _; case side => exact (by have := (H2.out).size; first | (simp; done) | (simp; omega) | omega))))) hb (by have := (H2.out).size; first | (simp; done) | (simp; omega) | omega)⟩)
  have HYF := Lib.hid hyf
  have HYS := Lib.hid hys
  clear hb hA hyf hys hp hc l1 l2 H2 HR2 HQ2 hzw
  generalize w.heap.size + 1 + 1 = sq at HM3 ⊢
  generalize w.heap.size + 1 = s1 at HM3 ⊢
  generalize w2.heap.size = b at HM3 ⊢
  obtain ⟨c0, c1, c2, c3, c4, c5, c6, c7, c8⟩ := HM3.out.cfg.cells
  go_wp2_with fail
  refine (r4Make_any x N _ HX.out HN.out).mono ?_
  rintro e w4 ⟨p', c', y', rfl, hRS, hyf', hys', hp', hc', hb⟩
  have HM4 := Lib.hid (HM3.out.below hb)
  have HRS := Lib.hid hRS
  have HYF' := Lib.hid hyf'
  have HYS' := Lib.hid hys'
  clear hb hRS hyf' hys' hp' hc' HM3 c0 c1 c2 c3 c4 c5 c6 c7 c8
  go_wp2_with fail
  refine (top_none _ (HE.out.below HM4.out.be)).mono ?_
  rintro e w5 ⟨rfl, hb⟩
  have HM5 := Lib.hid (HM4.out.below hb)
  have HRS5 := Lib.hid (HRS.out.below hb HRS.out.obj.lt HRS.out.row.lt)
  clear hb HM4 HRS
  go_wp2_with fail
  go_region_held3 (fun w' => w'.cell? ⟨p', 0, none⟩ = some (.slice (some ⟨c', 0, none⟩) N N) ∧ (MM w s1 r sq (Q0.toNat : Int) (Q1.toNat : Int) b x p c N y w' ∧ RS w' p' c' N y'))
    (first | exact ⟨HRS5.out.drewR.c 0 (by omega), HM5.out.drew, HRS5.out.drewR⟩ | exact ⟨R6.out.c 0 (by omega), M6.out, R6.out⟩ | exact ⟨R7.out.c 0 (by omega), M7.out, R7.out⟩ | assumption)
    (first
      | (go_at_call 30; (with_reducible refine (words_any _ p c N y HM5.out.drew.a (by omega) (by omega)).mono ?_); rintro e w6 ⟨g, cap1, G, rfl, hg, hcap, hrow, hG, hb⟩; have M6 := Lib.hid (HM5.out.drew.below hb); have R6 := Lib.hid (HRS5.out.drewR.below hb HRS5.out.drewR.obj.lt HRS5.out.drewR.row.lt); have HGR := Lib.hid hrow; have HG := Lib.hid hG; clear hb hrow hG)
      | (go_at_call 29; (refine (same_any _ g c' N cap1 N (wordsC x) (by omega) (fun j hj => by rw [HGR.out.cell (by omega), HG.out j hj, HYF.out j hj]) (fun j hj => by rw [R6.out.row.cell hj, HYF'.out j hj])).mono ?_); rintro e w7 ⟨rfl, hb⟩; have M7 := Lib.hid (M6.out.below hb); have R7 := Lib.hid (R6.out.below hb R6.out.obj.lt R6.out.row.lt); clear hb))
  clear HGR HG HM5 HRS5 M6 R6
  go_wp2_with fail
  refine (open_made _ p c N y x M7.out.a HX.out HN.out (HL.out.below M7.out.be) (by rw [HYF.out 0 (by omega), words_0]) (by rw [HYF.out 1 (by omega), words_1])).mono ?_
  rintro e w8 ⟨rfl, hb⟩
  have M8 := Lib.hid (M7.out.below hb)
  have R8 := Lib.hid (R7.out.below hb R7.out.obj.lt R7.out.row.lt)
  clear hb M7 R7
  go_wp2_with fail
  have M9 := Lib.hid (M8.out.alloc (.cells #[.int .i64 x.t, .int .i64 x.s, .int .i64 x.l, .int .i64 x.c, .int .i64 x.s0, .int .i64 x.n0, .int .i64 x.s1, .int .i64 x.n1, .int .i64 x.r] 26))
  have R9 := Lib.hid (show RS (w8.alloc (.cells #[.int .i64 x.t, .int .i64 x.s, .int .i64 x.l, .int .i64 x.c, .int .i64 x.s0, .int .i64 x.n0, .int .i64 x.s1, .int .i64 x.n1, .int .i64 x.r] 26)) p' c' N y' from ⟨R8.out.obj.alloc _, R8.out.row.alloc _, R8.out.ne⟩)
  have D9 := Lib.hid (cfgAt_box w8 x)
  clear M8 R8
  generalize w8.alloc (.cells #[.int .i64 x.t, .int .i64 x.s, .int .i64 x.l, .int .i64 x.c, .int .i64 x.s0, .int .i64 x.n0, .int .i64 x.s1, .int .i64 x.n1, .int .i64 x.r] 26) = W9 at M9 R9 D9 ⊢
  generalize w8.heap.size = d at D9 ⊢
  have HYB := Lib.hid (show 0 ≤ y.s ∧ y.s < 1000 * 10 by have := nz_bound (wordsC x) N; rw [HYS.out]; omega)
  have hnc := neq_config
  have hgc := guard_config
  have HST := Lib.hid (fun W h => (steps_any W p c N y h))
  rw [HYS.out] at HST
  have HP1 := Lib.hid (show ∀ W, RS W p' c' N y' → W.cell? ⟨p', 1, none⟩ = some (.int .i64 (nz (wordsC x) N)) from fun W h => by rw [h.c 1 (by omega), ← HYS'.out]; rfl)
  generalize nz (wordsC x) N = Z at HST HP1
  have HALL := Lib.hid (show ∀ W, MM w s1 r sq (Q0.toNat : Int) (Q1.toNat : Int) b x p c N y W → RS W p' c' N y' → CfgAt W d x → (W.cell? ⟨d, 0, none⟩ = some (.int .i64 x.t) ∧ W.cell? ⟨d, 1, none⟩ = some (.int .i64 x.s) ∧ W.cell? ⟨d, 2, none⟩ = some (.int .i64 x.l) ∧ W.cell? ⟨d, 3, none⟩ = some (.int .i64 x.c) ∧ W.cell? ⟨d, 4, none⟩ = some (.int .i64 x.s0) ∧ W.cell? ⟨d, 5, none⟩ = some (.int .i64 x.n0) ∧ W.cell? ⟨d, 6, none⟩ = some (.int .i64 x.s1) ∧ W.cell? ⟨d, 7, none⟩ = some (.int .i64 x.n1) ∧ W.cell? ⟨d, 8, none⟩ = some (.int .i64 x.r) ∧ W.cell? ⟨b, 0, none⟩ = some (.int .i64 x.t) ∧ W.cell? ⟨b, 1, none⟩ = some (.int .i64 x.s) ∧ W.cell? ⟨b, 2, none⟩ = some (.int .i64 x.l) ∧ W.cell? ⟨b, 3, none⟩ = some (.int .i64 x.c) ∧ W.cell? ⟨b, 4, none⟩ = some (.int .i64 x.s0) ∧ W.cell? ⟨b, 5, none⟩ = some (.int .i64 x.n0) ∧ W.cell? ⟨b, 6, none⟩ = some (.int .i64 x.s1) ∧ W.cell? ⟨b, 7, none⟩ = some (.int .i64 x.n1) ∧ W.cell? ⟨b, 8, none⟩ = some (.int .i64 x.r) ∧ W.cell? ⟨p', 1, none⟩ = some (.int .i64 Z) ∧ (MM w s1 r sq (Q0.toNat : Int) (Q1.toNat : Int) b x p c N y W ∧ RS W p' c' N y' ∧ CfgAt W d x)) from fun W h1 h2 h3 => by
    obtain ⟨e0, e1, e2, e3, e4, e5, e6, e7, e8⟩ := h3.cells
    obtain ⟨f0, f1, f2, f3, f4, f5, f6, f7, f8⟩ := h1.cfg.cells
    exact ⟨e0, e1, e2, e3, e4, e5, e6, e7, e8, f0, f1, f2, f3, f4, f5, f6, f7, f8, HP1.out W h2, h1, h2, h3⟩)
  go_region_held3 (fun w' => w'.cell? ⟨d, 0, none⟩ = some (.int .i64 x.t) ∧ w'.cell? ⟨d, 1, none⟩ = some (.int .i64 x.s) ∧ w'.cell? ⟨d, 2, none⟩ = some (.int .i64 x.l) ∧ w'.cell? ⟨d, 3, none⟩ = some (.int .i64 x.c) ∧ w'.cell? ⟨d, 4, none⟩ = some (.int .i64 x.s0) ∧ w'.cell? ⟨d, 5, none⟩ = some (.int .i64 x.n0) ∧ w'.cell? ⟨d, 6, none⟩ = some (.int .i64 x.s1) ∧ w'.cell? ⟨d, 7, none⟩ = some (.int .i64 x.n1) ∧ w'.cell? ⟨d, 8, none⟩ = some (.int .i64 x.r) ∧ w'.cell? ⟨b, 0, none⟩ = some (.int .i64 x.t) ∧ w'.cell? ⟨b, 1, none⟩ = some (.int .i64 x.s) ∧ w'.cell? ⟨b, 2, none⟩ = some (.int .i64 x.l) ∧ w'.cell? ⟨b, 3, none⟩ = some (.int .i64 x.c) ∧ w'.cell? ⟨b, 4, none⟩ = some (.int .i64 x.s0) ∧ w'.cell? ⟨b, 5, none⟩ = some (.int .i64 x.n0) ∧ w'.cell? ⟨b, 6, none⟩ = some (.int .i64 x.s1) ∧ w'.cell? ⟨b, 7, none⟩ = some (.int .i64 x.n1) ∧ w'.cell? ⟨b, 8, none⟩ = some (.int .i64 x.r) ∧ w'.cell? ⟨p', 1, none⟩ = some (.int .i64 Z) ∧ (MM w s1 r sq (Q0.toNat : Int) (Q1.toNat : Int) b x p c N y w' ∧ RS w' p' c' N y' ∧ CfgAt w' d x))
    (first | exact HALL.out _ M9.out.drew R9.out.drewR D9.out.drew | exact HALL.out _ M10.out R10.out D10.out | assumption)
    (first
      | (go_at_call 32; (with_reducible refine (HST.out _ M9.out.drew.a).mono ?_); rintro e w' ⟨rfl, rfl⟩)
      | (go_at_call 28; (with_reducible refine (top_none _ (HE.out.below M9.out.drew.be)).mono ?_); rintro e w10 ⟨rfl, hb⟩; have M10 := Lib.hid (M9.out.drew.below hb); have R10 := Lib.hid (R9.out.drewR.below hb R9.out.drewR.obj.lt R9.out.drewR.row.lt); have D10 := Lib.hid (CfgAt.below D9.out.drew hb); clear hb))
  clear HALL HP1 HST M9 R9 D9 R10 D10 hnc hgc HYS HYS' HYF'
  obtain ⟨c0, c1, c2, c3, c4, c5, c6, c7, c8⟩ := M10.out.raw.cells
  have rf := M10.out.raw.frozen
  obtain ⟨Mn, hMn⟩ : ∃ Mn : Int, (if (13 : Int) < r.n0 then 13 else r.n0) = Mn := ⟨_, rfl⟩
  go_wp2_with fail
  have M11 := Lib.hid (M10.out.setN0 Mn)
  clear M10 c0 c1 c2 c3 c4 c5 c6 c7 c8 rf hMn
  generalize w10.setCell ⟨s1, 5, none⟩ (.int .i64 Mn) = W11 at M11 ⊢
  refine (make_any { r with n0 := Mn } _ (HL.out.below M11.out.be)).mono ?_
  rintro e w12 ⟨o, ev, tv, rfl, ho1, htv, hTop, hb⟩
  have M12 := Lib.hid (M11.out.below hb)
  have HTP := Lib.hid hTop
  have HO1 := Lib.hid ho1
  have HTV := Lib.hid htv
  clear hb M11 hTop ho1 htv
  obtain ⟨c0, c1, c2, c3, c4, c5, c6, c7, c8⟩ := M12.out.raw.cells
  dsimp only at c0 c1 c2 c3 c4 c5 c6 c7 c8
  go_wp2_with fail
  refine (r4Right_any { r with n0 := Mn } _).mono ?_
  rintro e w13 ⟨rfl, hb⟩
  have M13 := Lib.hid (M12.out.below hb)
  clear hb M12 c0 c1 c2 c3 c4 c5 c6 c7 c8
  generalize rightB { r with n0 := Mn } = R at HO1 HTV ⊢
  have ho1 := HO1.out
  have ho2 : o.isSome = R := by cases o <;> cases R <;> simp_all
  have htv := HTV.out
  go_wp2_with fail
  refine (HTP.out _ (HE.out.below M13.out.be)).mono ?_
  rintro e w14 ⟨rfl, hb⟩
  have M14 := Lib.hid (M13.out.below hb)
  clear hb M13
  obtain ⟨e0, e1⟩ := M14.out.q.two
  have hmask := HMK.out
  have hn := HNN.out
  have m63 : (m : Int) ≤ 63 := by omega
  have hwm : IntKind.i64.wrap (m : Int) = (m : Int) := IntWalk.i64_in _ (by omega)
  go_wp2_with fail
  refine (new_some n (by omega) (by omega) _).mono ?_
  rintro e w15 ⟨rfl, hA, hb⟩
  have HBD := Lib.hid M14.out.bound
  have M15 := Lib.hid (M14.out.below hb)
  have A15 := Lib.hid (show AW w (w14.heap.size + 1) w14.heap.size n St.zero w15 from ⟨hA, by have := M14.out.be.size; omega, by have := M14.out.be.size; omega, M15.out.be⟩)
  have HP2 : Hid (w14.heap.size ≤ w14.heap.size + 1) := Lib.hid (by omega)
  clear hb hA M14 e0 e1 hmask hn hwm m63 ho1 ho2 htv HO1 HTV HTP
  generalize w14.heap.size + 1 = p2 at A15 HP2 ⊢
  generalize hc2 : w14.heap.size = c2 at A15 HBD HP2 ⊢
  clear hc2
  go_wp2_with fail
  refine (store_any _ p2 c2 n St.zero A15.out.a (by decide) (by decide) 0 7597137583116413295).mono ?_
  rintro e w16 ⟨rfl, hA, hO⟩
  have A16 := Lib.hid (A15.out.only hA hO)
  have M16 := Lib.hid (M15.out.other HBD.out HP2.out (Nat.le_refl _) hO)
  clear hA hO A15 M15
  have HF1 := Lib.hid (store_f0 St.zero n (by omega) 7597137583116413295)
  have hs1 := St.store_s St.zero n 0 7597137583116413295
  rw [show St.zero.s = 0 from rfl] at hs1
  have HS1 := Lib.hid hs1
  clear hs1
  generalize St.zero.store n 0 7597137583116413295 = y1 at A16 HF1 HS1
  obtain ⟨e0, e1⟩ := M16.out.q.two
  go_wp2_with fail
  refine (store_any _ p2 c2 n y1 A16.out.a (by rw [HS1.out]; decide) (by rw [HS1.out]; decide) 1 (Q1.toNat : Int)).mono ?_
  rintro e w17 ⟨rfl, hA, hO⟩
  have A17 := Lib.hid (A16.out.only hA hO)
  have M17 := Lib.hid (M16.out.other HBD.out HP2.out (Nat.le_refl _) hO)
  clear hA hO A16 M16 e0 e1
  have HF2 := Lib.hid (store_f1 y1 n (by omega) (Q1.toNat : Int))
  rw [HF1.out] at HF2
  generalize y1.store n 1 (Q1.toNat : Int) = y2 at A17 HF2
  clear HF1 HS1
  go_wp2_with fail
  refine (open_bad _ p2 c2 n y2 A17.out.a n1 (by omega) (by rw [HF2.out.2]; rfl) Q1 HF2.out.1 (HL.out.below A17.out.be) ho).mono ?_
  rintro e w18 ⟨rfl, hb⟩
  have M18 := Lib.hid ((M17.out.below hb).alloc (.cells #[.int .i64 zeroC.t, .int .i64 zeroC.s, .int .i64 zeroC.l, .int .i64 zeroC.c, .int .i64 zeroC.s0, .int .i64 zeroC.n0, .int .i64 zeroC.s1, .int .i64 zeroC.n1, .int .i64 zeroC.r] 26))
  have A18 := Lib.hid ((A17.out.below hb).alloc (.cells #[.int .i64 zeroC.t, .int .i64 zeroC.s, .int .i64 zeroC.l, .int .i64 zeroC.c, .int .i64 zeroC.s0, .int .i64 zeroC.n0, .int .i64 zeroC.s1, .int .i64 zeroC.n1, .int .i64 zeroC.r] 26))
  have D18 := Lib.hid (cfgAt_box w18 zeroC)
  clear hb M17 A17
  have e1 := M18.out.q.two.2
  go_wp2_with fail
  clear e1
  generalize w18.alloc (.cells #[.int .i64 zeroC.t, .int .i64 zeroC.s, .int .i64 zeroC.l, .int .i64 zeroC.c, .int .i64 zeroC.s0, .int .i64 zeroC.n0, .int .i64 zeroC.s1, .int .i64 zeroC.n1, .int .i64 zeroC.r] 26) = W18 at M18 A18 D18 ⊢
  generalize w18.heap.size = d18 at D18 ⊢
  have k := r4Unpack_any Q1 W18
  rw [unpV, if_neg (by rw [ho]; simp), ho] at k
  refine k.mono ?_
  rintro e w19 ⟨rfl, hb⟩
  have M19 := Lib.hid ((M18.out.below hb).alloc (.cells #[.int .i64 zeroC.t, .int .i64 zeroC.s, .int .i64 zeroC.l, .int .i64 zeroC.c, .int .i64 zeroC.s0, .int .i64 zeroC.n0, .int .i64 zeroC.s1, .int .i64 zeroC.n1, .int .i64 zeroC.r] 26))
  have A19 := Lib.hid ((A18.out.below hb).alloc (.cells #[.int .i64 zeroC.t, .int .i64 zeroC.s, .int .i64 zeroC.l, .int .i64 zeroC.c, .int .i64 zeroC.s0, .int .i64 zeroC.n0, .int .i64 zeroC.s1, .int .i64 zeroC.n1, .int .i64 zeroC.r] 26))
  have D19 := Lib.hid (show CfgAt (w19.alloc (.cells #[.int .i64 zeroC.t, .int .i64 zeroC.s, .int .i64 zeroC.l, .int .i64 zeroC.c, .int .i64 zeroC.s0, .int .i64 zeroC.n0, .int .i64 zeroC.s1, .int .i64 zeroC.n1, .int .i64 zeroC.r] 26)) d18 zeroC from CfgAt.alloc' (D18.out.below hb) _)
  have E19 := Lib.hid (cfgAt_box w19 zeroC)
  clear hb M18 A18 D18 k
  go_wp2_with fail
  generalize w19.alloc (.cells #[.int .i64 zeroC.t, .int .i64 zeroC.s, .int .i64 zeroC.l, .int .i64 zeroC.c, .int .i64 zeroC.s0, .int .i64 zeroC.n0, .int .i64 zeroC.s1, .int .i64 zeroC.n1, .int .i64 zeroC.r] 26) = W19 at M19 A19 D19 E19 ⊢
  generalize w19.heap.size = d19 at E19 ⊢
  refine (word_form 1 _).mono ?_
  rintro e w20 ⟨rfl, hb⟩
  have M20 := Lib.hid (M19.out.below hb)
  have A20 := Lib.hid (A19.out.below hb)
  have D20 := Lib.hid (D19.out.below hb)
  have E20 := Lib.hid (E19.out.below hb)
  clear hb M19 A19 D19 E19
  clear A20 D20 E20
  obtain ⟨e0, e1⟩ := M20.out.q.two
  go_wp2_with fail
  refine (store_any _ p c N y M20.out.a HYB.out.1 (by have := HYB.out.2; omega) 0 (Q0.toNat : Int)).mono ?_
  rintro e w21 ⟨rfl, hA, hO⟩
  have M21 := Lib.hid (M20.out.only hA hO)
  clear hA hO M20 e0 e1
  have HG0 := Lib.hid (store_f0 y N (by omega) (Q0.toNat : Int))
  have HG1 := Lib.hid (store_f01 y N (by omega) (Q0.toNat : Int))
  rw [HYF.out 1 (by omega), words_1] at HG1
  generalize y.store N 0 (Q0.toNat : Int) = y3 at M21 HG0 HG1
  go_wp2_with fail
  have hq := HOq.out
  refine (open_form _ p c N y3 M21.out.a (by omega) (by omega) (by rw [HG0.out]; simpa using hq)).mono ?_
  rintro e w22 ⟨rfl, hb⟩
  have M22 := Lib.hid ((M21.out.below hb).alloc (.cells #[.int .i64 zeroC.t, .int .i64 zeroC.s, .int .i64 zeroC.l, .int .i64 zeroC.c, .int .i64 zeroC.s0, .int .i64 zeroC.n0, .int .i64 zeroC.s1, .int .i64 zeroC.n1, .int .i64 zeroC.r] 26))
  clear hb M21
  go_wp2_with fail
  generalize w22.alloc (.cells #[.int .i64 zeroC.t, .int .i64 zeroC.s, .int .i64 zeroC.l, .int .i64 zeroC.c, .int .i64 zeroC.s0, .int .i64 zeroC.n0, .int .i64 zeroC.s1, .int .i64 zeroC.n1, .int .i64 zeroC.r] 26) = W22 at M22 ⊢
  refine (word_form 0 _).mono ?_
  rintro e w23 ⟨rfl, hb⟩
  have M23 := Lib.hid (M22.out.below hb)
  clear hb M22
  go_wp2_with fail
  refine (top_form 1 _ (HE.out.below M23.out.be)).mono ?_
  rintro e w24 ⟨rfl, hb⟩
  have M24 := Lib.hid (M23.out.below hb)
  clear hb M23
  obtain ⟨e0, e1⟩ := M24.out.q.two
  have dq : ((Q0.toNat : Int) == 7597137583116413295) = false := by simpa using hq
  have dq' : (Q0.toNat == 7597137583116413295) = false := by
    have h' : ¬ Q0.toNat = 7597137583116413295 := fun h => hq (by rw [h]; rfl)
    simpa using h'
  clear hq
  go_wp2_with fail
  refine (top_form 0 _ (HE.out.below M24.out.be)).mono ?_
  rintro e w25 ⟨rfl, hb⟩
  have M25 := Lib.hid (M24.out.below hb)
  clear hb M24 e0 e1
  go_wp2
  go_ret
  exact ⟨rfl, M25.out.be⟩

set_option maxRecDepth 100000 in
set_option maxHeartbeats 8000000 in
theorem lawMakes_mag (a0 a1 a2 a3 a4 a5 a6 a7 a8 : Int) (r : Cfg) (Q0 Q1 : V) (w : World) (hL : Lim w) (hE : Cs.ErrT w) (n : Nat) (n1 : 2 ≤ n) (n2 : n ≤ 65) (m : Nat) (hmask : bits .and .u64 (Q0.toNat : Int) 63 = (m : Int)) (hn : 2 + (m : Int) = (n : Int)) (ho : unpOk Q1.toNat = false) (hq : (Q0.toNat : Int) = 7597137583116413295) : Calls Tryd.prog 6 #[.agg #[.int .i64 a0, .int .i64 a1, .int .i64 a2, .int .i64 a3, .int .i64 a4, .int .i64 a5, .int .i64 a6, .int .i64 a7, .int .i64 a8], (.agg #[.int .i64 r.t, .int .i64 r.s, .int .i64 r.l, .int .i64 r.c, .int .i64 r.s0, .int .i64 r.n0, .int .i64 r.s1, .int .i64 r.n1, .int .i64 r.r]), .agg #[.int .u64 (Q0.toNat : Int), .int .u64 (Q1.toNat : Int)]] w fun e w' => e = .returned (.bool true) ∧ Below w.heap.size w w' := by
  have HL := Lib.hid hL
  have HE := Lib.hid hE
  have HMK := Lib.hid hmask
  have HNN := Lib.hid hn
  clear hL hE hmask hn
  have HOq := Lib.hid hq
  clear hq
  go_enter Tryd.func6, Tryd.ntmps6
  go_wp2_with fail
  refine (awake4_any _ (HL.out.below (by (repeat (first | with_reducible exact Below.refl _ _ | with_reducible refine Below.drew ?_ | (with_reducible refine Below.setCell ?_ ?side _; case side => exact (by first | (simp; done) | (simp; omega) | omega)) | (with_reducible refine Below.alloc ?_ ?side _; case side => exact (by first | (simp; done) | (simp; omega) | omega))))))).mono ?_
  rintro e w1 ⟨rfl, hb⟩
  have H1 := Lib.hid (Below.step (B := w.heap.size) (a := w) (by (repeat (first | with_reducible exact Below.refl _ _ | with_reducible refine Below.drew ?_ | (with_reducible refine Below.setCell ?_ ?side _; case side => exact (by first | (simp; done) | (simp; omega) | omega)) | (with_reducible refine Below.alloc ?_ ?side _; case side => exact (by first | (simp; done) | (simp; omega) | omega))))) hb (by first | (simp; done) | (simp; omega) | omega))
  have hA : ArrAt w1 w.heap.size 27 #[.int .i64 a0, .int .i64 a1, .int .i64 a2, .int .i64 a3, .int .i64 a4, .int .i64 a5, .int .i64 a6, .int .i64 a7, .int .i64 a8] := ArrAt.below (((arrAt_box w _ _).alloc _).alloc _) hb
  have hr0 := cfgAt_box (w.alloc (.cells #[.int .i64 a0, .int .i64 a1, .int .i64 a2, .int .i64 a3, .int .i64 a4, .int .i64 a5, .int .i64 a6, .int .i64 a7, .int .i64 a8] 27)) r
  have hq0 := arrAt_box ((w.alloc (.cells #[.int .i64 a0, .int .i64 a1, .int .i64 a2, .int .i64 a3, .int .i64 a4, .int .i64 a5, .int .i64 a6, .int .i64 a7, .int .i64 a8] 27)).alloc (.cells #[.int .i64 r.t, .int .i64 r.s, .int .i64 r.l, .int .i64 r.c, .int .i64 r.s0, .int .i64 r.n0, .int .i64 r.s1, .int .i64 r.n1, .int .i64 r.r] 26)) #[.int .u64 (Q0.toNat : Int), .int .u64 (Q1.toNat : Int)] 46
  simp only [World.size_alloc] at hr0 hq0
  have HR1 := Lib.hid (CfgAt.below (hr0.alloc _) hb)
  have HQ1 := Lib.hid (ArrAt.below hq0 hb)
  clear hb hr0 hq0
  obtain ⟨c0, c1, c2, c3, c4, c5, c6, c7, c8⟩ := hA.nine
  go_wp2_with fail
  refine (config_any a0 a1 a2 a3 a4 a5 a6 a7 a8 _).mono ?_
  rintro e w2 ⟨x, rfl, hx, hb⟩
  have HX := Lib.hid hx
  have H2 := Lib.hid (Below.step H1.out hb H1.out.size)
  have HR2 := Lib.hid (HR1.out.below hb)
  have HQ2 := Lib.hid (HQ1.out.below hb)
  clear hb hA H1 HR1 HQ1 c0 c1 c2 c3 c4 c5 c6 c7 c8 hx
  obtain ⟨N, hN⟩ : ∃ N : Nat, sizeC x = (N : Int) := ⟨(sizeC x).toNat, by have := HX.out.sizes; omega⟩
  have HN := Lib.hid hN
  have N1 : 7 ≤ N := by have := HX.out.sizes; omega
  have N2 : N ≤ 2869 := by have := HX.out.sizes; omega
  clear hN
  have hzw := H2.out.size
  go_wp2_with fail
  refine (make_yes x N _ (HL.out.below (by (repeat (first | with_reducible exact Below.refl _ _ | with_reducible exact H2.out | with_reducible refine Below.drew ?_ | (with_reducible refine Below.setCell ?_ ?side _; case side => exact (by have := (H2.out).size; first | (simp; done) | (simp; omega) | omega)) | (with_reducible refine Below.alloc ?_ ?side _; case side => exact (by have := (H2.out).size; first | (simp; done) | (simp; omega) | omega)))))) HX.out HN.out).mono ?_
  rintro e w3 ⟨p, c, y, rfl, hA, hyf, hys, hp, hc, hb⟩
  have l1 := HR2.out.lt
  have l2 := World.rowIs.lt HQ2.out
  simp at hp hc
  have HM3 := Lib.hid (show MM w (w.heap.size + 1) r (w.heap.size + 1 + 1) (Q0.toNat : Int) (Q1.toNat : Int) w2.heap.size x p c N y w3 from ⟨CfgAt.below (HR2.out.alloc _) hb, ArrAt.below (HQ2.out.alloc _) hb, (cfgAt_box w2 x).below hb, hA, by omega, by omega, by omega, ⟨by omega, by omega, by omega, by omega, by omega, by omega, by omega, by omega⟩, Below.step (B := w.heap.size) (a := w) (by (repeat (first | with_reducible exact Below.refl _ _ | with_reducible exact H2.out | with_reducible refine Below.drew ?_ | (with_reducible refine Below.setCell ?_ ?side _; case side => exact (by have := (H2.out).size; first | (simp; done) | (simp; omega) | omega)) | (with_reducible refine Below.alloc ?_ ?side _; case side => exact (by have := (H2.out).size; first | (simp; done) | (simp; omega) | omega))))) hb (by have := (H2.out).size; first | (simp; done) | (simp; omega) | omega)⟩)
  have HYF := Lib.hid hyf
  have HYS := Lib.hid hys
  clear hb hA hyf hys hp hc l1 l2 H2 HR2 HQ2 hzw
  generalize w.heap.size + 1 + 1 = sq at HM3 ⊢
  generalize w.heap.size + 1 = s1 at HM3 ⊢
  generalize w2.heap.size = b at HM3 ⊢
  obtain ⟨c0, c1, c2, c3, c4, c5, c6, c7, c8⟩ := HM3.out.cfg.cells
  go_wp2_with fail
  refine (r4Make_any x N _ HX.out HN.out).mono ?_
  rintro e w4 ⟨p', c', y', rfl, hRS, hyf', hys', hp', hc', hb⟩
  have HM4 := Lib.hid (HM3.out.below hb)
  have HRS := Lib.hid hRS
  have HYF' := Lib.hid hyf'
  have HYS' := Lib.hid hys'
  clear hb hRS hyf' hys' hp' hc' HM3 c0 c1 c2 c3 c4 c5 c6 c7 c8
  go_wp2_with fail
  refine (top_none _ (HE.out.below HM4.out.be)).mono ?_
  rintro e w5 ⟨rfl, hb⟩
  have HM5 := Lib.hid (HM4.out.below hb)
  have HRS5 := Lib.hid (HRS.out.below hb HRS.out.obj.lt HRS.out.row.lt)
  clear hb HM4 HRS
  go_wp2_with fail
  go_region_held3 (fun w' => w'.cell? ⟨p', 0, none⟩ = some (.slice (some ⟨c', 0, none⟩) N N) ∧ (MM w s1 r sq (Q0.toNat : Int) (Q1.toNat : Int) b x p c N y w' ∧ RS w' p' c' N y'))
    (first | exact ⟨HRS5.out.drewR.c 0 (by omega), HM5.out.drew, HRS5.out.drewR⟩ | exact ⟨R6.out.c 0 (by omega), M6.out, R6.out⟩ | exact ⟨R7.out.c 0 (by omega), M7.out, R7.out⟩ | assumption)
    (first
      | (go_at_call 30; (with_reducible refine (words_any _ p c N y HM5.out.drew.a (by omega) (by omega)).mono ?_); rintro e w6 ⟨g, cap1, G, rfl, hg, hcap, hrow, hG, hb⟩; have M6 := Lib.hid (HM5.out.drew.below hb); have R6 := Lib.hid (HRS5.out.drewR.below hb HRS5.out.drewR.obj.lt HRS5.out.drewR.row.lt); have HGR := Lib.hid hrow; have HG := Lib.hid hG; clear hb hrow hG)
      | (go_at_call 29; (refine (same_any _ g c' N cap1 N (wordsC x) (by omega) (fun j hj => by rw [HGR.out.cell (by omega), HG.out j hj, HYF.out j hj]) (fun j hj => by rw [R6.out.row.cell hj, HYF'.out j hj])).mono ?_); rintro e w7 ⟨rfl, hb⟩; have M7 := Lib.hid (M6.out.below hb); have R7 := Lib.hid (R6.out.below hb R6.out.obj.lt R6.out.row.lt); clear hb))
  clear HGR HG HM5 HRS5 M6 R6
  go_wp2_with fail
  refine (open_made _ p c N y x M7.out.a HX.out HN.out (HL.out.below M7.out.be) (by rw [HYF.out 0 (by omega), words_0]) (by rw [HYF.out 1 (by omega), words_1])).mono ?_
  rintro e w8 ⟨rfl, hb⟩
  have M8 := Lib.hid (M7.out.below hb)
  have R8 := Lib.hid (R7.out.below hb R7.out.obj.lt R7.out.row.lt)
  clear hb M7 R7
  go_wp2_with fail
  have M9 := Lib.hid (M8.out.alloc (.cells #[.int .i64 x.t, .int .i64 x.s, .int .i64 x.l, .int .i64 x.c, .int .i64 x.s0, .int .i64 x.n0, .int .i64 x.s1, .int .i64 x.n1, .int .i64 x.r] 26))
  have R9 := Lib.hid (show RS (w8.alloc (.cells #[.int .i64 x.t, .int .i64 x.s, .int .i64 x.l, .int .i64 x.c, .int .i64 x.s0, .int .i64 x.n0, .int .i64 x.s1, .int .i64 x.n1, .int .i64 x.r] 26)) p' c' N y' from ⟨R8.out.obj.alloc _, R8.out.row.alloc _, R8.out.ne⟩)
  have D9 := Lib.hid (cfgAt_box w8 x)
  clear M8 R8
  generalize w8.alloc (.cells #[.int .i64 x.t, .int .i64 x.s, .int .i64 x.l, .int .i64 x.c, .int .i64 x.s0, .int .i64 x.n0, .int .i64 x.s1, .int .i64 x.n1, .int .i64 x.r] 26) = W9 at M9 R9 D9 ⊢
  generalize w8.heap.size = d at D9 ⊢
  have HYB := Lib.hid (show 0 ≤ y.s ∧ y.s < 1000 * 10 by have := nz_bound (wordsC x) N; rw [HYS.out]; omega)
  have hnc := neq_config
  have hgc := guard_config
  have HST := Lib.hid (fun W h => (steps_any W p c N y h))
  rw [HYS.out] at HST
  have HP1 := Lib.hid (show ∀ W, RS W p' c' N y' → W.cell? ⟨p', 1, none⟩ = some (.int .i64 (nz (wordsC x) N)) from fun W h => by rw [h.c 1 (by omega), ← HYS'.out]; rfl)
  generalize nz (wordsC x) N = Z at HST HP1
  have HALL := Lib.hid (show ∀ W, MM w s1 r sq (Q0.toNat : Int) (Q1.toNat : Int) b x p c N y W → RS W p' c' N y' → CfgAt W d x → (W.cell? ⟨d, 0, none⟩ = some (.int .i64 x.t) ∧ W.cell? ⟨d, 1, none⟩ = some (.int .i64 x.s) ∧ W.cell? ⟨d, 2, none⟩ = some (.int .i64 x.l) ∧ W.cell? ⟨d, 3, none⟩ = some (.int .i64 x.c) ∧ W.cell? ⟨d, 4, none⟩ = some (.int .i64 x.s0) ∧ W.cell? ⟨d, 5, none⟩ = some (.int .i64 x.n0) ∧ W.cell? ⟨d, 6, none⟩ = some (.int .i64 x.s1) ∧ W.cell? ⟨d, 7, none⟩ = some (.int .i64 x.n1) ∧ W.cell? ⟨d, 8, none⟩ = some (.int .i64 x.r) ∧ W.cell? ⟨b, 0, none⟩ = some (.int .i64 x.t) ∧ W.cell? ⟨b, 1, none⟩ = some (.int .i64 x.s) ∧ W.cell? ⟨b, 2, none⟩ = some (.int .i64 x.l) ∧ W.cell? ⟨b, 3, none⟩ = some (.int .i64 x.c) ∧ W.cell? ⟨b, 4, none⟩ = some (.int .i64 x.s0) ∧ W.cell? ⟨b, 5, none⟩ = some (.int .i64 x.n0) ∧ W.cell? ⟨b, 6, none⟩ = some (.int .i64 x.s1) ∧ W.cell? ⟨b, 7, none⟩ = some (.int .i64 x.n1) ∧ W.cell? ⟨b, 8, none⟩ = some (.int .i64 x.r) ∧ W.cell? ⟨p', 1, none⟩ = some (.int .i64 Z) ∧ (MM w s1 r sq (Q0.toNat : Int) (Q1.toNat : Int) b x p c N y W ∧ RS W p' c' N y' ∧ CfgAt W d x)) from fun W h1 h2 h3 => by
    obtain ⟨e0, e1, e2, e3, e4, e5, e6, e7, e8⟩ := h3.cells
    obtain ⟨f0, f1, f2, f3, f4, f5, f6, f7, f8⟩ := h1.cfg.cells
    exact ⟨e0, e1, e2, e3, e4, e5, e6, e7, e8, f0, f1, f2, f3, f4, f5, f6, f7, f8, HP1.out W h2, h1, h2, h3⟩)
  go_region_held3 (fun w' => w'.cell? ⟨d, 0, none⟩ = some (.int .i64 x.t) ∧ w'.cell? ⟨d, 1, none⟩ = some (.int .i64 x.s) ∧ w'.cell? ⟨d, 2, none⟩ = some (.int .i64 x.l) ∧ w'.cell? ⟨d, 3, none⟩ = some (.int .i64 x.c) ∧ w'.cell? ⟨d, 4, none⟩ = some (.int .i64 x.s0) ∧ w'.cell? ⟨d, 5, none⟩ = some (.int .i64 x.n0) ∧ w'.cell? ⟨d, 6, none⟩ = some (.int .i64 x.s1) ∧ w'.cell? ⟨d, 7, none⟩ = some (.int .i64 x.n1) ∧ w'.cell? ⟨d, 8, none⟩ = some (.int .i64 x.r) ∧ w'.cell? ⟨b, 0, none⟩ = some (.int .i64 x.t) ∧ w'.cell? ⟨b, 1, none⟩ = some (.int .i64 x.s) ∧ w'.cell? ⟨b, 2, none⟩ = some (.int .i64 x.l) ∧ w'.cell? ⟨b, 3, none⟩ = some (.int .i64 x.c) ∧ w'.cell? ⟨b, 4, none⟩ = some (.int .i64 x.s0) ∧ w'.cell? ⟨b, 5, none⟩ = some (.int .i64 x.n0) ∧ w'.cell? ⟨b, 6, none⟩ = some (.int .i64 x.s1) ∧ w'.cell? ⟨b, 7, none⟩ = some (.int .i64 x.n1) ∧ w'.cell? ⟨b, 8, none⟩ = some (.int .i64 x.r) ∧ w'.cell? ⟨p', 1, none⟩ = some (.int .i64 Z) ∧ (MM w s1 r sq (Q0.toNat : Int) (Q1.toNat : Int) b x p c N y w' ∧ RS w' p' c' N y' ∧ CfgAt w' d x))
    (first | exact HALL.out _ M9.out.drew R9.out.drewR D9.out.drew | exact HALL.out _ M10.out R10.out D10.out | assumption)
    (first
      | (go_at_call 32; (with_reducible refine (HST.out _ M9.out.drew.a).mono ?_); rintro e w' ⟨rfl, rfl⟩)
      | (go_at_call 28; (with_reducible refine (top_none _ (HE.out.below M9.out.drew.be)).mono ?_); rintro e w10 ⟨rfl, hb⟩; have M10 := Lib.hid (M9.out.drew.below hb); have R10 := Lib.hid (R9.out.drewR.below hb R9.out.drewR.obj.lt R9.out.drewR.row.lt); have D10 := Lib.hid (CfgAt.below D9.out.drew hb); clear hb))
  clear HALL HP1 HST M9 R9 D9 R10 D10 hnc hgc HYS HYS' HYF'
  obtain ⟨c0, c1, c2, c3, c4, c5, c6, c7, c8⟩ := M10.out.raw.cells
  have rf := M10.out.raw.frozen
  obtain ⟨Mn, hMn⟩ : ∃ Mn : Int, (if (13 : Int) < r.n0 then 13 else r.n0) = Mn := ⟨_, rfl⟩
  go_wp2_with fail
  have M11 := Lib.hid (M10.out.setN0 Mn)
  clear M10 c0 c1 c2 c3 c4 c5 c6 c7 c8 rf hMn
  generalize w10.setCell ⟨s1, 5, none⟩ (.int .i64 Mn) = W11 at M11 ⊢
  refine (make_any { r with n0 := Mn } _ (HL.out.below M11.out.be)).mono ?_
  rintro e w12 ⟨o, ev, tv, rfl, ho1, htv, hTop, hb⟩
  have M12 := Lib.hid (M11.out.below hb)
  have HTP := Lib.hid hTop
  have HO1 := Lib.hid ho1
  have HTV := Lib.hid htv
  clear hb M11 hTop ho1 htv
  obtain ⟨c0, c1, c2, c3, c4, c5, c6, c7, c8⟩ := M12.out.raw.cells
  dsimp only at c0 c1 c2 c3 c4 c5 c6 c7 c8
  go_wp2_with fail
  refine (r4Right_any { r with n0 := Mn } _).mono ?_
  rintro e w13 ⟨rfl, hb⟩
  have M13 := Lib.hid (M12.out.below hb)
  clear hb M12 c0 c1 c2 c3 c4 c5 c6 c7 c8
  generalize rightB { r with n0 := Mn } = R at HO1 HTV ⊢
  have ho1 := HO1.out
  have ho2 : o.isSome = R := by cases o <;> cases R <;> simp_all
  have htv := HTV.out
  go_wp2_with fail
  refine (HTP.out _ (HE.out.below M13.out.be)).mono ?_
  rintro e w14 ⟨rfl, hb⟩
  have M14 := Lib.hid (M13.out.below hb)
  clear hb M13
  obtain ⟨e0, e1⟩ := M14.out.q.two
  have hmask := HMK.out
  have hn := HNN.out
  have m63 : (m : Int) ≤ 63 := by omega
  have hwm : IntKind.i64.wrap (m : Int) = (m : Int) := IntWalk.i64_in _ (by omega)
  go_wp2_with fail
  refine (new_some n (by omega) (by omega) _).mono ?_
  rintro e w15 ⟨rfl, hA, hb⟩
  have HBD := Lib.hid M14.out.bound
  have M15 := Lib.hid (M14.out.below hb)
  have A15 := Lib.hid (show AW w (w14.heap.size + 1) w14.heap.size n St.zero w15 from ⟨hA, by have := M14.out.be.size; omega, by have := M14.out.be.size; omega, M15.out.be⟩)
  have HP2 : Hid (w14.heap.size ≤ w14.heap.size + 1) := Lib.hid (by omega)
  clear hb hA M14 e0 e1 hmask hn hwm m63 ho1 ho2 htv HO1 HTV HTP
  generalize w14.heap.size + 1 = p2 at A15 HP2 ⊢
  generalize hc2 : w14.heap.size = c2 at A15 HBD HP2 ⊢
  clear hc2
  go_wp2_with fail
  refine (store_any _ p2 c2 n St.zero A15.out.a (by decide) (by decide) 0 7597137583116413295).mono ?_
  rintro e w16 ⟨rfl, hA, hO⟩
  have A16 := Lib.hid (A15.out.only hA hO)
  have M16 := Lib.hid (M15.out.other HBD.out HP2.out (Nat.le_refl _) hO)
  clear hA hO A15 M15
  have HF1 := Lib.hid (store_f0 St.zero n (by omega) 7597137583116413295)
  have hs1 := St.store_s St.zero n 0 7597137583116413295
  rw [show St.zero.s = 0 from rfl] at hs1
  have HS1 := Lib.hid hs1
  clear hs1
  generalize St.zero.store n 0 7597137583116413295 = y1 at A16 HF1 HS1
  obtain ⟨e0, e1⟩ := M16.out.q.two
  go_wp2_with fail
  refine (store_any _ p2 c2 n y1 A16.out.a (by rw [HS1.out]; decide) (by rw [HS1.out]; decide) 1 (Q1.toNat : Int)).mono ?_
  rintro e w17 ⟨rfl, hA, hO⟩
  have A17 := Lib.hid (A16.out.only hA hO)
  have M17 := Lib.hid (M16.out.other HBD.out HP2.out (Nat.le_refl _) hO)
  clear hA hO A16 M16 e0 e1
  have HF2 := Lib.hid (store_f1 y1 n (by omega) (Q1.toNat : Int))
  rw [HF1.out] at HF2
  generalize y1.store n 1 (Q1.toNat : Int) = y2 at A17 HF2
  clear HF1 HS1
  go_wp2_with fail
  refine (open_bad _ p2 c2 n y2 A17.out.a n1 (by omega) (by rw [HF2.out.2]; rfl) Q1 HF2.out.1 (HL.out.below A17.out.be) ho).mono ?_
  rintro e w18 ⟨rfl, hb⟩
  have M18 := Lib.hid ((M17.out.below hb).alloc (.cells #[.int .i64 zeroC.t, .int .i64 zeroC.s, .int .i64 zeroC.l, .int .i64 zeroC.c, .int .i64 zeroC.s0, .int .i64 zeroC.n0, .int .i64 zeroC.s1, .int .i64 zeroC.n1, .int .i64 zeroC.r] 26))
  have A18 := Lib.hid ((A17.out.below hb).alloc (.cells #[.int .i64 zeroC.t, .int .i64 zeroC.s, .int .i64 zeroC.l, .int .i64 zeroC.c, .int .i64 zeroC.s0, .int .i64 zeroC.n0, .int .i64 zeroC.s1, .int .i64 zeroC.n1, .int .i64 zeroC.r] 26))
  have D18 := Lib.hid (cfgAt_box w18 zeroC)
  clear hb M17 A17
  have e1 := M18.out.q.two.2
  go_wp2_with fail
  clear e1
  generalize w18.alloc (.cells #[.int .i64 zeroC.t, .int .i64 zeroC.s, .int .i64 zeroC.l, .int .i64 zeroC.c, .int .i64 zeroC.s0, .int .i64 zeroC.n0, .int .i64 zeroC.s1, .int .i64 zeroC.n1, .int .i64 zeroC.r] 26) = W18 at M18 A18 D18 ⊢
  generalize w18.heap.size = d18 at D18 ⊢
  have k := r4Unpack_any Q1 W18
  rw [unpV, if_neg (by rw [ho]; simp), ho] at k
  refine k.mono ?_
  rintro e w19 ⟨rfl, hb⟩
  have M19 := Lib.hid ((M18.out.below hb).alloc (.cells #[.int .i64 zeroC.t, .int .i64 zeroC.s, .int .i64 zeroC.l, .int .i64 zeroC.c, .int .i64 zeroC.s0, .int .i64 zeroC.n0, .int .i64 zeroC.s1, .int .i64 zeroC.n1, .int .i64 zeroC.r] 26))
  have A19 := Lib.hid ((A18.out.below hb).alloc (.cells #[.int .i64 zeroC.t, .int .i64 zeroC.s, .int .i64 zeroC.l, .int .i64 zeroC.c, .int .i64 zeroC.s0, .int .i64 zeroC.n0, .int .i64 zeroC.s1, .int .i64 zeroC.n1, .int .i64 zeroC.r] 26))
  have D19 := Lib.hid (show CfgAt (w19.alloc (.cells #[.int .i64 zeroC.t, .int .i64 zeroC.s, .int .i64 zeroC.l, .int .i64 zeroC.c, .int .i64 zeroC.s0, .int .i64 zeroC.n0, .int .i64 zeroC.s1, .int .i64 zeroC.n1, .int .i64 zeroC.r] 26)) d18 zeroC from CfgAt.alloc' (D18.out.below hb) _)
  have E19 := Lib.hid (cfgAt_box w19 zeroC)
  clear hb M18 A18 D18 k
  go_wp2_with fail
  generalize w19.alloc (.cells #[.int .i64 zeroC.t, .int .i64 zeroC.s, .int .i64 zeroC.l, .int .i64 zeroC.c, .int .i64 zeroC.s0, .int .i64 zeroC.n0, .int .i64 zeroC.s1, .int .i64 zeroC.n1, .int .i64 zeroC.r] 26) = W19 at M19 A19 D19 E19 ⊢
  generalize w19.heap.size = d19 at E19 ⊢
  refine (word_form 1 _).mono ?_
  rintro e w20 ⟨rfl, hb⟩
  have M20 := Lib.hid (M19.out.below hb)
  have A20 := Lib.hid (A19.out.below hb)
  have D20 := Lib.hid (D19.out.below hb)
  have E20 := Lib.hid (E19.out.below hb)
  clear hb M19 A19 D19 E19
  clear A20 D20 E20
  obtain ⟨e0, e1⟩ := M20.out.q.two
  go_wp2_with fail
  refine (store_any _ p c N y M20.out.a HYB.out.1 (by have := HYB.out.2; omega) 0 (Q0.toNat : Int)).mono ?_
  rintro e w21 ⟨rfl, hA, hO⟩
  have M21 := Lib.hid (M20.out.only hA hO)
  clear hA hO M20 e0 e1
  have HG0 := Lib.hid (store_f0 y N (by omega) (Q0.toNat : Int))
  have HG1 := Lib.hid (store_f01 y N (by omega) (Q0.toNat : Int))
  rw [HYF.out 1 (by omega), words_1] at HG1
  generalize y.store N 0 (Q0.toNat : Int) = y3 at M21 HG0 HG1
  go_wp2_with fail
  have hq := HOq.out
  refine (open_made _ p c N y3 x M21.out.a HX.out HN.out (HL.out.below M21.out.be) (by rw [HG0.out]; exact hq) HG1.out).mono ?_
  rintro e w22 ⟨rfl, hb⟩
  have M22 := Lib.hid ((M21.out.below hb).alloc (.cells #[.int .i64 x.t, .int .i64 x.s, .int .i64 x.l, .int .i64 x.c, .int .i64 x.s0, .int .i64 x.n0, .int .i64 x.s1, .int .i64 x.n1, .int .i64 x.r] 26))
  clear hb M21
  go_wp2_with fail
  generalize w22.alloc (.cells #[.int .i64 x.t, .int .i64 x.s, .int .i64 x.l, .int .i64 x.c, .int .i64 x.s0, .int .i64 x.n0, .int .i64 x.s1, .int .i64 x.n1, .int .i64 x.r] 26) = W22 at M22 ⊢
  refine (word_nil _).mono ?_
  rintro e w23 ⟨rfl, hb⟩
  have M23 := Lib.hid (M22.out.below hb)
  clear hb M22
  go_wp2_with fail
  refine (top_form 1 _ (HE.out.below M23.out.be)).mono ?_
  rintro e w24 ⟨rfl, hb⟩
  have M24 := Lib.hid (M23.out.below hb)
  clear hb M23
  obtain ⟨e0, e1⟩ := M24.out.q.two
  have dq : ((Q0.toNat : Int) == 7597137583116413295) = true := by simpa using hq
  have dq' : (Q0.toNat == 7597137583116413295) = true := by
    have h' : Q0.toNat = 7597137583116413295 := by omega
    simpa using h'
  clear hq
  go_wp2
  go_ret
  exact ⟨rfl, M24.out.be⟩

set_option maxRecDepth 100000 in
set_option maxHeartbeats 8000000 in
theorem lawMakes_good (a0 a1 a2 a3 a4 a5 a6 a7 a8 : Int) (r : Cfg) (Q0 Q1 : V) (w : World) (hL : Lim w) (hE : Cs.ErrT w) (n : Nat) (n1 : 2 ≤ n) (n2 : n ≤ 65) (m : Nat) (hmask : bits .and .u64 (Q0.toNat : Int) 63 = (m : Int)) (hn : 2 + (m : Int) = (n : Int)) (ho : unpOk Q1.toNat = true) (hs : sizeC (unpC Q1.toNat) = (n : Int)) : Calls Tryd.prog 6 #[.agg #[.int .i64 a0, .int .i64 a1, .int .i64 a2, .int .i64 a3, .int .i64 a4, .int .i64 a5, .int .i64 a6, .int .i64 a7, .int .i64 a8], (.agg #[.int .i64 r.t, .int .i64 r.s, .int .i64 r.l, .int .i64 r.c, .int .i64 r.s0, .int .i64 r.n0, .int .i64 r.s1, .int .i64 r.n1, .int .i64 r.r]), .agg #[.int .u64 (Q0.toNat : Int), .int .u64 (Q1.toNat : Int)]] w fun e w' => e = .returned (.bool true) ∧ Below w.heap.size w w' := by
  have HL := Lib.hid hL
  have HE := Lib.hid hE
  have HMK := Lib.hid hmask
  have HNN := Lib.hid hn
  clear hL hE hmask hn
  have HSq := Lib.hid hs
  clear hs
  go_enter Tryd.func6, Tryd.ntmps6
  go_wp2_with fail
  refine (awake4_any _ (HL.out.below (by (repeat (first | with_reducible exact Below.refl _ _ | with_reducible refine Below.drew ?_ | (with_reducible refine Below.setCell ?_ ?side _; case side => exact (by first | (simp; done) | (simp; omega) | omega)) | (with_reducible refine Below.alloc ?_ ?side _; case side => exact (by first | (simp; done) | (simp; omega) | omega))))))).mono ?_
  rintro e w1 ⟨rfl, hb⟩
  have H1 := Lib.hid (Below.step (B := w.heap.size) (a := w) (by (repeat (first | with_reducible exact Below.refl _ _ | with_reducible refine Below.drew ?_ | (with_reducible refine Below.setCell ?_ ?side _; case side => exact (by first | (simp; done) | (simp; omega) | omega)) | (with_reducible refine Below.alloc ?_ ?side _; case side => exact (by first | (simp; done) | (simp; omega) | omega))))) hb (by first | (simp; done) | (simp; omega) | omega))
  have hA : ArrAt w1 w.heap.size 27 #[.int .i64 a0, .int .i64 a1, .int .i64 a2, .int .i64 a3, .int .i64 a4, .int .i64 a5, .int .i64 a6, .int .i64 a7, .int .i64 a8] := ArrAt.below (((arrAt_box w _ _).alloc _).alloc _) hb
  have hr0 := cfgAt_box (w.alloc (.cells #[.int .i64 a0, .int .i64 a1, .int .i64 a2, .int .i64 a3, .int .i64 a4, .int .i64 a5, .int .i64 a6, .int .i64 a7, .int .i64 a8] 27)) r
  have hq0 := arrAt_box ((w.alloc (.cells #[.int .i64 a0, .int .i64 a1, .int .i64 a2, .int .i64 a3, .int .i64 a4, .int .i64 a5, .int .i64 a6, .int .i64 a7, .int .i64 a8] 27)).alloc (.cells #[.int .i64 r.t, .int .i64 r.s, .int .i64 r.l, .int .i64 r.c, .int .i64 r.s0, .int .i64 r.n0, .int .i64 r.s1, .int .i64 r.n1, .int .i64 r.r] 26)) #[.int .u64 (Q0.toNat : Int), .int .u64 (Q1.toNat : Int)] 46
  simp only [World.size_alloc] at hr0 hq0
  have HR1 := Lib.hid (CfgAt.below (hr0.alloc _) hb)
  have HQ1 := Lib.hid (ArrAt.below hq0 hb)
  clear hb hr0 hq0
  obtain ⟨c0, c1, c2, c3, c4, c5, c6, c7, c8⟩ := hA.nine
  go_wp2_with fail
  refine (config_any a0 a1 a2 a3 a4 a5 a6 a7 a8 _).mono ?_
  rintro e w2 ⟨x, rfl, hx, hb⟩
  have HX := Lib.hid hx
  have H2 := Lib.hid (Below.step H1.out hb H1.out.size)
  have HR2 := Lib.hid (HR1.out.below hb)
  have HQ2 := Lib.hid (HQ1.out.below hb)
  clear hb hA H1 HR1 HQ1 c0 c1 c2 c3 c4 c5 c6 c7 c8 hx
  obtain ⟨N, hN⟩ : ∃ N : Nat, sizeC x = (N : Int) := ⟨(sizeC x).toNat, by have := HX.out.sizes; omega⟩
  have HN := Lib.hid hN
  have N1 : 7 ≤ N := by have := HX.out.sizes; omega
  have N2 : N ≤ 2869 := by have := HX.out.sizes; omega
  clear hN
  have hzw := H2.out.size
  go_wp2_with fail
  refine (make_yes x N _ (HL.out.below (by (repeat (first | with_reducible exact Below.refl _ _ | with_reducible exact H2.out | with_reducible refine Below.drew ?_ | (with_reducible refine Below.setCell ?_ ?side _; case side => exact (by have := (H2.out).size; first | (simp; done) | (simp; omega) | omega)) | (with_reducible refine Below.alloc ?_ ?side _; case side => exact (by have := (H2.out).size; first | (simp; done) | (simp; omega) | omega)))))) HX.out HN.out).mono ?_
  rintro e w3 ⟨p, c, y, rfl, hA, hyf, hys, hp, hc, hb⟩
  have l1 := HR2.out.lt
  have l2 := World.rowIs.lt HQ2.out
  simp at hp hc
  have HM3 := Lib.hid (show MM w (w.heap.size + 1) r (w.heap.size + 1 + 1) (Q0.toNat : Int) (Q1.toNat : Int) w2.heap.size x p c N y w3 from ⟨CfgAt.below (HR2.out.alloc _) hb, ArrAt.below (HQ2.out.alloc _) hb, (cfgAt_box w2 x).below hb, hA, by omega, by omega, by omega, ⟨by omega, by omega, by omega, by omega, by omega, by omega, by omega, by omega⟩, Below.step (B := w.heap.size) (a := w) (by (repeat (first | with_reducible exact Below.refl _ _ | with_reducible exact H2.out | with_reducible refine Below.drew ?_ | (with_reducible refine Below.setCell ?_ ?side _; case side => exact (by have := (H2.out).size; first | (simp; done) | (simp; omega) | omega)) | (with_reducible refine Below.alloc ?_ ?side _; case side => exact (by have := (H2.out).size; first | (simp; done) | (simp; omega) | omega))))) hb (by have := (H2.out).size; first | (simp; done) | (simp; omega) | omega)⟩)
  have HYF := Lib.hid hyf
  have HYS := Lib.hid hys
  clear hb hA hyf hys hp hc l1 l2 H2 HR2 HQ2 hzw
  generalize w.heap.size + 1 + 1 = sq at HM3 ⊢
  generalize w.heap.size + 1 = s1 at HM3 ⊢
  generalize w2.heap.size = b at HM3 ⊢
  obtain ⟨c0, c1, c2, c3, c4, c5, c6, c7, c8⟩ := HM3.out.cfg.cells
  go_wp2_with fail
  refine (r4Make_any x N _ HX.out HN.out).mono ?_
  rintro e w4 ⟨p', c', y', rfl, hRS, hyf', hys', hp', hc', hb⟩
  have HM4 := Lib.hid (HM3.out.below hb)
  have HRS := Lib.hid hRS
  have HYF' := Lib.hid hyf'
  have HYS' := Lib.hid hys'
  clear hb hRS hyf' hys' hp' hc' HM3 c0 c1 c2 c3 c4 c5 c6 c7 c8
  go_wp2_with fail
  refine (top_none _ (HE.out.below HM4.out.be)).mono ?_
  rintro e w5 ⟨rfl, hb⟩
  have HM5 := Lib.hid (HM4.out.below hb)
  have HRS5 := Lib.hid (HRS.out.below hb HRS.out.obj.lt HRS.out.row.lt)
  clear hb HM4 HRS
  go_wp2_with fail
  go_region_held3 (fun w' => w'.cell? ⟨p', 0, none⟩ = some (.slice (some ⟨c', 0, none⟩) N N) ∧ (MM w s1 r sq (Q0.toNat : Int) (Q1.toNat : Int) b x p c N y w' ∧ RS w' p' c' N y'))
    (first | exact ⟨HRS5.out.drewR.c 0 (by omega), HM5.out.drew, HRS5.out.drewR⟩ | exact ⟨R6.out.c 0 (by omega), M6.out, R6.out⟩ | exact ⟨R7.out.c 0 (by omega), M7.out, R7.out⟩ | assumption)
    (first
      | (go_at_call 30; (with_reducible refine (words_any _ p c N y HM5.out.drew.a (by omega) (by omega)).mono ?_); rintro e w6 ⟨g, cap1, G, rfl, hg, hcap, hrow, hG, hb⟩; have M6 := Lib.hid (HM5.out.drew.below hb); have R6 := Lib.hid (HRS5.out.drewR.below hb HRS5.out.drewR.obj.lt HRS5.out.drewR.row.lt); have HGR := Lib.hid hrow; have HG := Lib.hid hG; clear hb hrow hG)
      | (go_at_call 29; (refine (same_any _ g c' N cap1 N (wordsC x) (by omega) (fun j hj => by rw [HGR.out.cell (by omega), HG.out j hj, HYF.out j hj]) (fun j hj => by rw [R6.out.row.cell hj, HYF'.out j hj])).mono ?_); rintro e w7 ⟨rfl, hb⟩; have M7 := Lib.hid (M6.out.below hb); have R7 := Lib.hid (R6.out.below hb R6.out.obj.lt R6.out.row.lt); clear hb))
  clear HGR HG HM5 HRS5 M6 R6
  go_wp2_with fail
  refine (open_made _ p c N y x M7.out.a HX.out HN.out (HL.out.below M7.out.be) (by rw [HYF.out 0 (by omega), words_0]) (by rw [HYF.out 1 (by omega), words_1])).mono ?_
  rintro e w8 ⟨rfl, hb⟩
  have M8 := Lib.hid (M7.out.below hb)
  have R8 := Lib.hid (R7.out.below hb R7.out.obj.lt R7.out.row.lt)
  clear hb M7 R7
  go_wp2_with fail
  have M9 := Lib.hid (M8.out.alloc (.cells #[.int .i64 x.t, .int .i64 x.s, .int .i64 x.l, .int .i64 x.c, .int .i64 x.s0, .int .i64 x.n0, .int .i64 x.s1, .int .i64 x.n1, .int .i64 x.r] 26))
  have R9 := Lib.hid (show RS (w8.alloc (.cells #[.int .i64 x.t, .int .i64 x.s, .int .i64 x.l, .int .i64 x.c, .int .i64 x.s0, .int .i64 x.n0, .int .i64 x.s1, .int .i64 x.n1, .int .i64 x.r] 26)) p' c' N y' from ⟨R8.out.obj.alloc _, R8.out.row.alloc _, R8.out.ne⟩)
  have D9 := Lib.hid (cfgAt_box w8 x)
  clear M8 R8
  generalize w8.alloc (.cells #[.int .i64 x.t, .int .i64 x.s, .int .i64 x.l, .int .i64 x.c, .int .i64 x.s0, .int .i64 x.n0, .int .i64 x.s1, .int .i64 x.n1, .int .i64 x.r] 26) = W9 at M9 R9 D9 ⊢
  generalize w8.heap.size = d at D9 ⊢
  have HYB := Lib.hid (show 0 ≤ y.s ∧ y.s < 1000 * 10 by have := nz_bound (wordsC x) N; rw [HYS.out]; omega)
  have hnc := neq_config
  have hgc := guard_config
  have HST := Lib.hid (fun W h => (steps_any W p c N y h))
  rw [HYS.out] at HST
  have HP1 := Lib.hid (show ∀ W, RS W p' c' N y' → W.cell? ⟨p', 1, none⟩ = some (.int .i64 (nz (wordsC x) N)) from fun W h => by rw [h.c 1 (by omega), ← HYS'.out]; rfl)
  generalize nz (wordsC x) N = Z at HST HP1
  have HALL := Lib.hid (show ∀ W, MM w s1 r sq (Q0.toNat : Int) (Q1.toNat : Int) b x p c N y W → RS W p' c' N y' → CfgAt W d x → (W.cell? ⟨d, 0, none⟩ = some (.int .i64 x.t) ∧ W.cell? ⟨d, 1, none⟩ = some (.int .i64 x.s) ∧ W.cell? ⟨d, 2, none⟩ = some (.int .i64 x.l) ∧ W.cell? ⟨d, 3, none⟩ = some (.int .i64 x.c) ∧ W.cell? ⟨d, 4, none⟩ = some (.int .i64 x.s0) ∧ W.cell? ⟨d, 5, none⟩ = some (.int .i64 x.n0) ∧ W.cell? ⟨d, 6, none⟩ = some (.int .i64 x.s1) ∧ W.cell? ⟨d, 7, none⟩ = some (.int .i64 x.n1) ∧ W.cell? ⟨d, 8, none⟩ = some (.int .i64 x.r) ∧ W.cell? ⟨b, 0, none⟩ = some (.int .i64 x.t) ∧ W.cell? ⟨b, 1, none⟩ = some (.int .i64 x.s) ∧ W.cell? ⟨b, 2, none⟩ = some (.int .i64 x.l) ∧ W.cell? ⟨b, 3, none⟩ = some (.int .i64 x.c) ∧ W.cell? ⟨b, 4, none⟩ = some (.int .i64 x.s0) ∧ W.cell? ⟨b, 5, none⟩ = some (.int .i64 x.n0) ∧ W.cell? ⟨b, 6, none⟩ = some (.int .i64 x.s1) ∧ W.cell? ⟨b, 7, none⟩ = some (.int .i64 x.n1) ∧ W.cell? ⟨b, 8, none⟩ = some (.int .i64 x.r) ∧ W.cell? ⟨p', 1, none⟩ = some (.int .i64 Z) ∧ (MM w s1 r sq (Q0.toNat : Int) (Q1.toNat : Int) b x p c N y W ∧ RS W p' c' N y' ∧ CfgAt W d x)) from fun W h1 h2 h3 => by
    obtain ⟨e0, e1, e2, e3, e4, e5, e6, e7, e8⟩ := h3.cells
    obtain ⟨f0, f1, f2, f3, f4, f5, f6, f7, f8⟩ := h1.cfg.cells
    exact ⟨e0, e1, e2, e3, e4, e5, e6, e7, e8, f0, f1, f2, f3, f4, f5, f6, f7, f8, HP1.out W h2, h1, h2, h3⟩)
  go_region_held3 (fun w' => w'.cell? ⟨d, 0, none⟩ = some (.int .i64 x.t) ∧ w'.cell? ⟨d, 1, none⟩ = some (.int .i64 x.s) ∧ w'.cell? ⟨d, 2, none⟩ = some (.int .i64 x.l) ∧ w'.cell? ⟨d, 3, none⟩ = some (.int .i64 x.c) ∧ w'.cell? ⟨d, 4, none⟩ = some (.int .i64 x.s0) ∧ w'.cell? ⟨d, 5, none⟩ = some (.int .i64 x.n0) ∧ w'.cell? ⟨d, 6, none⟩ = some (.int .i64 x.s1) ∧ w'.cell? ⟨d, 7, none⟩ = some (.int .i64 x.n1) ∧ w'.cell? ⟨d, 8, none⟩ = some (.int .i64 x.r) ∧ w'.cell? ⟨b, 0, none⟩ = some (.int .i64 x.t) ∧ w'.cell? ⟨b, 1, none⟩ = some (.int .i64 x.s) ∧ w'.cell? ⟨b, 2, none⟩ = some (.int .i64 x.l) ∧ w'.cell? ⟨b, 3, none⟩ = some (.int .i64 x.c) ∧ w'.cell? ⟨b, 4, none⟩ = some (.int .i64 x.s0) ∧ w'.cell? ⟨b, 5, none⟩ = some (.int .i64 x.n0) ∧ w'.cell? ⟨b, 6, none⟩ = some (.int .i64 x.s1) ∧ w'.cell? ⟨b, 7, none⟩ = some (.int .i64 x.n1) ∧ w'.cell? ⟨b, 8, none⟩ = some (.int .i64 x.r) ∧ w'.cell? ⟨p', 1, none⟩ = some (.int .i64 Z) ∧ (MM w s1 r sq (Q0.toNat : Int) (Q1.toNat : Int) b x p c N y w' ∧ RS w' p' c' N y' ∧ CfgAt w' d x))
    (first | exact HALL.out _ M9.out.drew R9.out.drewR D9.out.drew | exact HALL.out _ M10.out R10.out D10.out | assumption)
    (first
      | (go_at_call 32; (with_reducible refine (HST.out _ M9.out.drew.a).mono ?_); rintro e w' ⟨rfl, rfl⟩)
      | (go_at_call 28; (with_reducible refine (top_none _ (HE.out.below M9.out.drew.be)).mono ?_); rintro e w10 ⟨rfl, hb⟩; have M10 := Lib.hid (M9.out.drew.below hb); have R10 := Lib.hid (R9.out.drewR.below hb R9.out.drewR.obj.lt R9.out.drewR.row.lt); have D10 := Lib.hid (CfgAt.below D9.out.drew hb); clear hb))
  clear HALL HP1 HST M9 R9 D9 R10 D10 hnc hgc HYS HYS' HYF'
  obtain ⟨c0, c1, c2, c3, c4, c5, c6, c7, c8⟩ := M10.out.raw.cells
  have rf := M10.out.raw.frozen
  obtain ⟨Mn, hMn⟩ : ∃ Mn : Int, (if (13 : Int) < r.n0 then 13 else r.n0) = Mn := ⟨_, rfl⟩
  go_wp2_with fail
  have M11 := Lib.hid (M10.out.setN0 Mn)
  clear M10 c0 c1 c2 c3 c4 c5 c6 c7 c8 rf hMn
  generalize w10.setCell ⟨s1, 5, none⟩ (.int .i64 Mn) = W11 at M11 ⊢
  refine (make_any { r with n0 := Mn } _ (HL.out.below M11.out.be)).mono ?_
  rintro e w12 ⟨o, ev, tv, rfl, ho1, htv, hTop, hb⟩
  have M12 := Lib.hid (M11.out.below hb)
  have HTP := Lib.hid hTop
  have HO1 := Lib.hid ho1
  have HTV := Lib.hid htv
  clear hb M11 hTop ho1 htv
  obtain ⟨c0, c1, c2, c3, c4, c5, c6, c7, c8⟩ := M12.out.raw.cells
  dsimp only at c0 c1 c2 c3 c4 c5 c6 c7 c8
  go_wp2_with fail
  refine (r4Right_any { r with n0 := Mn } _).mono ?_
  rintro e w13 ⟨rfl, hb⟩
  have M13 := Lib.hid (M12.out.below hb)
  clear hb M12 c0 c1 c2 c3 c4 c5 c6 c7 c8
  generalize rightB { r with n0 := Mn } = R at HO1 HTV ⊢
  have ho1 := HO1.out
  have ho2 : o.isSome = R := by cases o <;> cases R <;> simp_all
  have htv := HTV.out
  go_wp2_with fail
  refine (HTP.out _ (HE.out.below M13.out.be)).mono ?_
  rintro e w14 ⟨rfl, hb⟩
  have M14 := Lib.hid (M13.out.below hb)
  clear hb M13
  obtain ⟨e0, e1⟩ := M14.out.q.two
  have hmask := HMK.out
  have hn := HNN.out
  have m63 : (m : Int) ≤ 63 := by omega
  have hwm : IntKind.i64.wrap (m : Int) = (m : Int) := IntWalk.i64_in _ (by omega)
  go_wp2_with fail
  refine (new_some n (by omega) (by omega) _).mono ?_
  rintro e w15 ⟨rfl, hA, hb⟩
  have HBD := Lib.hid M14.out.bound
  have M15 := Lib.hid (M14.out.below hb)
  have A15 := Lib.hid (show AW w (w14.heap.size + 1) w14.heap.size n St.zero w15 from ⟨hA, by have := M14.out.be.size; omega, by have := M14.out.be.size; omega, M15.out.be⟩)
  have HP2 : Hid (w14.heap.size ≤ w14.heap.size + 1) := Lib.hid (by omega)
  clear hb hA M14 e0 e1 hmask hn hwm m63 ho1 ho2 htv HO1 HTV HTP
  generalize w14.heap.size + 1 = p2 at A15 HP2 ⊢
  generalize hc2 : w14.heap.size = c2 at A15 HBD HP2 ⊢
  clear hc2
  go_wp2_with fail
  refine (store_any _ p2 c2 n St.zero A15.out.a (by decide) (by decide) 0 7597137583116413295).mono ?_
  rintro e w16 ⟨rfl, hA, hO⟩
  have A16 := Lib.hid (A15.out.only hA hO)
  have M16 := Lib.hid (M15.out.other HBD.out HP2.out (Nat.le_refl _) hO)
  clear hA hO A15 M15
  have HF1 := Lib.hid (store_f0 St.zero n (by omega) 7597137583116413295)
  have hs1 := St.store_s St.zero n 0 7597137583116413295
  rw [show St.zero.s = 0 from rfl] at hs1
  have HS1 := Lib.hid hs1
  clear hs1
  generalize St.zero.store n 0 7597137583116413295 = y1 at A16 HF1 HS1
  obtain ⟨e0, e1⟩ := M16.out.q.two
  go_wp2_with fail
  refine (store_any _ p2 c2 n y1 A16.out.a (by rw [HS1.out]; decide) (by rw [HS1.out]; decide) 1 (Q1.toNat : Int)).mono ?_
  rintro e w17 ⟨rfl, hA, hO⟩
  have A17 := Lib.hid (A16.out.only hA hO)
  have M17 := Lib.hid (M16.out.other HBD.out HP2.out (Nat.le_refl _) hO)
  clear hA hO A16 M16 e0 e1
  have HF2 := Lib.hid (store_f1 y1 n (by omega) (Q1.toNat : Int))
  rw [HF1.out] at HF2
  generalize y1.store n 1 (Q1.toNat : Int) = y2 at A17 HF2
  clear HF1 HS1
  go_wp2_with fail
  have hs := HSq.out
  have HU := Lib.hid (show Right (unpC Q1.toNat) from right_of (by rw [unpOk] at ho; simp at ho; exact ho.1))
  refine (open_good _ p2 c2 n y2 A17.out.a n1 (by omega) (by rw [HF2.out.2]; rfl) Q1 HF2.out.1 (HL.out.below A17.out.be) ho hs).mono ?_
  rintro e w18 ⟨rfl, hb⟩
  have M18 := Lib.hid ((M17.out.below hb).alloc (.cells #[.int .i64 (unpC Q1.toNat).t, .int .i64 (unpC Q1.toNat).s, .int .i64 (unpC Q1.toNat).l, .int .i64 (unpC Q1.toNat).c, .int .i64 (unpC Q1.toNat).s0, .int .i64 (unpC Q1.toNat).n0, .int .i64 (unpC Q1.toNat).s1, .int .i64 (unpC Q1.toNat).n1, .int .i64 (unpC Q1.toNat).r] 26))
  have A18 := Lib.hid ((A17.out.below hb).alloc (.cells #[.int .i64 (unpC Q1.toNat).t, .int .i64 (unpC Q1.toNat).s, .int .i64 (unpC Q1.toNat).l, .int .i64 (unpC Q1.toNat).c, .int .i64 (unpC Q1.toNat).s0, .int .i64 (unpC Q1.toNat).n0, .int .i64 (unpC Q1.toNat).s1, .int .i64 (unpC Q1.toNat).n1, .int .i64 (unpC Q1.toNat).r] 26))
  have D18 := Lib.hid (cfgAt_box w18 (unpC Q1.toNat))
  clear hb M17 A17
  have e1 := M18.out.q.two.2
  go_wp2_with fail
  clear e1
  generalize w18.alloc (.cells #[.int .i64 (unpC Q1.toNat).t, .int .i64 (unpC Q1.toNat).s, .int .i64 (unpC Q1.toNat).l, .int .i64 (unpC Q1.toNat).c, .int .i64 (unpC Q1.toNat).s0, .int .i64 (unpC Q1.toNat).n0, .int .i64 (unpC Q1.toNat).s1, .int .i64 (unpC Q1.toNat).n1, .int .i64 (unpC Q1.toNat).r] 26) = W18 at M18 A18 D18 ⊢
  generalize w18.heap.size = d18 at D18 ⊢
  have k := r4Unpack_any Q1 W18
  rw [unpV, if_pos ho, ho] at k
  refine k.mono ?_
  rintro e w19 ⟨rfl, hb⟩
  have M19 := Lib.hid ((M18.out.below hb).alloc (.cells #[.int .i64 (unpC Q1.toNat).t, .int .i64 (unpC Q1.toNat).s, .int .i64 (unpC Q1.toNat).l, .int .i64 (unpC Q1.toNat).c, .int .i64 (unpC Q1.toNat).s0, .int .i64 (unpC Q1.toNat).n0, .int .i64 (unpC Q1.toNat).s1, .int .i64 (unpC Q1.toNat).n1, .int .i64 (unpC Q1.toNat).r] 26))
  have A19 := Lib.hid ((A18.out.below hb).alloc (.cells #[.int .i64 (unpC Q1.toNat).t, .int .i64 (unpC Q1.toNat).s, .int .i64 (unpC Q1.toNat).l, .int .i64 (unpC Q1.toNat).c, .int .i64 (unpC Q1.toNat).s0, .int .i64 (unpC Q1.toNat).n0, .int .i64 (unpC Q1.toNat).s1, .int .i64 (unpC Q1.toNat).n1, .int .i64 (unpC Q1.toNat).r] 26))
  have D19 := Lib.hid (show CfgAt (w19.alloc (.cells #[.int .i64 (unpC Q1.toNat).t, .int .i64 (unpC Q1.toNat).s, .int .i64 (unpC Q1.toNat).l, .int .i64 (unpC Q1.toNat).c, .int .i64 (unpC Q1.toNat).s0, .int .i64 (unpC Q1.toNat).n0, .int .i64 (unpC Q1.toNat).s1, .int .i64 (unpC Q1.toNat).n1, .int .i64 (unpC Q1.toNat).r] 26)) d18 (unpC Q1.toNat) from CfgAt.alloc' (D18.out.below hb) _)
  have E19 := Lib.hid (cfgAt_box w19 (unpC Q1.toNat))
  clear hb M18 A18 D18 k
  go_wp2_with fail
  generalize w19.alloc (.cells #[.int .i64 (unpC Q1.toNat).t, .int .i64 (unpC Q1.toNat).s, .int .i64 (unpC Q1.toNat).l, .int .i64 (unpC Q1.toNat).c, .int .i64 (unpC Q1.toNat).s0, .int .i64 (unpC Q1.toNat).n0, .int .i64 (unpC Q1.toNat).s1, .int .i64 (unpC Q1.toNat).n1, .int .i64 (unpC Q1.toNat).r] 26) = W19 at M19 A19 D19 E19 ⊢
  generalize w19.heap.size = d19 at E19 ⊢
  refine (word_nil _).mono ?_
  rintro e w20 ⟨rfl, hb⟩
  have M20 := Lib.hid (M19.out.below hb)
  have A20 := Lib.hid (A19.out.below hb)
  have D20 := Lib.hid (D19.out.below hb)
  have E20 := Lib.hid (E19.out.below hb)
  clear hb M19 A19 D19 E19
  generalize unpC Q1.toNat = U at HU hs D20 E20 ⊢
  obtain ⟨c0, c1, c2', c3, c4, c5, c6, c7, c8⟩ := E20.out.cells
  have HSZ := Lib.hid hs
  clear hs
  go_wp2_with fail
  refine (r4Size_any U _ HU.out).mono ?_
  rintro e w21 ⟨rfl, hb⟩
  have A21 := Lib.hid (A20.out.below hb)
  have D21 := Lib.hid (D20.out.below hb)
  have E21 := Lib.hid (E20.out.below hb)
  clear hb M20 A20 D20 E20 c0 c1 c2' c3 c4 c5 c6 c7 c8
  rw [HSZ.out]
  go_wp2_with fail
  refine (len_any _ p2 c2 n y2 A21.out.a).mono ?_
  rintro e w' ⟨rfl, rfl⟩
  obtain ⟨c0, c1, c2', c3, c4, c5, c6, c7, c8⟩ := E21.out.cells
  obtain ⟨f0, f1, f2, f3, f4, f5, f6, f7, f8⟩ := D21.out.cells
  have heq := eql_config
  have hgc := guard_config
  have hes := cfgEq_self
  go_wp2_with fail
  refine (top_none _ (HE.out.below A21.out.be)).mono ?_
  rintro e w22 ⟨rfl, hb⟩
  have A22 := Lib.hid (A21.out.below hb)
  clear hb A21 D21 E21 c0 c1 c2' c3 c4 c5 c6 c7 c8 f0 f1 f2 f3 f4 f5 f6 f7 f8
  go_wp2
  go_ret
  exact ⟨rfl, A22.out.be⟩

set_option maxRecDepth 100000 in
set_option maxHeartbeats 8000000 in
theorem lawMakes_len (a0 a1 a2 a3 a4 a5 a6 a7 a8 : Int) (r : Cfg) (Q0 Q1 : V) (w : World) (hL : Lim w) (hE : Cs.ErrT w) (n : Nat) (n1 : 2 ≤ n) (n2 : n ≤ 65) (m : Nat) (hmask : bits .and .u64 (Q0.toNat : Int) 63 = (m : Int)) (hn : 2 + (m : Int) = (n : Int)) (ho : unpOk Q1.toNat = true) (hs : ¬ sizeC (unpC Q1.toNat) = (n : Int)) : Calls Tryd.prog 6 #[.agg #[.int .i64 a0, .int .i64 a1, .int .i64 a2, .int .i64 a3, .int .i64 a4, .int .i64 a5, .int .i64 a6, .int .i64 a7, .int .i64 a8], (.agg #[.int .i64 r.t, .int .i64 r.s, .int .i64 r.l, .int .i64 r.c, .int .i64 r.s0, .int .i64 r.n0, .int .i64 r.s1, .int .i64 r.n1, .int .i64 r.r]), .agg #[.int .u64 (Q0.toNat : Int), .int .u64 (Q1.toNat : Int)]] w fun e w' => e = .returned (.bool true) ∧ Below w.heap.size w w' := by
  have HL := Lib.hid hL
  have HE := Lib.hid hE
  have HMK := Lib.hid hmask
  have HNN := Lib.hid hn
  clear hL hE hmask hn
  have HSq := Lib.hid hs
  clear hs
  go_enter Tryd.func6, Tryd.ntmps6
  go_wp2_with fail
  refine (awake4_any _ (HL.out.below (by (repeat (first | with_reducible exact Below.refl _ _ | with_reducible refine Below.drew ?_ | (with_reducible refine Below.setCell ?_ ?side _; case side => exact (by first | (simp; done) | (simp; omega) | omega)) | (with_reducible refine Below.alloc ?_ ?side _; case side => exact (by first | (simp; done) | (simp; omega) | omega))))))).mono ?_
  rintro e w1 ⟨rfl, hb⟩
  have H1 := Lib.hid (Below.step (B := w.heap.size) (a := w) (by (repeat (first | with_reducible exact Below.refl _ _ | with_reducible refine Below.drew ?_ | (with_reducible refine Below.setCell ?_ ?side _; case side => exact (by first | (simp; done) | (simp; omega) | omega)) | (with_reducible refine Below.alloc ?_ ?side _; case side => exact (by first | (simp; done) | (simp; omega) | omega))))) hb (by first | (simp; done) | (simp; omega) | omega))
  have hA : ArrAt w1 w.heap.size 27 #[.int .i64 a0, .int .i64 a1, .int .i64 a2, .int .i64 a3, .int .i64 a4, .int .i64 a5, .int .i64 a6, .int .i64 a7, .int .i64 a8] := ArrAt.below (((arrAt_box w _ _).alloc _).alloc _) hb
  have hr0 := cfgAt_box (w.alloc (.cells #[.int .i64 a0, .int .i64 a1, .int .i64 a2, .int .i64 a3, .int .i64 a4, .int .i64 a5, .int .i64 a6, .int .i64 a7, .int .i64 a8] 27)) r
  have hq0 := arrAt_box ((w.alloc (.cells #[.int .i64 a0, .int .i64 a1, .int .i64 a2, .int .i64 a3, .int .i64 a4, .int .i64 a5, .int .i64 a6, .int .i64 a7, .int .i64 a8] 27)).alloc (.cells #[.int .i64 r.t, .int .i64 r.s, .int .i64 r.l, .int .i64 r.c, .int .i64 r.s0, .int .i64 r.n0, .int .i64 r.s1, .int .i64 r.n1, .int .i64 r.r] 26)) #[.int .u64 (Q0.toNat : Int), .int .u64 (Q1.toNat : Int)] 46
  simp only [World.size_alloc] at hr0 hq0
  have HR1 := Lib.hid (CfgAt.below (hr0.alloc _) hb)
  have HQ1 := Lib.hid (ArrAt.below hq0 hb)
  clear hb hr0 hq0
  obtain ⟨c0, c1, c2, c3, c4, c5, c6, c7, c8⟩ := hA.nine
  go_wp2_with fail
  refine (config_any a0 a1 a2 a3 a4 a5 a6 a7 a8 _).mono ?_
  rintro e w2 ⟨x, rfl, hx, hb⟩
  have HX := Lib.hid hx
  have H2 := Lib.hid (Below.step H1.out hb H1.out.size)
  have HR2 := Lib.hid (HR1.out.below hb)
  have HQ2 := Lib.hid (HQ1.out.below hb)
  clear hb hA H1 HR1 HQ1 c0 c1 c2 c3 c4 c5 c6 c7 c8 hx
  obtain ⟨N, hN⟩ : ∃ N : Nat, sizeC x = (N : Int) := ⟨(sizeC x).toNat, by have := HX.out.sizes; omega⟩
  have HN := Lib.hid hN
  have N1 : 7 ≤ N := by have := HX.out.sizes; omega
  have N2 : N ≤ 2869 := by have := HX.out.sizes; omega
  clear hN
  have hzw := H2.out.size
  go_wp2_with fail
  refine (make_yes x N _ (HL.out.below (by (repeat (first | with_reducible exact Below.refl _ _ | with_reducible exact H2.out | with_reducible refine Below.drew ?_ | (with_reducible refine Below.setCell ?_ ?side _; case side => exact (by have := (H2.out).size; first | (simp; done) | (simp; omega) | omega)) | (with_reducible refine Below.alloc ?_ ?side _; case side => exact (by have := (H2.out).size; first | (simp; done) | (simp; omega) | omega)))))) HX.out HN.out).mono ?_
  rintro e w3 ⟨p, c, y, rfl, hA, hyf, hys, hp, hc, hb⟩
  have l1 := HR2.out.lt
  have l2 := World.rowIs.lt HQ2.out
  simp at hp hc
  have HM3 := Lib.hid (show MM w (w.heap.size + 1) r (w.heap.size + 1 + 1) (Q0.toNat : Int) (Q1.toNat : Int) w2.heap.size x p c N y w3 from ⟨CfgAt.below (HR2.out.alloc _) hb, ArrAt.below (HQ2.out.alloc _) hb, (cfgAt_box w2 x).below hb, hA, by omega, by omega, by omega, ⟨by omega, by omega, by omega, by omega, by omega, by omega, by omega, by omega⟩, Below.step (B := w.heap.size) (a := w) (by (repeat (first | with_reducible exact Below.refl _ _ | with_reducible exact H2.out | with_reducible refine Below.drew ?_ | (with_reducible refine Below.setCell ?_ ?side _; case side => exact (by have := (H2.out).size; first | (simp; done) | (simp; omega) | omega)) | (with_reducible refine Below.alloc ?_ ?side _; case side => exact (by have := (H2.out).size; first | (simp; done) | (simp; omega) | omega))))) hb (by have := (H2.out).size; first | (simp; done) | (simp; omega) | omega)⟩)
  have HYF := Lib.hid hyf
  have HYS := Lib.hid hys
  clear hb hA hyf hys hp hc l1 l2 H2 HR2 HQ2 hzw
  generalize w.heap.size + 1 + 1 = sq at HM3 ⊢
  generalize w.heap.size + 1 = s1 at HM3 ⊢
  generalize w2.heap.size = b at HM3 ⊢
  obtain ⟨c0, c1, c2, c3, c4, c5, c6, c7, c8⟩ := HM3.out.cfg.cells
  go_wp2_with fail
  refine (r4Make_any x N _ HX.out HN.out).mono ?_
  rintro e w4 ⟨p', c', y', rfl, hRS, hyf', hys', hp', hc', hb⟩
  have HM4 := Lib.hid (HM3.out.below hb)
  have HRS := Lib.hid hRS
  have HYF' := Lib.hid hyf'
  have HYS' := Lib.hid hys'
  clear hb hRS hyf' hys' hp' hc' HM3 c0 c1 c2 c3 c4 c5 c6 c7 c8
  go_wp2_with fail
  refine (top_none _ (HE.out.below HM4.out.be)).mono ?_
  rintro e w5 ⟨rfl, hb⟩
  have HM5 := Lib.hid (HM4.out.below hb)
  have HRS5 := Lib.hid (HRS.out.below hb HRS.out.obj.lt HRS.out.row.lt)
  clear hb HM4 HRS
  go_wp2_with fail
  go_region_held3 (fun w' => w'.cell? ⟨p', 0, none⟩ = some (.slice (some ⟨c', 0, none⟩) N N) ∧ (MM w s1 r sq (Q0.toNat : Int) (Q1.toNat : Int) b x p c N y w' ∧ RS w' p' c' N y'))
    (first | exact ⟨HRS5.out.drewR.c 0 (by omega), HM5.out.drew, HRS5.out.drewR⟩ | exact ⟨R6.out.c 0 (by omega), M6.out, R6.out⟩ | exact ⟨R7.out.c 0 (by omega), M7.out, R7.out⟩ | assumption)
    (first
      | (go_at_call 30; (with_reducible refine (words_any _ p c N y HM5.out.drew.a (by omega) (by omega)).mono ?_); rintro e w6 ⟨g, cap1, G, rfl, hg, hcap, hrow, hG, hb⟩; have M6 := Lib.hid (HM5.out.drew.below hb); have R6 := Lib.hid (HRS5.out.drewR.below hb HRS5.out.drewR.obj.lt HRS5.out.drewR.row.lt); have HGR := Lib.hid hrow; have HG := Lib.hid hG; clear hb hrow hG)
      | (go_at_call 29; (refine (same_any _ g c' N cap1 N (wordsC x) (by omega) (fun j hj => by rw [HGR.out.cell (by omega), HG.out j hj, HYF.out j hj]) (fun j hj => by rw [R6.out.row.cell hj, HYF'.out j hj])).mono ?_); rintro e w7 ⟨rfl, hb⟩; have M7 := Lib.hid (M6.out.below hb); have R7 := Lib.hid (R6.out.below hb R6.out.obj.lt R6.out.row.lt); clear hb))
  clear HGR HG HM5 HRS5 M6 R6
  go_wp2_with fail
  refine (open_made _ p c N y x M7.out.a HX.out HN.out (HL.out.below M7.out.be) (by rw [HYF.out 0 (by omega), words_0]) (by rw [HYF.out 1 (by omega), words_1])).mono ?_
  rintro e w8 ⟨rfl, hb⟩
  have M8 := Lib.hid (M7.out.below hb)
  have R8 := Lib.hid (R7.out.below hb R7.out.obj.lt R7.out.row.lt)
  clear hb M7 R7
  go_wp2_with fail
  have M9 := Lib.hid (M8.out.alloc (.cells #[.int .i64 x.t, .int .i64 x.s, .int .i64 x.l, .int .i64 x.c, .int .i64 x.s0, .int .i64 x.n0, .int .i64 x.s1, .int .i64 x.n1, .int .i64 x.r] 26))
  have R9 := Lib.hid (show RS (w8.alloc (.cells #[.int .i64 x.t, .int .i64 x.s, .int .i64 x.l, .int .i64 x.c, .int .i64 x.s0, .int .i64 x.n0, .int .i64 x.s1, .int .i64 x.n1, .int .i64 x.r] 26)) p' c' N y' from ⟨R8.out.obj.alloc _, R8.out.row.alloc _, R8.out.ne⟩)
  have D9 := Lib.hid (cfgAt_box w8 x)
  clear M8 R8
  generalize w8.alloc (.cells #[.int .i64 x.t, .int .i64 x.s, .int .i64 x.l, .int .i64 x.c, .int .i64 x.s0, .int .i64 x.n0, .int .i64 x.s1, .int .i64 x.n1, .int .i64 x.r] 26) = W9 at M9 R9 D9 ⊢
  generalize w8.heap.size = d at D9 ⊢
  have HYB := Lib.hid (show 0 ≤ y.s ∧ y.s < 1000 * 10 by have := nz_bound (wordsC x) N; rw [HYS.out]; omega)
  have hnc := neq_config
  have hgc := guard_config
  have HST := Lib.hid (fun W h => (steps_any W p c N y h))
  rw [HYS.out] at HST
  have HP1 := Lib.hid (show ∀ W, RS W p' c' N y' → W.cell? ⟨p', 1, none⟩ = some (.int .i64 (nz (wordsC x) N)) from fun W h => by rw [h.c 1 (by omega), ← HYS'.out]; rfl)
  generalize nz (wordsC x) N = Z at HST HP1
  have HALL := Lib.hid (show ∀ W, MM w s1 r sq (Q0.toNat : Int) (Q1.toNat : Int) b x p c N y W → RS W p' c' N y' → CfgAt W d x → (W.cell? ⟨d, 0, none⟩ = some (.int .i64 x.t) ∧ W.cell? ⟨d, 1, none⟩ = some (.int .i64 x.s) ∧ W.cell? ⟨d, 2, none⟩ = some (.int .i64 x.l) ∧ W.cell? ⟨d, 3, none⟩ = some (.int .i64 x.c) ∧ W.cell? ⟨d, 4, none⟩ = some (.int .i64 x.s0) ∧ W.cell? ⟨d, 5, none⟩ = some (.int .i64 x.n0) ∧ W.cell? ⟨d, 6, none⟩ = some (.int .i64 x.s1) ∧ W.cell? ⟨d, 7, none⟩ = some (.int .i64 x.n1) ∧ W.cell? ⟨d, 8, none⟩ = some (.int .i64 x.r) ∧ W.cell? ⟨b, 0, none⟩ = some (.int .i64 x.t) ∧ W.cell? ⟨b, 1, none⟩ = some (.int .i64 x.s) ∧ W.cell? ⟨b, 2, none⟩ = some (.int .i64 x.l) ∧ W.cell? ⟨b, 3, none⟩ = some (.int .i64 x.c) ∧ W.cell? ⟨b, 4, none⟩ = some (.int .i64 x.s0) ∧ W.cell? ⟨b, 5, none⟩ = some (.int .i64 x.n0) ∧ W.cell? ⟨b, 6, none⟩ = some (.int .i64 x.s1) ∧ W.cell? ⟨b, 7, none⟩ = some (.int .i64 x.n1) ∧ W.cell? ⟨b, 8, none⟩ = some (.int .i64 x.r) ∧ W.cell? ⟨p', 1, none⟩ = some (.int .i64 Z) ∧ (MM w s1 r sq (Q0.toNat : Int) (Q1.toNat : Int) b x p c N y W ∧ RS W p' c' N y' ∧ CfgAt W d x)) from fun W h1 h2 h3 => by
    obtain ⟨e0, e1, e2, e3, e4, e5, e6, e7, e8⟩ := h3.cells
    obtain ⟨f0, f1, f2, f3, f4, f5, f6, f7, f8⟩ := h1.cfg.cells
    exact ⟨e0, e1, e2, e3, e4, e5, e6, e7, e8, f0, f1, f2, f3, f4, f5, f6, f7, f8, HP1.out W h2, h1, h2, h3⟩)
  go_region_held3 (fun w' => w'.cell? ⟨d, 0, none⟩ = some (.int .i64 x.t) ∧ w'.cell? ⟨d, 1, none⟩ = some (.int .i64 x.s) ∧ w'.cell? ⟨d, 2, none⟩ = some (.int .i64 x.l) ∧ w'.cell? ⟨d, 3, none⟩ = some (.int .i64 x.c) ∧ w'.cell? ⟨d, 4, none⟩ = some (.int .i64 x.s0) ∧ w'.cell? ⟨d, 5, none⟩ = some (.int .i64 x.n0) ∧ w'.cell? ⟨d, 6, none⟩ = some (.int .i64 x.s1) ∧ w'.cell? ⟨d, 7, none⟩ = some (.int .i64 x.n1) ∧ w'.cell? ⟨d, 8, none⟩ = some (.int .i64 x.r) ∧ w'.cell? ⟨b, 0, none⟩ = some (.int .i64 x.t) ∧ w'.cell? ⟨b, 1, none⟩ = some (.int .i64 x.s) ∧ w'.cell? ⟨b, 2, none⟩ = some (.int .i64 x.l) ∧ w'.cell? ⟨b, 3, none⟩ = some (.int .i64 x.c) ∧ w'.cell? ⟨b, 4, none⟩ = some (.int .i64 x.s0) ∧ w'.cell? ⟨b, 5, none⟩ = some (.int .i64 x.n0) ∧ w'.cell? ⟨b, 6, none⟩ = some (.int .i64 x.s1) ∧ w'.cell? ⟨b, 7, none⟩ = some (.int .i64 x.n1) ∧ w'.cell? ⟨b, 8, none⟩ = some (.int .i64 x.r) ∧ w'.cell? ⟨p', 1, none⟩ = some (.int .i64 Z) ∧ (MM w s1 r sq (Q0.toNat : Int) (Q1.toNat : Int) b x p c N y w' ∧ RS w' p' c' N y' ∧ CfgAt w' d x))
    (first | exact HALL.out _ M9.out.drew R9.out.drewR D9.out.drew | exact HALL.out _ M10.out R10.out D10.out | assumption)
    (first
      | (go_at_call 32; (with_reducible refine (HST.out _ M9.out.drew.a).mono ?_); rintro e w' ⟨rfl, rfl⟩)
      | (go_at_call 28; (with_reducible refine (top_none _ (HE.out.below M9.out.drew.be)).mono ?_); rintro e w10 ⟨rfl, hb⟩; have M10 := Lib.hid (M9.out.drew.below hb); have R10 := Lib.hid (R9.out.drewR.below hb R9.out.drewR.obj.lt R9.out.drewR.row.lt); have D10 := Lib.hid (CfgAt.below D9.out.drew hb); clear hb))
  clear HALL HP1 HST M9 R9 D9 R10 D10 hnc hgc HYS HYS' HYF'
  obtain ⟨c0, c1, c2, c3, c4, c5, c6, c7, c8⟩ := M10.out.raw.cells
  have rf := M10.out.raw.frozen
  obtain ⟨Mn, hMn⟩ : ∃ Mn : Int, (if (13 : Int) < r.n0 then 13 else r.n0) = Mn := ⟨_, rfl⟩
  go_wp2_with fail
  have M11 := Lib.hid (M10.out.setN0 Mn)
  clear M10 c0 c1 c2 c3 c4 c5 c6 c7 c8 rf hMn
  generalize w10.setCell ⟨s1, 5, none⟩ (.int .i64 Mn) = W11 at M11 ⊢
  refine (make_any { r with n0 := Mn } _ (HL.out.below M11.out.be)).mono ?_
  rintro e w12 ⟨o, ev, tv, rfl, ho1, htv, hTop, hb⟩
  have M12 := Lib.hid (M11.out.below hb)
  have HTP := Lib.hid hTop
  have HO1 := Lib.hid ho1
  have HTV := Lib.hid htv
  clear hb M11 hTop ho1 htv
  obtain ⟨c0, c1, c2, c3, c4, c5, c6, c7, c8⟩ := M12.out.raw.cells
  dsimp only at c0 c1 c2 c3 c4 c5 c6 c7 c8
  go_wp2_with fail
  refine (r4Right_any { r with n0 := Mn } _).mono ?_
  rintro e w13 ⟨rfl, hb⟩
  have M13 := Lib.hid (M12.out.below hb)
  clear hb M12 c0 c1 c2 c3 c4 c5 c6 c7 c8
  generalize rightB { r with n0 := Mn } = R at HO1 HTV ⊢
  have ho1 := HO1.out
  have ho2 : o.isSome = R := by cases o <;> cases R <;> simp_all
  have htv := HTV.out
  go_wp2_with fail
  refine (HTP.out _ (HE.out.below M13.out.be)).mono ?_
  rintro e w14 ⟨rfl, hb⟩
  have M14 := Lib.hid (M13.out.below hb)
  clear hb M13
  obtain ⟨e0, e1⟩ := M14.out.q.two
  have hmask := HMK.out
  have hn := HNN.out
  have m63 : (m : Int) ≤ 63 := by omega
  have hwm : IntKind.i64.wrap (m : Int) = (m : Int) := IntWalk.i64_in _ (by omega)
  go_wp2_with fail
  refine (new_some n (by omega) (by omega) _).mono ?_
  rintro e w15 ⟨rfl, hA, hb⟩
  have HBD := Lib.hid M14.out.bound
  have M15 := Lib.hid (M14.out.below hb)
  have A15 := Lib.hid (show AW w (w14.heap.size + 1) w14.heap.size n St.zero w15 from ⟨hA, by have := M14.out.be.size; omega, by have := M14.out.be.size; omega, M15.out.be⟩)
  have HP2 : Hid (w14.heap.size ≤ w14.heap.size + 1) := Lib.hid (by omega)
  clear hb hA M14 e0 e1 hmask hn hwm m63 ho1 ho2 htv HO1 HTV HTP
  generalize w14.heap.size + 1 = p2 at A15 HP2 ⊢
  generalize hc2 : w14.heap.size = c2 at A15 HBD HP2 ⊢
  clear hc2
  go_wp2_with fail
  refine (store_any _ p2 c2 n St.zero A15.out.a (by decide) (by decide) 0 7597137583116413295).mono ?_
  rintro e w16 ⟨rfl, hA, hO⟩
  have A16 := Lib.hid (A15.out.only hA hO)
  have M16 := Lib.hid (M15.out.other HBD.out HP2.out (Nat.le_refl _) hO)
  clear hA hO A15 M15
  have HF1 := Lib.hid (store_f0 St.zero n (by omega) 7597137583116413295)
  have hs1 := St.store_s St.zero n 0 7597137583116413295
  rw [show St.zero.s = 0 from rfl] at hs1
  have HS1 := Lib.hid hs1
  clear hs1
  generalize St.zero.store n 0 7597137583116413295 = y1 at A16 HF1 HS1
  obtain ⟨e0, e1⟩ := M16.out.q.two
  go_wp2_with fail
  refine (store_any _ p2 c2 n y1 A16.out.a (by rw [HS1.out]; decide) (by rw [HS1.out]; decide) 1 (Q1.toNat : Int)).mono ?_
  rintro e w17 ⟨rfl, hA, hO⟩
  have A17 := Lib.hid (A16.out.only hA hO)
  have M17 := Lib.hid (M16.out.other HBD.out HP2.out (Nat.le_refl _) hO)
  clear hA hO A16 M16 e0 e1
  have HF2 := Lib.hid (store_f1 y1 n (by omega) (Q1.toNat : Int))
  rw [HF1.out] at HF2
  generalize y1.store n 1 (Q1.toNat : Int) = y2 at A17 HF2
  clear HF1 HS1
  go_wp2_with fail
  have hs := HSq.out
  have HU := Lib.hid (show Right (unpC Q1.toNat) from right_of (by rw [unpOk] at ho; simp at ho; exact ho.1))
  refine (open_len _ p2 c2 n y2 A17.out.a n1 (by omega) (by rw [HF2.out.2]; rfl) Q1 HF2.out.1 (HL.out.below A17.out.be) ho hs).mono ?_
  rintro e w18 ⟨rfl, hb⟩
  have M18 := Lib.hid ((M17.out.below hb).alloc (.cells #[.int .i64 zeroC.t, .int .i64 zeroC.s, .int .i64 zeroC.l, .int .i64 zeroC.c, .int .i64 zeroC.s0, .int .i64 zeroC.n0, .int .i64 zeroC.s1, .int .i64 zeroC.n1, .int .i64 zeroC.r] 26))
  have A18 := Lib.hid ((A17.out.below hb).alloc (.cells #[.int .i64 zeroC.t, .int .i64 zeroC.s, .int .i64 zeroC.l, .int .i64 zeroC.c, .int .i64 zeroC.s0, .int .i64 zeroC.n0, .int .i64 zeroC.s1, .int .i64 zeroC.n1, .int .i64 zeroC.r] 26))
  have D18 := Lib.hid (cfgAt_box w18 zeroC)
  clear hb M17 A17
  have e1 := M18.out.q.two.2
  go_wp2_with fail
  clear e1
  generalize w18.alloc (.cells #[.int .i64 zeroC.t, .int .i64 zeroC.s, .int .i64 zeroC.l, .int .i64 zeroC.c, .int .i64 zeroC.s0, .int .i64 zeroC.n0, .int .i64 zeroC.s1, .int .i64 zeroC.n1, .int .i64 zeroC.r] 26) = W18 at M18 A18 D18 ⊢
  generalize w18.heap.size = d18 at D18 ⊢
  have k := r4Unpack_any Q1 W18
  rw [unpV, if_pos ho, ho] at k
  refine k.mono ?_
  rintro e w19 ⟨rfl, hb⟩
  have M19 := Lib.hid ((M18.out.below hb).alloc (.cells #[.int .i64 (unpC Q1.toNat).t, .int .i64 (unpC Q1.toNat).s, .int .i64 (unpC Q1.toNat).l, .int .i64 (unpC Q1.toNat).c, .int .i64 (unpC Q1.toNat).s0, .int .i64 (unpC Q1.toNat).n0, .int .i64 (unpC Q1.toNat).s1, .int .i64 (unpC Q1.toNat).n1, .int .i64 (unpC Q1.toNat).r] 26))
  have A19 := Lib.hid ((A18.out.below hb).alloc (.cells #[.int .i64 (unpC Q1.toNat).t, .int .i64 (unpC Q1.toNat).s, .int .i64 (unpC Q1.toNat).l, .int .i64 (unpC Q1.toNat).c, .int .i64 (unpC Q1.toNat).s0, .int .i64 (unpC Q1.toNat).n0, .int .i64 (unpC Q1.toNat).s1, .int .i64 (unpC Q1.toNat).n1, .int .i64 (unpC Q1.toNat).r] 26))
  have D19 := Lib.hid (show CfgAt (w19.alloc (.cells #[.int .i64 (unpC Q1.toNat).t, .int .i64 (unpC Q1.toNat).s, .int .i64 (unpC Q1.toNat).l, .int .i64 (unpC Q1.toNat).c, .int .i64 (unpC Q1.toNat).s0, .int .i64 (unpC Q1.toNat).n0, .int .i64 (unpC Q1.toNat).s1, .int .i64 (unpC Q1.toNat).n1, .int .i64 (unpC Q1.toNat).r] 26)) d18 zeroC from CfgAt.alloc' (D18.out.below hb) _)
  have E19 := Lib.hid (cfgAt_box w19 (unpC Q1.toNat))
  clear hb M18 A18 D18 k
  go_wp2_with fail
  generalize w19.alloc (.cells #[.int .i64 (unpC Q1.toNat).t, .int .i64 (unpC Q1.toNat).s, .int .i64 (unpC Q1.toNat).l, .int .i64 (unpC Q1.toNat).c, .int .i64 (unpC Q1.toNat).s0, .int .i64 (unpC Q1.toNat).n0, .int .i64 (unpC Q1.toNat).s1, .int .i64 (unpC Q1.toNat).n1, .int .i64 (unpC Q1.toNat).r] 26) = W19 at M19 A19 D19 E19 ⊢
  generalize w19.heap.size = d19 at E19 ⊢
  refine (word_code 23 (by omega) _).mono ?_
  rintro e w20 ⟨rfl, hb⟩
  have M20 := Lib.hid (M19.out.below hb)
  have A20 := Lib.hid (A19.out.below hb)
  have D20 := Lib.hid (D19.out.below hb)
  have E20 := Lib.hid (E19.out.below hb)
  clear hb M19 A19 D19 E19
  generalize unpC Q1.toNat = U at HU hs E20 ⊢
  obtain ⟨c0, c1, c2', c3, c4, c5, c6, c7, c8⟩ := E20.out.cells
  have HSZ := Lib.hid hs
  have dn : (sizeC U == (n : Int)) = false := by simpa using hs
  clear hs
  go_wp2_with fail
  refine (r4Size_any U _ HU.out).mono ?_
  rintro e w21 ⟨rfl, hb⟩
  have A21 := Lib.hid (A20.out.below hb)
  clear hb M20 A20 D20 E20 c0 c1 c2' c3 c4 c5 c6 c7 c8
  go_wp2_with fail
  refine (len_any _ p2 c2 n y2 A21.out.a).mono ?_
  rintro e w' ⟨rfl, rfl⟩
  go_wp2_with fail
  refine (top_one 23 (by omega) _ (HE.out.below A21.out.be)).mono ?_
  rintro e w22 ⟨rfl, hb⟩
  have A22 := Lib.hid (A21.out.below hb)
  clear hb A21
  go_wp2
  go_ret
  exact ⟨rfl, A22.out.be⟩

theorem mask63M (X : V) : ∃ m : Nat, m ≤ 63 ∧ bits .and .u64 (X.toNat : Int) 63 = (m : Int) := by
  have h := v_and X 63#64
  refine ⟨(X &&& 63#64).toNat, ?_, h⟩
  rw [BitVec.toNat_and]
  exact Nat.and_le_right

theorem lawMakes_any (a0 a1 a2 a3 a4 a5 a6 a7 a8 : Int) (r : Cfg) (Q0 Q1 : V) (w : World) (hL : Lim w) (hE : Cs.ErrT w) : Calls Tryd.prog 6 #[.agg #[.int .i64 a0, .int .i64 a1, .int .i64 a2, .int .i64 a3, .int .i64 a4, .int .i64 a5, .int .i64 a6, .int .i64 a7, .int .i64 a8], (.agg #[.int .i64 r.t, .int .i64 r.s, .int .i64 r.l, .int .i64 r.c, .int .i64 r.s0, .int .i64 r.n0, .int .i64 r.s1, .int .i64 r.n1, .int .i64 r.r]), .agg #[.int .u64 (Q0.toNat : Int), .int .u64 (Q1.toNat : Int)]] w fun e w' => e = .returned (.bool true) ∧ Below w.heap.size w w' := by
  obtain ⟨m, hm, hmask⟩ := mask63M Q0
  have n1 : 2 ≤ 2 + m := by omega
  have n2 : 2 + m ≤ 65 := by omega
  have hn : 2 + (m : Int) = ((2 + m : Nat) : Int) := by omega
  by_cases ho : unpOk Q1.toNat = true
  · by_cases hs : sizeC (unpC Q1.toNat) = ((2 + m : Nat) : Int)
    · exact lawMakes_good a0 a1 a2 a3 a4 a5 a6 a7 a8 r Q0 Q1 w hL hE (2 + m) n1 n2 m hmask hn ho hs
    · exact lawMakes_len a0 a1 a2 a3 a4 a5 a6 a7 a8 r Q0 Q1 w hL hE (2 + m) n1 n2 m hmask hn ho hs
  · have ho' : unpOk Q1.toNat = false := by
      cases h : unpOk Q1.toNat
      · rfl
      · exact absurd h ho
    by_cases hq : (Q0.toNat : Int) = 7597137583116413295
    · exact lawMakes_mag a0 a1 a2 a3 a4 a5 a6 a7 a8 r Q0 Q1 w hL hE (2 + m) n1 n2 m hmask hn ho' hq
    · exact lawMakes_bad a0 a1 a2 a3 a4 a5 a6 a7 a8 r Q0 Q1 w hL hE (2 + m) n1 n2 m hmask hn ho' hq


end Go.Proofs.YtohncolnnkmljaaDoor
