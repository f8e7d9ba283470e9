/- The laws' first call: the chapter's example. -/
import Derived.Test.YtkpffnihnhlghaaGreatDoorHTell
namespace Go.Proofs.YtkpffnihnhlghaaGreatDoor
open Go.RowKit
theorem made_wh {x : Cfg} (hr : Right x) {W : World} {p c N : Nat} {y : St} (h : RS W p c N y) (hy : ∀ j, j < N → y.f j = wordsC x j) : WH W c 0 N (madeF x) :=
  ⟨h.row.lt, fun j hj => by
    have h1 := h.row.cell (i := j) hj
    rw [Nat.zero_add, h1, hy j hj]
    have h2 := fw_range hr (decide (0 < x.n0)) (decide (0 < x.n1)) (fun b => decide ((b : Int) ≠ x.n0) && decide ((b : Int) < x.n0 + x.n1)) j
    have h3 : 0 ≤ wordsC x j := h2.1
    show some (Value.int .u64 (wordsC x j)) = some (.int .u64 (((wordsC x j).toNat : Nat) : Int))
    rw [Int.toNat_of_nonneg h3]⟩
/-- A config in its box, and a row of words. -/
structure AH (w : World) (x : Cfg) (qc b o N : Nat) (f : Nat → Nat) (W : World) : Prop where
  cfg : CfgAt W qc x
  wh : WH W b o N f
  be : Below w.heap.size w W
theorem AH.below {w : World} {x : Cfg} {qc b o N : Nat} {f : Nat → Nat} {W W' : World} (h : AH w x qc b o N f W) (hb : Below W.heap.size W W') : AH w x qc b o N f W' := ⟨h.cfg.below hb, h.wh.below hb, Below.step h.be hb h.be.size⟩
set_option maxRecDepth 100000 in
set_option maxHeartbeats 4000000 in
theorem awake10_any (w : World) (hE : Cs.ErrT w) (hL : Lim w) : Calls Tryz.prog 4 #[] w fun e w' => e = .returned (.bool true) ∧ Below w.heap.size w w' := by
  have HE := Lib.hid hE
  have HL := Lib.hid hL
  clear hE hL
  go_enter Tryz.func4, Tryz.ntmps4
  go_wp2_with fail
  refine (cfg10_any 0 0 2 1 _).mono ?_
  rintro e w1 ⟨x, rfl, hr, hn0, hn1, -, -, hb⟩
  have HR := Lib.hid hr
  have HN0 : Hid (x.n0 = 2) := Lib.hid (hn0.trans (by unfold r6 wrap64; rfl))
  have HN1 : Hid (x.n1 = 1) := Lib.hid (hn1.trans (by unfold r6 wrap64; rfl))
  have HB1 := Lib.hid hb
  obtain ⟨N, hN⟩ : ∃ N : Nat, sizeC x = (N : Int) := ⟨(sizeC x).toNat, by have := hr.sizes; omega⟩
  have HNN := Lib.hid hN
  clear hr hn0 hn1 hb hN
  have hcb := cfgAt_box w1 x
  have HB1' := Lib.hid (HB1.out.alloc HB1.out.size (.cells #[.int .i64 x.t, .int .i64 x.s, .int .i64 x.l, .int .i64 x.c, .int .i64 x.s0, .int .i64 x.n0, .int .i64 x.s1, .int .i64 x.n1, .int .i64 x.r] 30))
  have hq1 : w1.heap.size < (w1.alloc (.cells #[.int .i64 x.t, .int .i64 x.s, .int .i64 x.l, .int .i64 x.c, .int .i64 x.s0, .int .i64 x.n0, .int .i64 x.s1, .int .i64 x.n1, .int .i64 x.r] 30)).heap.size := by simp
  obtain ⟨c0, c1, c2, c3, c4, c5, c6, c7, c8⟩ := hcb.cells
  have HCB := Lib.hid hcb
  clear hcb
  go_wp2_with fail
  generalize w1.alloc (.cells #[.int .i64 x.t, .int .i64 x.s, .int .i64 x.l, .int .i64 x.c, .int .i64 x.s0, .int .i64 x.n0, .int .i64 x.s1, .int .i64 x.n1, .int .i64 x.r] 30) = Wa at HCB HB1' hq1 c0 c1 c2 c3 c4 c5 c6 c7 c8 ⊢
  generalize w1.heap.size = qc at HCB hq1 c0 c1 c2 c3 c4 c5 c6 c7 c8 ⊢
  refine (r4Make_any x N _ HR.out HNN.out).mono ?_
  rintro e w2 ⟨p, c, y, rfl, hRS, hy, -, hp, hc, hb⟩
  have K0 := Lib.hid (show AH w x qc c 0 N (madeF x) w2 from ⟨HCB.out.below hb, made_wh HR.out hRS hy, Below.step HB1'.out hb HB1'.out.size⟩)
  have hw0 : w2.cell? ⟨p, 0, none⟩ = some (.slice (some ⟨c, 0, none⟩) N N) := hRS.c 0 (by omega)
  clear hRS hy hb HCB HB1 HB1' c0 c1 c2 c3 c4 c5 c6 c7 c8
  obtain ⟨c0, c1, c2, c3, c4, c5, c6, c7, c8⟩ := K0.out.cfg.cells
  go_wp2_with fail
  refine (list_good x HR.out 0 (by omega) c 0 N N HNN.out (madeF x) _ (HL.out.below K0.out.be) K0.out.wh).mono ?_
  rintro e w3 ⟨va, La, Ea, rfl, hLa, hoa, hb⟩
  have hca : cntC x 0 = 2 := by show x.n0 = 2; exact HN0.out
  have hcb : cntC x 1 = 1 := by show x.n1 = 1; exact HN1.out
  obtain ⟨ea, eb⟩ := hLa.unique (made_list HR.out 0 (by omega))
  rw [hca] at ea
  have ea : La = [1, 2] := ea.trans (by simp [List.range_succ, nthB])
  subst ea eb
  have HIA := Lib.hid (own_irw hoa)
  have K1 := Lib.hid (K0.out.below hb)
  rw [show Cs.enc [] = .nilIface from rfl]
  clear hoa hb K0 c0 c1 c2 c3 c4 c5 c6 c7 c8 hw0 hLa
  obtain ⟨c0, c1, c2, c3, c4, c5, c6, c7, c8⟩ := K1.out.cfg.cells
  go_wp2_with fail
  refine (list_good x HR.out 1 (by omega) c 0 N N HNN.out (madeF x) _ (HL.out.below K1.out.be) K1.out.wh).mono ?_
  rintro e w4 ⟨vb, Lb, Eb, rfl, hLb, hob, hb⟩
  obtain ⟨ea, eb⟩ := hLb.unique (made_list HR.out 1 (by omega))
  rw [hcb] at ea
  have ea : Lb = [3] := ea.trans (by simp [List.range_succ, nthB, HN0.out])
  subst ea eb
  have HIB := Lib.hid (own_irw hob)
  have HIA2 := Lib.hid (HIA.out.below hb)
  have HB4 := Lib.hid (K1.out.below hb).be
  rw [show Cs.enc [] = .nilIface from rfl]
  clear hob hb K1 HIA c0 c1 c2 c3 c4 c5 c6 c7 c8 hLb
  go_wp2_with fail
  have hbx := irw_box w4 [1, 2] 3
  refine (same_eq [1, 2] (by simp) _ _ _ (HIA2.out.below ((Below.refl _ _).alloc (Nat.le_refl _) _)) hbx).mono ?_
  rintro e w5 ⟨rfl, hb⟩
  have HB5 := Lib.hid (Below.step (B := w.heap.size) (HB4.out.alloc HB4.out.size _) hb (by have := HB4.out.size; simp; omega))
  have HIB2 := Lib.hid ((HIB.out.below (W' := w4.alloc (.cells ([1, 2].map (Value.int .i64)).toArray 3)) ((Below.refl _ _).alloc (Nat.le_refl _) _)).below hb)
  clear hb hbx
  go_wp2_with fail
  have hbx := irw_box w5 [3] 3
  refine (same_eq [3] (by simp) _ _ _ (HIB2.out.below ((Below.refl _ _).alloc (Nat.le_refl _) _)) hbx).mono ?_
  rintro e w6 ⟨rfl, hb⟩
  have HB6 := Lib.hid (Below.step (B := w.heap.size) (HB5.out.alloc HB5.out.size _) hb (by have := HB5.out.size; simp; omega))
  clear hb hbx
  go_wp2_with fail
  refine (top_none _ (HE.out.below HB6.out)).mono ?_
  rintro e w7 ⟨rfl, hb⟩
  have HB7 := Lib.hid (Below.step HB6.out hb HB6.out.size)
  clear hb
  go_wp2_with fail
  refine (top_none _ (HE.out.below HB7.out)).mono ?_
  rintro e w8 ⟨rfl, hb⟩
  have HB8 := Lib.hid (Below.step HB7.out hb HB7.out.size)
  clear hb
  go_wp2
  go_ret
  exact ⟨rfl, HB8.out⟩

end Go.Proofs.YtkpffnihnhlghaaGreatDoor
