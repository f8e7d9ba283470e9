/- The document's Free. -/
import Derived.Test.YtkpffnihnhlghaaGreatDoorHTwo
import Derived.Test.YtkpffnihnhlghaaGreatDoorHListM
namespace Go.Proofs.YtkpffnihnhlghaaGreatDoor
open Go.RowKit Go.Shelf
def RFreeP (x : Cfg) (f : Nat → Nat) (w : World) (e : Ending) (w' : World) : Prop := ∃ v L E k p t, e = .returned (.agg #[v, .int .i64 k, .int .i64 p, .bool t]) ∧ FreeR x f L E ∧ EC E k p t ∧ w'.ownsRow w.heap.size 3 1 v L.length (L.map (Value.int .i64)) ∧ Below w.heap.size w w'
/-- Of the first i numbers, those that either list has. -/
def fewF (L0 L1 : List Int) (i : Nat) : List Int := (firstN i).filter (fun z => decide (z ∈ L0 ++ L1))
theorem firstN_succ (i : Nat) : firstN (i + 1) = firstN i ++ [(i : Int) + 1] := by unfold firstN; rw [List.range_succ, List.map_append]; rfl
theorem fewF_yes {L0 L1 : List Int} {i : Nat} (h : (i : Int) + 1 ∈ L0 ++ L1) : fewF L0 L1 (i + 1) = fewF L0 L1 i ++ [(i : Int) + 1] := by
  unfold fewF
  rw [firstN_succ, List.filter_append, List.filter_cons_of_pos (by simpa using h), List.filter_nil]
theorem fewF_no {L0 L1 : List Int} {i : Nat} (h : ¬ (i : Int) + 1 ∈ L0 ++ L1) : fewF L0 L1 (i + 1) = fewF L0 L1 i := by
  unfold fewF
  rw [firstN_succ, List.filter_append, List.filter_cons_of_neg (by simpa using h), List.filter_nil, List.append_nil]
theorem fewF_len (L0 L1 : List Int) (i : Nat) : (fewF L0 L1 i).length ≤ i := by
  unfold fewF
  refine Nat.le_trans (List.length_filter_le _ _) ?_
  simp [firstN]
/-- A list's answer in a box of its own. -/
structure BX (q : Nat) (v : Value) (L : List Int) (W : World) : Prop where
  box : W.rowIs q 62 4 (toldC v 0 0 false)
  row : IRw W v L
theorem BX.below {q : Nat} {v : Value} {L : List Int} {W W' : World} (h : BX q v L W) (hb : Below W.heap.size W W') : BX q v L W' := ⟨h.box.of_block (hb.block _ h.box.lt), h.row.below hb⟩
theorem zero_box (W : World) : (W.alloc (.cells #[.slice none 0 0, .int .i64 0, .int .i64 0, .bool false] 62)).rowIs W.heap.size 62 4 toldZ :=
  World.rowIs_alloc W #[.slice none 0 0, .int .i64 0, .int .i64 0, .bool false] 62 toldZ (by intro j hj; match j, hj with | 0, _ => rfl | 1, _ => rfl | 2, _ => rfl | 3, _ => rfl)
theorem box_stored (W : World) (v : Value) (k p : Int) (t : Bool) :
    (((((W.alloc (.cells #[.slice none 0 0, .int .i64 0, .int .i64 0, .bool false] 62)).setCell ⟨W.heap.size, 0, none⟩ v).setCell ⟨W.heap.size, 1, none⟩ (.int .i64 k)).setCell ⟨W.heap.size, 2, none⟩ (.int .i64 p)).setCell ⟨W.heap.size, 3, none⟩ (.bool t)).rowIs W.heap.size 62 4 (toldC v k p t) ∧
    Below W.heap.size W (((((W.alloc (.cells #[.slice none 0 0, .int .i64 0, .int .i64 0, .bool false] 62)).setCell ⟨W.heap.size, 0, none⟩ v).setCell ⟨W.heap.size, 1, none⟩ (.int .i64 k)).setCell ⟨W.heap.size, 2, none⟩ (.int .i64 p)).setCell ⟨W.heap.size, 3, none⟩ (.bool t)) := by
  have h := World.rowIs_alloc W #[.slice none 0 0, .int .i64 0, .int .i64 0, .bool false] 62 toldZ (by intro j hj; match j, hj with | 0, _ => rfl | 1, _ => rfl | 2, _ => rfl | 3, _ => rfl)
  refine ⟨((((h.set 0 v).set 1 (.int .i64 k)).set 2 (.int .i64 p)).set 3 (.bool t)).congr (by intro j hj; match j, hj with | 0, _ => rfl | 1, _ => rfl | 2, _ => rfl | 3, _ => rfl), ?_⟩
  exact (((((Below.refl _ _).alloc (Nat.le_refl _) _).setCell (Nat.le_refl _) _).setCell (Nat.le_refl _) _).setCell (Nat.le_refl _) _).setCell (Nat.le_refl _) _
theorem ec_code {E : List (Int × Int)} {k p : Int} {t : Bool} (h : EC E k p t) (hE : ¬ E = []) : ¬ k = 0 := by
  rcases h with ⟨h1, -⟩ | ⟨h1, -⟩ | ⟨h1, -⟩
  · exact absurd h1 hE
  · exact h1
  · exact h1
theorem ec_none {E : List (Int × Int)} {k p : Int} {t : Bool} (h : EC E k p t) (hE : E = []) : k = 0 ∧ p = 0 ∧ t = false := by
  rcases h with ⟨-, h1⟩ | ⟨-, -, h1⟩ | ⟨-, -, -, h1⟩
  · exact h1
  · rw [h1] at hE; cases hE
  · rw [h1] at hE; cases hE
theorem listR_nil {x : Cfg} {f : Nat → Nat} {cls : Nat} {L : List Int} {E : List (Int × Int)} (h : ListR x f cls L E) (hcn : 0 ≤ cntC x cls) (hE : ¬ E = []) : L = [] := by
  obtain ⟨-, -, -, h1⟩ := h.once hcn
  rcases h1 with h1 | h1
  · exact absurd h1 hE
  · exact h1.1
set_option maxRecDepth 100000 in
set_option maxHeartbeats 8000000 in
theorem rfree_good (x : Cfg) (hr : Right x) (b o N cw : Nat) (hN : sizeC x = (N : Int)) (f : Nat → Nat) (w : World) (hw : WH w b o N f) (hf : ∀ j, j < N → f j < 18446744073709551616) : Calls Tryz.prog 19 #[(.agg #[.int .i64 x.t, .int .i64 x.s, .int .i64 x.l, .int .i64 x.c, .int .i64 x.s0, .int .i64 x.n0, .int .i64 x.s1, .int .i64 x.n1, .int .i64 x.r]), .slice (some ⟨b, o, none⟩) N cw] w (RFreeP x f w) := by
  have hbw := hw.lt
  have HW := Lib.hid hw
  have HF := Lib.hid hf
  have HR := Lib.hid hr
  have HNN := Lib.hid hN
  have hcb := hr.b
  have HC : Hid (∀ c, 0 ≤ cntC x c ∧ cntC x c ≤ 12) := Lib.hid fun c => by unfold cntC; split <;> omega
  obtain ⟨n, hn⟩ : ∃ n : Nat, x.n0 + x.n1 = (n : Int) := ⟨(x.n0 + x.n1).toNat, by omega⟩
  have hn24 : n ≤ 24 := by omega
  have HN24 := Lib.hid hn
  obtain ⟨i0, hi, hz0, hz1, hz2⟩ := info_parts infoI
  clear hw hr hN hf hn
  go_enter Tryz.func19, Tryz.ntmps19
  have K0 := Lib.hid (RL.start x HW.out)
  go_wp2_with fail
  generalize ((w.alloc (.cells #[.int .i64 x.t, .int .i64 x.s, .int .i64 x.l, .int .i64 x.c, .int .i64 x.s0, .int .i64 x.n0, .int .i64 x.s1, .int .i64 x.n1, .int .i64 x.r] 30)).alloc (.cells #[.slice none 0 0, .int .i64 0, .int .i64 0, .bool false] 62)) = Wa at K0 ⊢
  refine (rlist_good x HR.out 0 (by omega) b o N cw HNN.out f _ K0.out.wh HF.out).mono ?_
  rintro e w1 ⟨v0, L0, E0, k0, p0', t0, rfl, hL0, hE0, ho0, hb⟩
  obtain ⟨A0, cp0, rfl⟩ := own_form ho0
  obtain ⟨m0, hm0⟩ : ∃ m, L0.length = m := ⟨_, rfl⟩
  rw [hm0] at ho0 ⊢
  have HM0 := Lib.hid hm0
  have K1 := Lib.hid (K0.out.below hb)
  have HO0 := Lib.hid (own_mono ho0 (Nat.succ_le_of_lt K0.out.res.lt))
  have HI0 : Hid (IRw w1 (.slice A0 m0 cp0) L0) := Lib.hid (own_irw (B := Wa.heap.size) (by rw [hm0]; exact ho0))
  have HL0 := Lib.hid hL0
  have HE0 := Lib.hid hE0
  clear hb ho0 hL0 hE0 K0 hm0
  obtain ⟨c0, c1, c2, c3, c4, c5, c6, c7, c8, p0, p1, p2, p3, hq⟩ := RL.all K1.out
  have fr := K1.out.res.frozen
  have hsz1 := K1.out.be.size
  have hbx := told_box w1 (.slice A0 m0 cp0) k0 p0' t0
  have hbb : Below w1.heap.size w1 (w1.alloc (.cells #[.slice A0 m0 cp0, .int .i64 k0, .int .i64 p0', .bool t0] 62)) := ((Below.refl _ _).alloc (Nat.le_refl _) _)
  go_upto_region 2 with (fail)
  generalize hWb : w1.alloc (.cells #[.slice A0 m0 cp0, .int .i64 k0, .int .i64 p0', .bool t0] 62) = wb at hbx hbb ⊢
  clear hWb
  generalize hq5 : w1.heap.size = q5 at hbx ⊢
  have K2 := Lib.hid (K1.out.below hbb)
  have HBX := Lib.hid hbx
  have HO1 := Lib.hid (own_below HO0.out hbb)
  have HI1 := Lib.hid (HI0.out.below hbb)
  clear hbx hbb K1 HO0 HI0 hq5 c0 c1 c2 c3 c4 c5 c6 c7 c8 p0 p1 p2 p3 hq fr
  obtain ⟨c0, c1, c2, c3, c4, c5, c6, c7, c8, p0, p1, p2, p3, hq⟩ := RL.all K2.out
  have fr := K2.out.res.frozen
  have b0 := HBX.out.cell (i := 0) (by omega)
  have b1 := HBX.out.cell (i := 1) (by omega)
  have b2 := HBX.out.cell (i := 2) (by omega)
  have b3 := HBX.out.cell (i := 3) (by omega)
  simp only [toldC] at b0 b1 b2 b3
  by_cases hk0 : E0 = []
  · obtain ⟨rfl, rfl, rfl⟩ := ec_none HE0.out hk0
    subst hk0
    go_wp2_with fail
    clear c0 c1 c2 c3 c4 c5 c6 c7 c8 p0 p1 p2 p3 hq fr b0 b1 b2 b3 hsz1
    have KB := Lib.hid (BX.mk (q := q5) HBX.out HI1.out)
    clear HBX HI1 HO1 HE0
    refine (rlist_good x HR.out 1 (by omega) b o N cw HNN.out f _ K2.out.wh HF.out).mono ?_
    rintro e w3 ⟨v1, L1, E1, k1, p1', t1, rfl, hL1, hE1, ho1, hb⟩
    obtain ⟨A1, cp1, rfl⟩ := own_form ho1
    obtain ⟨m1, hm1⟩ : ∃ m, L1.length = m := ⟨_, rfl⟩
    rw [hm1] at ho1 ⊢
    have HM1 := Lib.hid hm1
    have K3 := Lib.hid (K2.out.below hb)
    have KB3 := Lib.hid (KB.out.below hb)
    have HO1 := Lib.hid (own_mono ho1 (Nat.succ_le_of_lt K2.out.res.lt))
    have HI1 : Hid (IRw w3 (.slice A1 m1 cp1) L1) := Lib.hid (own_irw (B := wb.heap.size) (by rw [hm1]; exact ho1))
    have HL1 := Lib.hid hL1
    have HE1 := Lib.hid hE1
    clear hb ho1 hL1 hE1 K2 KB hm1
    obtain ⟨c0, c1, c2, c3, c4, c5, c6, c7, c8, p0, p1, p2, p3, hq⟩ := RL.all K3.out
    have fr := K3.out.res.frozen
    have hbx := told_box w3 (.slice A1 m1 cp1) k1 p1' t1
    have hbb : Below w3.heap.size w3 (w3.alloc (.cells #[.slice A1 m1 cp1, .int .i64 k1, .int .i64 p1', .bool t1] 62)) := ((Below.refl _ _).alloc (Nat.le_refl _) _)
    go_upto_region 5 with (fail)
    generalize hWb : w3.alloc (.cells #[.slice A1 m1 cp1, .int .i64 k1, .int .i64 p1', .bool t1] 62) = wd at hbx hbb ⊢
    clear hWb
    generalize hq6 : w3.heap.size = q6 at hbx ⊢
    have K4 := Lib.hid (K3.out.below hbb)
    have KB4 := Lib.hid (KB3.out.below hbb)
    have HBX := Lib.hid hbx
    have HO2 := Lib.hid (own_below HO1.out hbb)
    have HI2 := Lib.hid (HI1.out.below hbb)
    clear hbx hbb K3 KB3 HO1 HI1 hq6 c0 c1 c2 c3 c4 c5 c6 c7 c8 p0 p1 p2 p3 hq fr
    obtain ⟨c0, c1, c2, c3, c4, c5, c6, c7, c8, p0, p1, p2, p3, hq⟩ := RL.all K4.out
    have fr := K4.out.res.frozen
    have b0 := HBX.out.cell (i := 0) (by omega)
    have b1 := HBX.out.cell (i := 1) (by omega)
    have b2 := HBX.out.cell (i := 2) (by omega)
    have b3 := HBX.out.cell (i := 3) (by omega)
    simp only [toldC] at b0 b1 b2 b3
    by_cases hk1 : E1 = []
    · obtain ⟨rfl, rfl, rfl⟩ := ec_none HE1.out hk1
      subst hk1
      go_wp2_with fail
      clear HE1
      have KC4 := Lib.hid (BX.mk (q := q6) HBX.out HI2.out)
      clear HBX HI2 HO2
      have HW6 : ∃ W6, W6 = wd := ⟨_, rfl⟩
      obtain ⟨W6, hW6⟩ := HW6
      have HBW : Hid (Below W6.heap.size W6 wd) := Lib.hid (by rw [hW6]; exact Below.refl _ _)
      rw [← hW6] at K4 KB4 KC4
      have HM := Lib.hid (And.intro HM0.out HM1.out)
      have HLL := Lib.hid (And.intro HL0.out HL1.out)
      clear c0 c1 c2 c3 c4 c5 c6 c7 c8 p0 p1 p2 p3 hq fr b0 b1 b2 b3 hW6 HL0 HL1 HM0 HM1
      have hw2 : w.heap.size + 2 ≤ W6.heap.size := Nat.succ_le_of_lt K4.out.res.lt
      go_loopw [7, 8] (fun ov iv wr => ∃ (i m : Nat) (A : Option Addr) (cap : Nat), i ≤ n ∧ iv = .int .i64 ((i : Int) + 1) ∧ ov = .slice A m cap ∧ Hid ((fewF L0 L1 i).length = m ∧ Below W6.heap.size W6 wr ∧ wr.ownsRow W6.heap.size 3 1 (.slice A m cap) m ((fewF L0 L1 i).map (Value.int .i64)))) (fun _ iv _ => n + 1 - (intOf iv).toNat)
      case atStart => exact ⟨0, 0, none, 0, by omega, rfl, rfl, Lib.hid ⟨rfl, HBW.out, World.ownsRow_nil _ _ _ _⟩⟩
      case round =>
        clear HBW
        obtain ⟨i, m, A, cap, hi', rfl, rfl, HX⟩ := hrel
        have K := Lib.hid (K4.out.below HX.out.2.1)
        have B0 := Lib.hid (KB4.out.below HX.out.2.1)
        have B1 := Lib.hid (KC4.out.below HX.out.2.1)
        obtain ⟨c0, c1, c2, c3, c4, c5, c6, c7, c8, p0, p1, p2, p3, hq⟩ := RL.all K.out
        have fr := K.out.res.frozen
        go_wp2_with fail
        refine (r4Blocks_any x _ (by omega) (by omega) (by omega) (by omega)).mono ?_
        rintro e w7 ⟨rfl, hb⟩
        rw [HN24.out]
        have HX7 := Lib.hid (Below.step HX.out.2.1 hb HX.out.2.1.size)
        have HOW := Lib.hid (own_below HX.out.2.2 hb)
        have HML := Lib.hid HX.out.1
        replace K := Lib.hid (K.out.below hb)
        replace B0 := Lib.hid (B0.out.below hb)
        replace B1 := Lib.hid (B1.out.below hb)
        clear hb HX c0 c1 c2 c3 c4 c5 c6 c7 c8 p0 p1 p2 p3 hq fr
        obtain ⟨c0, c1, c2, c3, c4, c5, c6, c7, c8, p0, p1, p2, p3, hq⟩ := RL.all K.out
        have fr := K.out.res.frozen
        have b0 := B0.out.box.cell (i := 0) (by omega)
        have b1 := B0.out.box.cell (i := 1) (by omega)
        have b2 := B0.out.box.cell (i := 2) (by omega)
        have b3 := B0.out.box.cell (i := 3) (by omega)
        simp only [toldC] at b0 b1 b2 b3
        have d0 := B1.out.box.cell (i := 0) (by omega)
        have d1 := B1.out.box.cell (i := 1) (by omega)
        have d2 := B1.out.box.cell (i := 2) (by omega)
        have d3 := B1.out.box.cell (i := 3) (by omega)
        simp only [toldC] at d0 d1 d2 d3
        by_cases hin : i < n
        · have g1 : decide ((n : Int) < (i : Int) + 1) = false := by simp; omega
          have g2 : (i : Int) + 1 ≤ (n : Int) := by omega
          go_wp2_with fail
          by_cases hm0 : (i : Int) + 1 ∈ L0
          · refine (has_any L0 (by have h1 := (HLL.out.1.once (HC.out 0).1).1; have h2 := (HC.out 0).2; omega) ((i : Int) + 1) _ _ B0.out.row).mono ?_
            rintro e w8 ⟨rfl, hb⟩
            rw [decide_eq_true hm0]
            replace HX7 := Lib.hid (Below.step HX7.out hb HX7.out.size)
            replace HOW := Lib.hid (own_below HOW.out hb)
            replace K := Lib.hid (K.out.below hb)
            replace B0 := Lib.hid (B0.out.below hb)
            replace B1 := Lib.hid (B1.out.below hb)
            clear hb b0 b1 b2 b3 d0 d1 d2 d3 c0 c1 c2 c3 c4 c5 c6 c7 c8 p0 p1 p2 p3 hq fr
            obtain ⟨c0, c1, c2, c3, c4, c5, c6, c7, c8, p0, p1, p2, p3, hq⟩ := RL.all K.out
            have fr := K.out.res.frozen
            have b0 := B0.out.box.cell (i := 0) (by omega)
            have b1 := B0.out.box.cell (i := 1) (by omega)
            have b2 := B0.out.box.cell (i := 2) (by omega)
            have b3 := B0.out.box.cell (i := 3) (by omega)
            simp only [toldC] at b0 b1 b2 b3
            have d0 := B1.out.box.cell (i := 0) (by omega)
            have d1 := B1.out.box.cell (i := 1) (by omega)
            have d2 := B1.out.box.cell (i := 2) (by omega)
            have d3 := B1.out.box.cell (i := 3) (by omega)
            simp only [toldC] at d0 d1 d2 d3
            clear b0 b1 b2 b3 d0 d1 d2 d3 c0 c1 c2 c3 c4 c5 c6 c7 c8 p0 p1 p2 p3 hq fr
            have HY := Lib.hid (fewF_yes (L0 := L0) (L1 := L1) (i := i) (List.mem_append.2 (.inl hm0)))
            have hmi : m ≤ i := by have := fewF_len L0 L1 i; have := HML.out; omega
            have hz7 := HX7.out.size
            go_wp2_with (at_builtin; refine wpList_append_own _ rfl _ _ 44 rfl W6.heap.size 3 i0 (.int .i64 0) 1 8 Tryz.underlying44 hi hz0 hz1 hz2 rfl (by decide) _ _ _ rfl (HOW.out.alloc _) ⟨w8.heap.size, 0, none⟩ 1 1 [.int .i64 ((i : Int) + 1)] rfl rfl (cell_one_new _ _ _) (by simp [Value.oneCell']) (by unfold maxLen; omega) (by omega) (by simp; omega) ?_; intro v' w9 hown5 hgrow _; obtain ⟨g', cap', rfl⟩ := ownsRow_succ hown5; have HX9 := Lib.hid ((HX7.out.alloc hz7 (.cells #[.int .i64 ((i : Int) + 1)] 3)).grown hgrow (by simp; omega) (fun r e => (own_cells HOW.out r e).1)); have HO9 := Lib.hid hown5; clear hown5 hgrow)
            go_roundw
            case rel =>
              first
              | exact ⟨i + 1, m + 1, _, _, by omega, by go_num, rfl, Lib.hid ⟨by rw [HY.out, List.length_append, HML.out]; rfl, HX9.out, by rw [HY.out, List.map_append]; exact HO9.out⟩⟩
              | ((repeat apply Exists.intro); exact ⟨⟨i + 1, m + 1, _, _, by omega, by go_num, rfl, Lib.hid ⟨by rw [HY.out, List.length_append, HML.out]; rfl, HX9.out, by rw [HY.out, List.map_append]; exact HO9.out⟩⟩, rfl⟩)
            case measure => simp [intOf]; omega
          · refine (has_any L0 (by have h1 := (HLL.out.1.once (HC.out 0).1).1; have h2 := (HC.out 0).2; omega) ((i : Int) + 1) _ _ B0.out.row).mono ?_
            rintro e w8 ⟨rfl, hb⟩
            rw [decide_eq_false hm0]
            replace HX7 := Lib.hid (Below.step HX7.out hb HX7.out.size)
            replace HOW := Lib.hid (own_below HOW.out hb)
            replace K := Lib.hid (K.out.below hb)
            replace B0 := Lib.hid (B0.out.below hb)
            replace B1 := Lib.hid (B1.out.below hb)
            clear hb b0 b1 b2 b3 d0 d1 d2 d3 c0 c1 c2 c3 c4 c5 c6 c7 c8 p0 p1 p2 p3 hq fr
            obtain ⟨c0, c1, c2, c3, c4, c5, c6, c7, c8, p0, p1, p2, p3, hq⟩ := RL.all K.out
            have fr := K.out.res.frozen
            have b0 := B0.out.box.cell (i := 0) (by omega)
            have b1 := B0.out.box.cell (i := 1) (by omega)
            have b2 := B0.out.box.cell (i := 2) (by omega)
            have b3 := B0.out.box.cell (i := 3) (by omega)
            simp only [toldC] at b0 b1 b2 b3
            have d0 := B1.out.box.cell (i := 0) (by omega)
            have d1 := B1.out.box.cell (i := 1) (by omega)
            have d2 := B1.out.box.cell (i := 2) (by omega)
            have d3 := B1.out.box.cell (i := 3) (by omega)
            simp only [toldC] at d0 d1 d2 d3
            go_wp2_with fail
            by_cases hm1 : (i : Int) + 1 ∈ L1
            · refine (has_any L1 (by have h1 := (HLL.out.2.once (HC.out 1).1).1; have h2 := (HC.out 1).2; omega) ((i : Int) + 1) _ _ B1.out.row).mono ?_
              rintro e w10 ⟨rfl, hb⟩
              rw [decide_eq_true hm1]
              replace HX7 := Lib.hid (Below.step HX7.out hb HX7.out.size)
              replace HOW := Lib.hid (own_below HOW.out hb)
              replace K := Lib.hid (K.out.below hb)
              replace B0 := Lib.hid (B0.out.below hb)
              replace B1 := Lib.hid (B1.out.below hb)
              clear hb b0 b1 b2 b3 d0 d1 d2 d3 c0 c1 c2 c3 c4 c5 c6 c7 c8 p0 p1 p2 p3 hq fr
              obtain ⟨c0, c1, c2, c3, c4, c5, c6, c7, c8, p0, p1, p2, p3, hq⟩ := RL.all K.out
              have fr := K.out.res.frozen
              have b0 := B0.out.box.cell (i := 0) (by omega)
              have b1 := B0.out.box.cell (i := 1) (by omega)
              have b2 := B0.out.box.cell (i := 2) (by omega)
              have b3 := B0.out.box.cell (i := 3) (by omega)
              simp only [toldC] at b0 b1 b2 b3
              have d0 := B1.out.box.cell (i := 0) (by omega)
              have d1 := B1.out.box.cell (i := 1) (by omega)
              have d2 := B1.out.box.cell (i := 2) (by omega)
              have d3 := B1.out.box.cell (i := 3) (by omega)
              simp only [toldC] at d0 d1 d2 d3
              clear b0 b1 b2 b3 d0 d1 d2 d3 c0 c1 c2 c3 c4 c5 c6 c7 c8 p0 p1 p2 p3 hq fr
              have HY := Lib.hid (fewF_yes (L0 := L0) (L1 := L1) (i := i) (List.mem_append.2 (.inr hm1)))
              have hmi : m ≤ i := by have := fewF_len L0 L1 i; have := HML.out; omega
              have hz7 := HX7.out.size
              go_wp2_with (at_builtin; refine wpList_append_own _ rfl _ _ 44 rfl W6.heap.size 3 i0 (.int .i64 0) 1 8 Tryz.underlying44 hi hz0 hz1 hz2 rfl (by decide) _ _ _ rfl (HOW.out.alloc _) ⟨w10.heap.size, 0, none⟩ 1 1 [.int .i64 ((i : Int) + 1)] rfl rfl (cell_one_new _ _ _) (by simp [Value.oneCell']) (by unfold maxLen; omega) (by omega) (by simp; omega) ?_; intro v' w9 hown5 hgrow _; obtain ⟨g', cap', rfl⟩ := ownsRow_succ hown5; have HX9 := Lib.hid ((HX7.out.alloc hz7 (.cells #[.int .i64 ((i : Int) + 1)] 3)).grown hgrow (by simp; omega) (fun r e => (own_cells HOW.out r e).1)); have HO9 := Lib.hid hown5; clear hown5 hgrow)
              go_roundw
              case rel =>
                first
                | exact ⟨i + 1, m + 1, _, _, by omega, by go_num, rfl, Lib.hid ⟨by rw [HY.out, List.length_append, HML.out]; rfl, HX9.out, by rw [HY.out, List.map_append]; exact HO9.out⟩⟩
                | ((repeat apply Exists.intro); exact ⟨⟨i + 1, m + 1, _, _, by omega, by go_num, rfl, Lib.hid ⟨by rw [HY.out, List.length_append, HML.out]; rfl, HX9.out, by rw [HY.out, List.map_append]; exact HO9.out⟩⟩, rfl⟩)
              case measure => simp [intOf]; omega
            · refine (has_any L1 (by have h1 := (HLL.out.2.once (HC.out 1).1).1; have h2 := (HC.out 1).2; omega) ((i : Int) + 1) _ _ B1.out.row).mono ?_
              rintro e w10 ⟨rfl, hb⟩
              rw [decide_eq_false hm1]
              replace HX7 := Lib.hid (Below.step HX7.out hb HX7.out.size)
              replace HOW := Lib.hid (own_below HOW.out hb)
              replace K := Lib.hid (K.out.below hb)
              replace B0 := Lib.hid (B0.out.below hb)
              replace B1 := Lib.hid (B1.out.below hb)
              clear hb b0 b1 b2 b3 d0 d1 d2 d3 c0 c1 c2 c3 c4 c5 c6 c7 c8 p0 p1 p2 p3 hq fr
              have HY := Lib.hid (fewF_no (L0 := L0) (L1 := L1) (i := i) (fun h => (List.mem_append.1 h).elim hm0 hm1))
              go_wp2_with fail
              go_roundw
              case rel =>
                first
                | exact ⟨i + 1, m, _, _, by omega, by go_num, rfl, Lib.hid ⟨by rw [HY.out]; exact HML.out, HX7.out, by rw [HY.out]; exact HOW.out⟩⟩
                | ((repeat apply Exists.intro); exact ⟨⟨i + 1, m, _, _, by omega, by go_num, rfl, Lib.hid ⟨by rw [HY.out]; exact HML.out, HX7.out, by rw [HY.out]; exact HOW.out⟩⟩, rfl⟩)
              case measure => simp [intOf]; omega
        · have g1 : decide ((n : Int) < (i : Int) + 1) = true := by simp; omega
          have g2 : ¬ (i : Int) + 1 ≤ (n : Int) := by omega
          obtain rfl : i = n := by omega
          have HRES : Hid (srt (L0 ++ L1) = fewF L0 L1 i) := Lib.hid (srt_filter (both_once (fun c => (HC.out c).1) HLL.out.1 HLL.out.2) (both_in (fun c => (HC.out c).1) HN24.out HLL.out.1 HLL.out.2))
          clear hin
          go_wp2_with fail
          obtain ⟨q0, q1, q2, q3, q4, q5⟩ := K.out.put (.slice A m cap) 0 0 false (own_mono HOW.out hw2)
          clear p0 p1 p2 p3
          generalize ((((w7.setCell ⟨w.heap.size + 1, 0, none⟩ (.slice A m cap)).setCell ⟨w.heap.size + 1, 1, none⟩ (.int .i64 0)).setCell ⟨w.heap.size + 1, 2, none⟩ (.int .i64 0)).setCell ⟨w.heap.size + 1, 3, none⟩ (.bool false)) = W9 at q0 q1 q2 q3 q4 q5 ⊢
          exact bodyPost_ret (v := .agg #[.slice A m cap, .int .i64 0, .int .i64 0, .bool false]) (by simp [results, Tryz.results19, go_sem, q0, q1, q2, q3]) rfl ⟨_, fewF L0 L1 i, [], 0, 0, false, rfl, .inr ⟨rfl, L0, L1, HLL.out.1, HLL.out.2, HRES.out.symm⟩, .inl ⟨rfl, rfl, rfl, rfl⟩, by rw [HML.out]; exact q4, q5⟩
    · have hk := ec_code HE1.out hk1
      have dk : (k1 == 0) = false := by simpa using hk
      have hnil := listR_nil HL1.out (HC.out 1).1 hk1
      subst hnil
      have HK1 := Lib.hid hk1
      clear hk hk1
      go_wp2_with fail
      obtain ⟨q0, q1, q2, q3, q4, q5⟩ := K4.out.put (.slice A1 m1 cp1) k1 p1' t1 HO2.out
      clear p0 p1 p2 p3
      generalize ((((wd.setCell ⟨w.heap.size + 1, 0, none⟩ (.slice A1 m1 cp1)).setCell ⟨w.heap.size + 1, 1, none⟩ (.int .i64 k1)).setCell ⟨w.heap.size + 1, 2, none⟩ (.int .i64 p1')).setCell ⟨w.heap.size + 1, 3, none⟩ (.bool t1)) = W9 at q0 q1 q2 q3 q4 q5 ⊢
      exact bodyPost_ret (v := .agg #[.slice A1 m1 cp1, .int .i64 k1, .int .i64 p1', .bool t1]) (by simp [results, Tryz.results19, go_sem, q0, q1, q2, q3]) rfl ⟨_, [], E1, k1, p1', t1, rfl, .inl ⟨HK1.out, rfl, .inr ⟨_, _, HL0.out, HL1.out⟩⟩, HE1.out, by have := HM1.out; subst this; exact q4, q5⟩
  · have hk := ec_code HE0.out hk0
    have dk : (k0 == 0) = false := by simpa using hk
    have hnil := listR_nil HL0.out (HC.out 0).1 hk0
    subst hnil
    have HK0 := Lib.hid hk0
    clear hk hk0
    go_wp2_with fail
    obtain ⟨q0, q1, q2, q3, q4, q5⟩ := K2.out.put (.slice A0 m0 cp0) k0 p0' t0 HO1.out
    clear p0 p1 p2 p3
    generalize ((((wb.setCell ⟨w.heap.size + 1, 0, none⟩ (.slice A0 m0 cp0)).setCell ⟨w.heap.size + 1, 1, none⟩ (.int .i64 k0)).setCell ⟨w.heap.size + 1, 2, none⟩ (.int .i64 p0')).setCell ⟨w.heap.size + 1, 3, none⟩ (.bool t0)) = W9 at q0 q1 q2 q3 q4 q5 ⊢
    exact bodyPost_ret (v := .agg #[.slice A0 m0 cp0, .int .i64 k0, .int .i64 p0', .bool t0]) (by simp [results, Tryz.results19, go_sem, q0, q1, q2, q3]) rfl ⟨_, [], E0, k0, p0', t0, rfl, .inl ⟨HK0.out, rfl, .inl ⟨_, HL0.out⟩⟩, HE0.out, by have := HM0.out; subst this; exact q4, q5⟩

end Go.Proofs.YtkpffnihnhlghaaGreatDoor
