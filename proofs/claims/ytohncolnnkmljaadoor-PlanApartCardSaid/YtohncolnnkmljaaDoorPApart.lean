/- PlanApart: the walk. -/
import Derived.Test.YtohncolnnkmljaaDoorPApC
namespace Go.Proofs.YtohncolnnkmljaaDoor
open Go.RowKit
theorem head_0 (w : World) : Calls Tryd.prog 19 #[.int .i64 0] w fun e w' => e = .returned (.int .i64 3) ∧ w = w' := head_any 0 w
theorem head_1 (w : World) : Calls Tryd.prog 19 #[.int .i64 1] w fun e w' => e = .returned (.int .i64 4) ∧ w = w' := head_any 1 w

set_option maxRecDepth 100000 in
set_option maxHeartbeats 8000000 in
theorem lawApart_any (a0 a1 a2 a3 a4 a5 a6 a7 a8 : Int) (w : World) (hL : Lim w) : Calls Tryd.prog 5 #[.agg #[.int .i64 a0, .int .i64 a1, .int .i64 a2, .int .i64 a3, .int .i64 a4, .int .i64 a5, .int .i64 a6, .int .i64 a7, .int .i64 a8]] w fun e w' => e = .returned (.bool true) ∧ Below w.heap.size w w' := by
  have HL := Lib.hid hL
  clear hL
  obtain ⟨i0, hi, hz0, hz1, hz2⟩ := info_arr2
  go_enter Tryd.func5, Tryd.ntmps5
  go_wp2_with fail
  refine (awake4_any _ (HL.out.below (by (repeat (first | with_reducible exact Below.refl _ _ | with_reducible refine Below.drew ?_ | (with_reducible refine Below.setCell ?_ ?side _; case side => exact (by first | (simp; done) | (simp; omega) | omega)) | (with_reducible refine Below.alloc ?_ ?side _; case side => exact (by first | (simp; done) | (simp; omega) | omega))))))).mono ?_
  rintro e w1 ⟨rfl, hb⟩
  have H1 := Lib.hid (Below.step (B := w.heap.size) (a := w) (by (repeat (first | with_reducible exact Below.refl _ _ | with_reducible refine Below.drew ?_ | (with_reducible refine Below.setCell ?_ ?side _; case side => exact (by first | (simp; done) | (simp; omega) | omega)) | (with_reducible refine Below.alloc ?_ ?side _; case side => exact (by first | (simp; done) | (simp; omega) | omega))))) hb (by first | (simp; done) | (simp; omega) | omega))
  have hA : ArrAt w1 w.heap.size 27 #[.int .i64 a0, .int .i64 a1, .int .i64 a2, .int .i64 a3, .int .i64 a4, .int .i64 a5, .int .i64 a6, .int .i64 a7, .int .i64 a8] := ArrAt.below (arrAt_box w _ _) hb
  clear hb
  obtain ⟨c0, c1, c2, c3, c4, c5, c6, c7, c8⟩ := hA.nine
  go_wp2_with fail
  refine (config_any a0 a1 a2 a3 a4 a5 a6 a7 a8 _).mono ?_
  rintro e w2 ⟨x, rfl, hr, hb⟩
  have HR := Lib.hid hr
  have H2 := Lib.hid (Below.step H1.out hb H1.out.size)
  clear hb hA H1 c0 c1 c2 c3 c4 c5 c6 c7 c8 hr
  have hzw := H2.out.size
  go_wp2_with fail
  refine (size_yes x _ (HL.out.below (by (repeat (first | with_reducible exact Below.refl _ _ | with_reducible exact H2.out | with_reducible refine Below.drew ?_ | (with_reducible refine Below.setCell ?_ ?side _; case side => exact (by have := (H2.out).size; first | (simp; done) | (simp; omega) | omega)) | (with_reducible refine Below.alloc ?_ ?side _; case side => exact (by have := (H2.out).size; first | (simp; done) | (simp; omega) | omega)))))) HR.out).mono ?_
  rintro e w3 ⟨rfl, hb⟩
  have H3 := Lib.hid (Below.step (B := w.heap.size) (a := w) (by (repeat (first | with_reducible exact Below.refl _ _ | with_reducible exact H2.out | with_reducible refine Below.drew ?_ | (with_reducible refine Below.setCell ?_ ?side _; case side => exact (by have := (H2.out).size; first | (simp; done) | (simp; omega) | omega)) | (with_reducible refine Below.alloc ?_ ?side _; case side => exact (by have := (H2.out).size; first | (simp; done) | (simp; omega) | omega))))) hb (by have := (H2.out).size; first | (simp; done) | (simp; omega) | omega))
  have HC3 := Lib.hid ((cfgAt_box w2 x).below hb)
  clear hb H2
  obtain ⟨N, hN⟩ : ∃ N : Nat, sizeC x = (N : Int) := ⟨(sizeC x).toNat, by have := HR.out.sizes; omega⟩
  have HN := Lib.hid hN
  have N1 : 5 ≤ N := by have := HR.out.sizes; omega
  have N2 : N ≤ 2869 := by have := HR.out.sizes; omega
  rw [hN]
  clear hN
  have d1 : decide ((N : Int) < 5) = false := by simp; omega
  have d2 : decide ((4096 : Int) < (N : Int)) = false := by simp; omega
  have hmk := run_make_row' (P := Tryd.prog) 40 3 (.int .i64 0) 8 Tryd.underlying40 info_int' rfl .i64 .i64 N (by omega) (by omega)
  go_wp2_with (first
    | (go_at_call 15; refine (seq_any _).mono ?_; rintro e w' ⟨rfl, rfl⟩)
    | (go_at_call 19; (with_reducible refine (head_0 _).mono ?_); rintro e w' ⟨rfl, rfl⟩)
    | (go_at_call 19; (with_reducible refine (head_1 _).mono ?_); rintro e w' ⟨rfl, rfl⟩))
  have HS : Hid (PS w w2.heap.size w3.heap.size x N L0 (.slice (some ⟨w3.heap.size + 1, 0, none⟩) 5 5) ((w3.alloc (.cells (madeCells #[.int .i64 0] N) 3)).alloc (.cells #[.int .i64 0, .int .i64 1, .int .i64 1, .int .i64 1, .int .i64 2, .int .i64 1, .int .i64 3, .int .i64 1, .int .i64 4, .int .i64 1] 35))) := by
    refine Lib.hid ⟨(HC3.out.alloc _).alloc _, World.rowIs.alloc (World.rowIs_made w3 (.int .i64 0) N 3) _, ?_, by (repeat (first | with_reducible exact Below.refl _ _ | with_reducible exact H3.out | with_reducible refine Below.drew ?_ | (with_reducible refine Below.setCell ?_ ?side _; case side => exact (by have := (H3.out).size; first | (simp; done) | (simp; omega) | omega)) | (with_reducible refine Below.alloc ?_ ?side _; case side => exact (by have := (H3.out).size; first | (simp; done) | (simp; omega) | omega)))), hzw, HC3.out.lt⟩
    have h := World.ownsRow_lit (base := w3.heap.size + 1) (e := 35) (size := 2) (w3.alloc (.cells (madeCells #[.int .i64 0] N) 3)) #[.int .i64 0, .int .i64 1, .int .i64 1, .int .i64 1, .int .i64 2, .int .i64 1, .int .i64 3, .int .i64 1, .int .i64 4, .int .i64 1] 5 (by simp) (by unfold maxLen; omega) rfl
    simp only [World.size_alloc] at h
    exact h
  clear H3 HC3 d1 d2 hmk hzw
  generalize (w3.alloc (.cells (madeCells #[.int .i64 0] N) 3)).alloc (.cells #[.int .i64 0, .int .i64 1, .int .i64 1, .int .i64 1, .int .i64 2, .int .i64 1, .int .i64 3, .int .i64 1, .int .i64 4, .int .i64 1] 35) = W at HS ⊢
  generalize hq3 : w3.heap.size = q at HS ⊢
  generalize hb2 : w2.heap.size = b at HS ⊢
  clear hq3 hb2
  have hcb := HR.out.b
  go_loopw [7, 8] (fun l i wr => ∃ k1 : Nat, (k1 : Int) ≤ x.l ∧ i = .int .i64 k1 ∧ PS w b q x N (L0 ++ slotsL x k1) l wr) (fun _ i _ => x.l.toNat - (intOf i).toNat)
  case atStart => exact ⟨0, by omega, rfl, by simpa [slotsL] using HS.out⟩
  case round =>
    clear HS
    obtain ⟨k1, hk, rfl, hS⟩ := hrel
    have HS := Lib.hid hS
    obtain ⟨c0, c1, c2, c3, c4, c5, c6, c7, c8⟩ := hS.cfg.cells
    clear hS
    by_cases hlt : (k1 : Int) < x.l
    · have dl : decide ((k1 : Int) < x.l) = true := by simpa using hlt
      have HL1 := Lib.hid (slotsL_succ x k1)
      have hlen := Lib.hid (slotsL_len x k1)
      go_wp2_with fail
      refine (slot_any x k1 _ (HL.out.below HS.out.be) HR.out).mono ?_
      rintro e w5 ⟨rfl, hb⟩
      have HS5 := Lib.hid (HS.out.below hb)
      clear hb HS c0 c1 c2 c3 c4 c5 c6 c7 c8
      have hln : (L0 ++ slotsL x k1).length = 5 + k1 := by rw [List.length_append, hlen.out]; rfl
      have hq5 := HS5.out.lt
      go_wp2_with (at_builtin; refine wpList_append_own _ rfl (.tmp 43) (.tmp 48) 42 rfl (q + 1) 35 i0 (.agg #[.int .i64 0, .int .i64 0]) 2 16 Tryd.underlying42 hi hz0 hz1 hz2 rfl (by decide) _ _ _ rfl ((HS5.out.alloc _).own) ⟨w5.heap.size, 0, none⟩ 1 1 [.int .i64 (slotC x k1), .int .i64 1] rfl rfl (cell_newA _ #[.int .i64 (slotC x k1), .int .i64 1] _) (by simp [Value.oneCell']) (by unfold maxLen; omega) (by omega) (by simp; omega) ?_; intro v4 w4 hown4 hgrow4 hnil4; have Hown4 := Lib.hid hown4; have Hgrow4 := Lib.hid hgrow4; clear hown4 hgrow4 hnil4)
      have HS6 := Lib.hid ((HS5.out.alloc _).grown (M := [(slotC x k1, 1)]) Hgrow4.out (by simp; omega) Hown4.out)
      clear Hown4 Hgrow4 HS5
      go_roundw
      case rel =>
        refine ⟨k1 + 1, by omega, by go_num, ?_⟩
        rw [HL1.out, ← List.append_assoc]
        exact HS6.out
      case measure => simp [intOf]; omega
    · have dl : decide ((k1 : Int) < x.l) = false := by simpa using hlt
      have HK1 := Lib.hid (show (k1 : Int) = x.l by omega)
      have hlen1 := Lib.hid (slotsL_len x k1)
      have k1b : k1 ≤ 8 := by omega
      clear hlt hk
      go_wp2_with fail
      clear c0 c1 c2 c3 c4 c5 c6 c7 c8 dl
      have HS0 := Lib.hid HS.out
      clear HS
      go_loopw [7, 9] (fun l i wr => ∃ k2 : Nat, (k2 : Int) ≤ x.t ∧ i = .int .i64 k2 ∧ PS w b q x N (L0 ++ slotsL x k1 ++ topicsL x k2) l wr) (fun _ i _ => x.t.toNat - (intOf i).toNat)
      case atStart => exact ⟨0, by omega, rfl, by simpa [topicsL] using HS0.out⟩
      case round =>
        clear HS0
        obtain ⟨k2, hk, rfl, hS⟩ := hrel
        have HS := Lib.hid hS
        obtain ⟨c0, c1, c2, c3, c4, c5, c6, c7, c8⟩ := hS.cfg.cells
        clear hS
        have hlen2 := Lib.hid (topicsL_len x k2)
        by_cases hlt : (k2 : Int) < x.t
        · have dl : decide ((k2 : Int) < x.t) = true := by simpa using hlt
          have HL1 := Lib.hid (topicsL_succ x k2)
          have HLN := Lib.hid (show (L0 ++ slotsL x k1 ++ topicsL x k2).length = 5 + k1 + 4 * k2 by rw [List.length_append, List.length_append, hlen1.out, hlen2.out]; rfl)
          go_wp2_with fail
          clear c0 c1 c2 c3 c4 c5 c6 c7 c8
          go_region_held3 (fun w' => w'.cell? ⟨b, 0, none⟩ = some (.int .i64 x.t) ∧ w'.cell? ⟨b, 1, none⟩ = some (.int .i64 x.s) ∧ w'.cell? ⟨b, 2, none⟩ = some (.int .i64 x.l) ∧ w'.cell? ⟨b, 3, none⟩ = some (.int .i64 x.c) ∧ w'.cell? ⟨b, 4, none⟩ = some (.int .i64 x.s0) ∧ w'.cell? ⟨b, 5, none⟩ = some (.int .i64 x.n0) ∧ w'.cell? ⟨b, 6, none⟩ = some (.int .i64 x.s1) ∧ w'.cell? ⟨b, 7, none⟩ = some (.int .i64 x.n1) ∧ w'.cell? ⟨b, 8, none⟩ = some (.int .i64 x.r) ∧ PB w b x w')
            (first | exact HS.out.drew.base | exact H1.out.base | exact H2.out.base | exact H3.out.base | exact H4.out.base | exact (H4.out.alloc _).base | exact H5.out.base | assumption)
            (first
              | (go_at_call 21; (with_reducible refine (entry_any x k2 _ (HL.out.below HS.out.drew.be) HR.out).mono ?_); rintro e w5 ⟨rfl, hb⟩; have H1 := Lib.hid (HS.out.drew.below hb); clear hb)
              | (go_at_call 22; (with_reducible refine (control_any x k2 _ (HL.out.below H1.out.be) HR.out).mono ?_); rintro e w6 ⟨rfl, hb⟩; have H2 := Lib.hid (H1.out.below hb); clear hb)
              | (go_at_call 23; (with_reducible refine (buffer_any x k2 0 _ (HL.out.below H2.out.be) HR.out).mono ?_); rintro e w7 ⟨rfl, hb⟩; have H3 := Lib.hid (H2.out.below hb); clear hb)
              | (go_at_call 23; (with_reducible refine (buffer_any x k2 1 _ (HL.out.below H3.out.be) HR.out).mono ?_); rintro e w8 ⟨rfl, hb⟩; have H4 := Lib.hid (H3.out.below hb); clear hb)
              | (refine step_append_lies _ (by rfl) _ _ _ (by rfl) (q + 1) 35 i0 _ 2 16 Tryd.underlying42 hi hz0 hz1 hz2 rfl (by omega) _ _ _ (by rfl) ((H4.out.alloc _).own) ⟨w8.heap.size, 0, none⟩ 4 4 [.int .i64 (entryC x k2), .int .i64 1, .int .i64 (controlC x k2), .int .i64 1, .int .i64 (bufC x k2 0), .int .i64 x.s, .int .i64 (bufC x k2 1), .int .i64 x.s] (by rfl) (by rfl) (cell_newA _ #[.int .i64 (entryC x k2), .int .i64 1, .int .i64 (controlC x k2), .int .i64 1, .int .i64 (bufC x k2 0), .int .i64 x.s, .int .i64 (bufC x k2 1), .int .i64 x.s] _) (by simp [Value.oneCell']) (by omega) (by have := HLN.out; unfold maxLen; omega) (by have := HLN.out; omega) (by have := H4.out.lt; simp; omega) _ rfl ?_; intro gg cap w10 hown10 hgrow10 hat hlt10; have Hown10 := Lib.hid hown10; have Hgrow10 := Lib.hid hgrow10; clear hown10 hgrow10 hat hlt10; have H5 := Lib.hid ((H4.out.alloc _).grown (M := four x k2) Hgrow10.out (by simp [four]; omega) Hown10.out); clear Hown10 Hgrow10))
          all_goals
            go_wp2
            go_roundw
            case rel =>
              refine ⟨k2 + 1, by omega, by go_num, ?_⟩
              rw [HL1.out, ← List.append_assoc]
              simpa only [List.length_append, Nat.add_assoc] using H5.out
            case measure => simp [intOf]; omega
        · have dl : decide ((k2 : Int) < x.t) = false := by simpa using hlt
          have HK2 := Lib.hid (show (k2 : Int) = x.t by omega)
          have k2b : k2 ≤ 8 := by omega
          clear hlt hk
          go_wp2_with fail
          clear c0 c1 c2 c3 c4 c5 c6 c7 c8 dl
          have HS0 := Lib.hid HS.out
          clear HS
          go_loopw [7, 10] (fun l i wr => ∃ k3 : Nat, (k3 : Int) ≤ x.n0 + x.n1 ∧ i = .int .i64 ((k3 : Int) + 1) ∧ PS w b q x N (L0 ++ slotsL x k1 ++ topicsL x k2 ++ blocksL x k3) l wr) (fun _ i _ => (x.n0 + x.n1).toNat + 1 - (intOf i).toNat)
          case atStart => exact ⟨0, by omega, by go_num, by simpa [blocksL] using HS0.out⟩
          case round =>
            clear HS0
            obtain ⟨k3, hk, rfl, hS⟩ := hrel
            have HS0 := Lib.hid hS
            obtain ⟨c0, c1, c2, c3, c4, c5, c6, c7, c8⟩ := hS.cfg.cells
            clear hS
            go_wp2_with fail
            refine (blocks_any x _ (HL.out.below HS0.out.be) HR.out).mono ?_
            rintro e w5 ⟨rfl, hb⟩
            have HS := Lib.hid (HS0.out.below hb)
            clear hb HS0 c0 c1 c2 c3 c4 c5 c6 c7 c8
            by_cases hlt : (k3 : Int) < x.n0 + x.n1
            case neg =>
              have dl : decide ((k3 : Int) + 1 ≤ x.n0 + x.n1) = false := by simp; omega
              have HK3 := Lib.hid (show (k3 : Int) = x.n0 + x.n1 by omega)
              clear hlt hk
              have HAL := Lib.hid (show L0 ++ slotsL x k1 ++ topicsL x k2 ++ blocksL x k3 = allL x by rw [allL, show k1 = x.l.toNat by have := HK1.out; omega, show k2 = x.t.toNat by have := HK2.out; omega, show k3 = (x.n0 + x.n1).toNat by have := HK3.out; omega])
              have HLL := Lib.hid (show (allL x).length = 5 + k1 + 4 * k2 + k3 by rw [← HAL.out, List.length_append, List.length_append, List.length_append, hlen1.out, hlen2.out, blocksL_len]; rfl)
              have HIN := Lib.hid (fun p hp => all_inside HR.out p hp)
              have HCT := Lib.hid (fun j h0 h1 => cnt_all HR.out j h0 h1)
              rw [HAL.out] at HS
              rw [HN.out] at HIN HCT
              have k3b : k3 ≤ 24 := by have := HK3.out; omega
              have hml : (allL x).length ≤ 100 := by rw [HLL.out]; omega
              have hml0 : 0 < (allL x).length := by rw [HLL.out]; omega
              go_wp2_with fail
              generalize allL x = L at HS HIN HCT hml hml0
              clear HAL HLL hlen1 hlen2 HK1 HK2 HK3 k1b k2b k3b dl
              obtain ⟨g, cap, rfl, hC⟩ := HS.out.cn hml0
              have HC0 := Lib.hid hC
              clear hC HS
              obtain ⟨M, hM⟩ : ∃ M, L.length = M := ⟨_, rfl⟩
              have HM := Lib.hid hM
              rw [hM] at hml hml0 ⊢
              clear hM
              go_loopw [12] (fun i wr => ∃ m : Nat, m ≤ M ∧ i = .int .i64 m ∧ CN w g q N L (fun j => cnt (L.take m) j) wr) (fun i _ => M - (intOf i).toNat)
              case atStart => exact ⟨0, by omega, rfl, HC0.out.congr (by intro j _; simp [cnt])⟩
              case round =>
                clear HC0
                obtain ⟨m, hm, rfl, hC⟩ := hrel
                have HC := Lib.hid hC
                clear hC
                by_cases hlt : m < M
                · have hp := HIN.out (L.getD m (0, 0)) (by
                    have : L.getD m (0, 0) = L[m]'(by rw [HM.out]; exact hlt) := by simp [List.getD, show m < L.length by rw [HM.out]; exact hlt]
                    rw [this]; exact List.getElem_mem _)
                  have HT := Lib.hid (fun j => take_succ_cnt L m (by rw [HM.out]; exact hlt) j)
                  obtain ⟨cA, cB⟩ := HC.out.cs m (by rw [HM.out]; exact hlt)
                  obtain ⟨hp1, hp2, hp3⟩ := hp
                  obtain ⟨A, hAe⟩ : ∃ A : Nat, (L.getD m (0, 0)).1 = (A : Int) := ⟨(L.getD m (0, 0)).1.toNat, by omega⟩
                  obtain ⟨Ln, hLe⟩ : ∃ Ln : Nat, (L.getD m (0, 0)).2 = (Ln : Int) := ⟨(L.getD m (0, 0)).2.toNat, by omega⟩
                  rw [hAe, hLe] at HT hp3
                  rw [hAe] at cA
                  rw [hLe] at cB
                  have HAe := Lib.hid hAe
                  have HLe := Lib.hid hLe
                  clear hAe hLe
                  have hp4 : A + Ln ≤ N := by omega
                  clear hp1 hp2 hp3
                  have m1 : (0 : Int) ≤ (m : Int) := by omega
                  have m2 : (m : Int) < (M : Int) := by omega
                  have dA : decide ((A : Int) < 0) = false := by simp
                  have dB : decide ((N : Int) < (A : Int) + (Ln : Int)) = false := by simp; omega
                  have dB' : decide (N < A + Ln) = false := by simp; omega
                  have wB : IntKind.i64.wrap ((A : Int) + (Ln : Int)) = (A : Int) + (Ln : Int) := IntWalk.i64_in _ (by omega)
                  go_wp2_with fail
                  go_quiet (fail)
                  have HC2 := Lib.hid (HC.out.drewN nq)
                  clear HC cA cB wB dB dB' dA
                  generalize wr.drewN nq = W2 at HC2 ⊢
                  go_wp2_with fail
                  go_loopw [13] (fun i wr => ∃ n : Nat, n ≤ Ln ∧ i = .int .i64 n ∧ CN w g q N L (fun j => cnt (L.take m) j + ind A (A + (n : Int)) j) wr) (fun i _ => Ln - (intOf i).toNat)
                  case atStart => exact ⟨0, by omega, rfl, HC2.out.congr (by intro j _; simp [ind_self])⟩
                  case round =>
                    clear HC2
                    obtain ⟨n, hn, rfl, hC⟩ := hrel
                    have HC3 := Lib.hid hC
                    clear hC
                    obtain ⟨cA, cB⟩ := HC3.out.cs m (by rw [HM.out]; exact hlt)
                    rw [HAe.out] at cA
                    rw [HLe.out] at cB
                    by_cases hl2 : n < Ln
                    · have hAn : A + n < N := by omega
                      have cq := HC3.out.row.cell hAn
                      have b1 := cnt_bound (L.take m) ((A + n : Nat) : Int)
                      have b2 := ind_01 A (A + (n : Int)) ((A + n : Nat) : Int)
                      have b3 : (L.take m).length ≤ 100 := by rw [List.length_take]; omega
                      have HI := Lib.hid (fun j => ind_succ (A : Int) (n : Int) (by omega) j)
                      generalize hv : cnt (L.take m) ((A + n : Nat) : Int) + ind A (A + (n : Int)) ((A + n : Nat) : Int) = v at cq
                      have HV := Lib.hid hv
                      have v1 : 0 ≤ v := by omega
                      have v2 : v ≤ 101 := by omega
                      clear b1 b2 b3 hv
                      have fq := HC3.out.row.frozen
                      have s1 : (0 : Int) ≤ (A : Int) + (n : Int) := by omega
                      have s2 : (A : Int) + (n : Int) < (N : Int) := by omega
                      have s3 : ((A : Int) + (n : Int)).toNat = A + n := by omega
                      go_wp2
                      go_roundw
                      case rel =>
                        refine ⟨n + 1, by omega, by go_num, HC3.out.put (A + n) _ ?_⟩
                        intro j _
                        have e := HI.out (j : Int)
                        rw [show ((n + 1 : Nat) : Int) = (n : Int) + 1 by omega]
                        by_cases hj : j = A + n
                        · subst hj
                          rw [if_pos rfl, ← HV.out, e, if_pos (by omega)]
                          omega
                        · rw [if_neg hj, e, if_neg (by omega)]
                          omega
                      case measure => simp [intOf]; omega
                    · obtain rfl : n = Ln := by omega
                      go_wp2
                      go_roundw
                      case rel =>
                        refine ⟨m + 1, by omega, by go_num, HC3.out.congr ?_⟩
                        intro j _
                        exact HT.out (j : Int)
                      case measure => simp [intOf]; omega
                · obtain rfl : m = M := by omega
                  clear hm hlt
                  go_wp2_with fail
                  have HC1 := Lib.hid HC.out
                  clear HC
                  go_loop [14] (fun i => ∃ j : Nat, j ≤ N ∧ i = .int .i64 j) (fun i => N - (intOf i).toNat)
                  case atStart => exact ⟨0, by omega, rfl⟩
                  case round =>
                    obtain ⟨j, hj, rfl⟩ := hrel
                    by_cases hlt : j < N
                    · have cj := HC1.out.row.cell hlt
                      rw [show L.take m = L by rw [List.take_of_length_le (by rw [HM.out]; omega)], HCT.out (j : Int) (by omega) (by omega)] at cj
                      go_wp2
                      go_round
                      case rel => exact ⟨j + 1, by omega, by go_num⟩
                      case measure => simp [intOf]; omega
                    · go_wp2
                      go_ret
                      exact ⟨rfl, HC1.out.be⟩
            have dl : decide ((k3 : Int) + 1 ≤ x.n0 + x.n1) = true := by simp; omega
            have HL1 := Lib.hid (blocksL_succ x k3)
            have hlen3 := Lib.hid (blocksL_len x k3)
            have HLN := Lib.hid (show (L0 ++ slotsL x k1 ++ topicsL x k2 ++ blocksL x k3).length = 5 + k1 + 4 * k2 + k3 by rw [List.length_append, List.length_append, List.length_append, hlen1.out, hlen2.out, hlen3.out]; rfl)
            by_cases h5 : (k3 : Int) + 1 < 1 + x.n0
            · have HCk := Lib.hid (class_0 (x := x) (b := (k3 : Int) + 1) (by omega) h5)
              have HSz := Lib.hid (show szC x ((k3 : Int) + 1) = x.s0 by unfold szC; first | rw [if_pos h5] | rw [if_neg h5])
              clear h5
              obtain ⟨c0, c1, c2, c3, c4, c5, c6, c7, c8⟩ := HS.out.cfg.cells
              go_wp2_with fail
              refine (class_any x ((k3 : Int) + 1) _ (HL.out.below HS.out.be) HR.out).mono ?_
              rintro e w6 ⟨rfl, hb⟩
              have HS6 := Lib.hid (HS.out.below hb)
              clear hb HS c0 c1 c2 c3 c4 c5 c6 c7 c8
              rw [HCk.out]
              have hw1 : IntKind.i64.wrap (1 + x.s0) = 1 + x.s0 := IntWalk.i64_in _ (by omega)
              go_wp2_with fail
              go_region_held3 (fun w' => w'.cell? ⟨b, 0, none⟩ = some (.int .i64 x.t) ∧ w'.cell? ⟨b, 1, none⟩ = some (.int .i64 x.s) ∧ w'.cell? ⟨b, 2, none⟩ = some (.int .i64 x.l) ∧ w'.cell? ⟨b, 3, none⟩ = some (.int .i64 x.c) ∧ w'.cell? ⟨b, 4, none⟩ = some (.int .i64 x.s0) ∧ w'.cell? ⟨b, 5, none⟩ = some (.int .i64 x.n0) ∧ w'.cell? ⟨b, 6, none⟩ = some (.int .i64 x.s1) ∧ w'.cell? ⟨b, 7, none⟩ = some (.int .i64 x.n1) ∧ w'.cell? ⟨b, 8, none⟩ = some (.int .i64 x.r) ∧ PB w b x w')
                (first | exact HS6.out.drew.base | exact H1.out.base | exact (H1.out.alloc _).base | exact H5.out.base | assumption)
                (first
                  | (go_at_call 25; (with_reducible refine (block_any x ((k3 : Int) + 1) _ (HL.out.below HS6.out.drew.be) HR.out).mono ?_); rintro e w7 ⟨rfl, hb⟩; have H1 := Lib.hid (HS6.out.drew.below hb); clear hb)
                  | (refine step_append_lies _ (by rfl) _ _ _ (by rfl) (q + 1) 35 i0 _ 2 16 Tryd.underlying42 hi hz0 hz1 hz2 rfl (by omega) _ _ _ (by rfl) ((H1.out.alloc _).own) ⟨w7.heap.size, 0, none⟩ 1 1 [.int .i64 (blockC x ((k3 : Int) + 1)), .int .i64 (1 + x.s0)] (by rfl) (by rfl) (cell_newA _ #[.int .i64 (blockC x ((k3 : Int) + 1)), .int .i64 (1 + x.s0)] _) (by simp [Value.oneCell']) (by omega) (by have := HLN.out; unfold maxLen; omega) (by have := HLN.out; omega) (by have := H1.out.lt; simp; omega) _ rfl ?_; intro gg cap w10 hown10 hgrow10 hat hlt10; have Hown10 := Lib.hid hown10; have Hgrow10 := Lib.hid hgrow10; clear hown10 hgrow10 hat hlt10; have H5 := Lib.hid ((H1.out.alloc _).grown (M := [(blockC x ((k3 : Int) + 1), 1 + x.s0)]) Hgrow10.out (by simp; try omega) Hown10.out); clear Hown10 Hgrow10))
              all_goals
                go_wp2
                go_roundw
                case rel =>
                  refine ⟨k3 + 1, by omega, by go_num, ?_⟩
                  rw [HL1.out, HSz.out, ← List.append_assoc]
                  simpa only [List.length_append, Nat.add_assoc] using H5.out
                case measure => simp [intOf]; omega
            · have HCk := Lib.hid (class_1 (x := x) (b := (k3 : Int) + 1) (by omega) h5)
              have HSz := Lib.hid (show szC x ((k3 : Int) + 1) = x.s1 by unfold szC; first | rw [if_pos h5] | rw [if_neg h5])
              clear h5
              obtain ⟨c0, c1, c2, c3, c4, c5, c6, c7, c8⟩ := HS.out.cfg.cells
              go_wp2_with fail
              refine (class_any x ((k3 : Int) + 1) _ (HL.out.below HS.out.be) HR.out).mono ?_
              rintro e w6 ⟨rfl, hb⟩
              have HS6 := Lib.hid (HS.out.below hb)
              clear hb HS c0 c1 c2 c3 c4 c5 c6 c7 c8
              rw [HCk.out]
              have hw1 : IntKind.i64.wrap (1 + x.s1) = 1 + x.s1 := IntWalk.i64_in _ (by omega)
              go_wp2_with fail
              go_region_held3 (fun w' => w'.cell? ⟨b, 0, none⟩ = some (.int .i64 x.t) ∧ w'.cell? ⟨b, 1, none⟩ = some (.int .i64 x.s) ∧ w'.cell? ⟨b, 2, none⟩ = some (.int .i64 x.l) ∧ w'.cell? ⟨b, 3, none⟩ = some (.int .i64 x.c) ∧ w'.cell? ⟨b, 4, none⟩ = some (.int .i64 x.s0) ∧ w'.cell? ⟨b, 5, none⟩ = some (.int .i64 x.n0) ∧ w'.cell? ⟨b, 6, none⟩ = some (.int .i64 x.s1) ∧ w'.cell? ⟨b, 7, none⟩ = some (.int .i64 x.n1) ∧ w'.cell? ⟨b, 8, none⟩ = some (.int .i64 x.r) ∧ PB w b x w')
                (first | exact HS6.out.drew.base | exact H1.out.base | exact (H1.out.alloc _).base | exact H5.out.base | assumption)
                (first
                  | (go_at_call 25; (with_reducible refine (block_any x ((k3 : Int) + 1) _ (HL.out.below HS6.out.drew.be) HR.out).mono ?_); rintro e w7 ⟨rfl, hb⟩; have H1 := Lib.hid (HS6.out.drew.below hb); clear hb)
                  | (refine step_append_lies _ (by rfl) _ _ _ (by rfl) (q + 1) 35 i0 _ 2 16 Tryd.underlying42 hi hz0 hz1 hz2 rfl (by omega) _ _ _ (by rfl) ((H1.out.alloc _).own) ⟨w7.heap.size, 0, none⟩ 1 1 [.int .i64 (blockC x ((k3 : Int) + 1)), .int .i64 (1 + x.s1)] (by rfl) (by rfl) (cell_newA _ #[.int .i64 (blockC x ((k3 : Int) + 1)), .int .i64 (1 + x.s1)] _) (by simp [Value.oneCell']) (by omega) (by have := HLN.out; unfold maxLen; omega) (by have := HLN.out; omega) (by have := H1.out.lt; simp; omega) _ rfl ?_; intro gg cap w10 hown10 hgrow10 hat hlt10; have Hown10 := Lib.hid hown10; have Hgrow10 := Lib.hid hgrow10; clear hown10 hgrow10 hat hlt10; have H5 := Lib.hid ((H1.out.alloc _).grown (M := [(blockC x ((k3 : Int) + 1), 1 + x.s1)]) Hgrow10.out (by simp; try omega) Hown10.out); clear Hown10 Hgrow10))
              all_goals
                go_wp2
                go_roundw
                case rel =>
                  refine ⟨k3 + 1, by omega, by go_num, ?_⟩
                  rw [HL1.out, HSz.out, ← List.append_assoc]
                  simpa only [List.length_append, Nat.add_assoc] using H5.out
                case measure => simp [intOf]; omega

end Go.Proofs.YtohncolnnkmljaaDoor
