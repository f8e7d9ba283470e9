/- The document's Make. -/
import Derived.Test.YtkpffnihnhlghaaDoorPMkR
import Derived.Deep.Cut
namespace Go.Proofs.YtkpffnihnhlghaaDoor
open Go.RowKit
set_option maxRecDepth 100000 in
set_option maxHeartbeats 8000000 in
theorem r4Make_any (x : Cfg) (N : Nat) (w : World) (hr : Right x) (hN : sizeC x = (N : Int)) : Calls Tryd.prog 22 #[(.agg #[.int .i64 x.t, .int .i64 x.s, .int .i64 x.l, .int .i64 x.c, .int .i64 x.s0, .int .i64 x.n0, .int .i64 x.s1, .int .i64 x.n1, .int .i64 x.r])] w (RMade x N w) := by
  have HR := Lib.hid hr
  have HN := Lib.hid hN
  have hcb := hr.b
  have N1 : 7 ≤ N := by have := hr.sizes; omega
  have N2 : N ≤ 2869 := by have := hr.sizes; omega
  clear hr hN
  go_enter Tryd.func22, Tryd.ntmps22
  go_wp2_with fail
  refine (r4Size_any x _ HR.out).mono ?_
  rintro e w1 ⟨rfl, hb⟩
  have H1 := Lib.hid (show CW w w.heap.size x w1 from ⟨(cfgAt_box w x).below hb, Below.step (B := w.heap.size) (a := w) (by (repeat (first | with_reducible exact Below.refl _ _ | with_reducible refine Below.drew ?_ | (with_reducible refine Below.setCell ?_ ?side _; case side => exact (by first | (simp; done) | (simp; omega) | omega)) | (with_reducible refine Below.alloc ?_ ?side _; case side => exact (by first | (simp; done) | (simp; omega) | omega))))) hb (by first | (simp; done) | (simp; omega) | omega)⟩)
  clear hb
  rw [HN.out]
  go_wp2_with fail
  refine (r_new N (by omega) (by omega) _).mono ?_
  rintro e w2 ⟨rfl, hA, hb⟩
  have hlb := H1.out.cfg.lt
  have HS := Lib.hid (show RF w w.heap.size (w1.heap.size + 1) w1.heap.size N x (fun _ => 0) 0 w2 from ⟨St.zero, ⟨H1.out.cfg.below hb, hA, by omega, by omega, by omega, by omega, (H1.out.below hb).be⟩, fun _ => rfl, rfl⟩)
  clear hA hb H1 hlb
  generalize w1.heap.size + 1 = p at HS ⊢
  generalize w1.heap.size = c at HS ⊢
  generalize w.heap.size = b at HS ⊢
  have p0 := HS.out.all.2.2.2.2.2.2.2.2.2.1
  have q0 := HS.out.cell (m := 0) (by omega)
  have qf := HS.out.frz
  have n0 : (0 : Int) < (N : Int) := by omega
  have n1 : (1 : Int) < (N : Int) := by omega
  have n3 : (3 : Int) < (N : Int) := by omega
  have n4 : (4 : Int) < (N : Int) := by omega
  go_wp2_with fail
  have HS1 := Lib.hid (HS.out.put 0 7597137583116413295 (fun _ => rfl))
  clear HS p0 q0 qf
  generalize w2.setCell ⟨c, 0, none⟩ (.int .u64 7597137583116413295) = W1 at HS1 ⊢
  go_region_held3 (fun w' => w'.cell? ⟨b, 0, none⟩ = some (.int .i64 x.t) ∧ w'.cell? ⟨b, 1, none⟩ = some (.int .i64 x.s) ∧ w'.cell? ⟨b, 2, none⟩ = some (.int .i64 x.l) ∧ w'.cell? ⟨b, 3, none⟩ = some (.int .i64 x.c) ∧ w'.cell? ⟨b, 4, none⟩ = some (.int .i64 x.s0) ∧ w'.cell? ⟨b, 5, none⟩ = some (.int .i64 x.n0) ∧ w'.cell? ⟨b, 6, none⟩ = some (.int .i64 x.s1) ∧ w'.cell? ⟨b, 7, none⟩ = some (.int .i64 x.n1) ∧ w'.cell? ⟨b, 8, none⟩ = some (.int .i64 x.r) ∧ w'.cell? ⟨p, 0, none⟩ = some (.slice (some ⟨c, 0, none⟩) N N) ∧ w'.cell? ⟨b, 0, none⟩ = some (.int .i64 x.t))
    (first | exact HS1.out.drew.all | exact H2.out.all | exact (H2.out.put 1 (packN x : Int) (fun _ => rfl)).all | assumption)
    (first
      | (go_at_call 69; (with_reducible refine (r4Pack_yes x _ (rightB_true HR.out)).mono ?_); rintro e w3 ⟨rfl, hb⟩; have H2 := Lib.hid (HS1.out.drew.below hb); clear hb; have q1 := H2.out.cell (m := 1) (by omega); have qf := H2.out.frz))
  have HS2 := Lib.hid (H2.out.put 1 (packN x : Int) (F' := fw x false false (fun _ => false)) (fun j => fw_zero j))
  clear H2 HS1 q1 qf
  generalize w3.setCell ⟨c, 1, none⟩ (.int .u64 (packN x : Int)) = W2 at HS2 ⊢
  obtain ⟨c0, c1, c2, c3, c4, c5, c6, c7, c8, p0, -⟩ := HS2.out.all
  clear c0 c1 c2 c3 c4 c5 c6 c7 c8 p0
  obtain ⟨c0, c1, c2, c3, c4, c5, c6, c7, c8, p0, -⟩ := HS2.out.all
  go_upto_if 25 with (fail)
  go_cut [] from 6 (fun wc => RF w b p c N x (fw x (decide (0 < x.n0)) false (fun _ => false)) 0 wc)
  case first =>
    by_cases h3 : 0 < x.n0
    · have d3 : decide (0 < x.n0) = true := by simpa using h3
      have q3 := HS2.out.cell (m := 3) (by omega)
      have qf := HS2.out.frz
      have HT := Lib.hid (HS2.out.put 3 1 (F' := fw x true false (fun _ => false)) (fun j => fw_3 x false _ j))
      rw [d3]
      have HD := Lib.hid d3
      clear h3 d3
      go_wp2_with fail
      go_meet
      case rel => rw [HD.out]; exact HT.out
    · have d3 : decide (0 < x.n0) = false := by simpa using h3
      rw [d3]
      have HD := Lib.hid d3
      clear h3 d3
      go_wp2_with fail
      go_meet
      case rel => rw [HD.out]; exact HS2.out
  case rest =>
    clear HS2 c0 c1 c2 c3 c4 c5 c6 c7 c8 p0
    have HS3 := Lib.hid hcut
    clear hcut
    obtain ⟨c0, c1, c2, c3, c4, c5, c6, c7, c8, p0, -⟩ := HS3.out.all
    go_upto_if 35 with (fail)
    go_cut [] from 6 (fun wc => RF w b p c N x (fw x (decide (0 < x.n0)) (decide (0 < x.n1)) (fun _ => false)) 0 wc)
    case first =>
      by_cases h4 : 0 < x.n1
      · have d4 : decide (0 < x.n1) = true := by simpa using h4
        rw [d4]
        have HD := Lib.hid d4
        clear d4
        have q4 := HS3.out.cell (m := 4) (by omega)
        have qf := HS3.out.frz
        have hw1 : IntKind.i64.wrap (x.n0 + 1) = x.n0 + 1 := IntWalk.i64_in _ (by omega)
        have hw2 : IntKind.u64.wrap (x.n0 + 1) = x.n0 + 1 := by rw [IntKind.wrap_u64]; omega
        have HT := Lib.hid ((HS3.out.put 4 (x.n0 + 1) (F' := fw x (decide (0 < x.n0)) true (fun _ => false)) (fun j => fw_4 x (decide (0 < x.n0)) _ j)).drew)
        clear h4
        go_wp2_with fail
        go_region
        go_wp2_with fail
        go_meet
        case rel => rw [HD.out]; exact HT.out
      · have d4 : decide (0 < x.n1) = false := by simpa using h4
        rw [d4]
        have HD := Lib.hid d4
        clear h4 d4
        go_wp2_with fail
        go_meet
        case rel => rw [HD.out]; exact HS3.out
    case rest =>
      clear HS3 c0 c1 c2 c3 c4 c5 c6 c7 c8 p0
      have HT := Lib.hid hcut
      clear hcut
      go_wp2_with fail
      go_loopw [4] (fun i wr => ∃ m : Nat, 1 ≤ m ∧ ((m : Int) ≤ x.n0 + x.n1 ∨ m = 1) ∧ i = .int .i64 m ∧ RF w b p c N x (fw x (decide (0 < x.n0)) (decide (0 < x.n1)) (PR x m)) 0 wr) (fun i _ => (x.n0 + x.n1).toNat + 1 - (intOf i).toNat)
      case atStart => exact ⟨1, by omega, .inr rfl, rfl, HT.out.congr (fun j => pr_start HR.out (decide (0 < x.n0)) (decide (0 < x.n1)) j)⟩
      case round =>
        clear HT
        obtain ⟨m, hm1, hm2, rfl, hS⟩ := hrel
        have HS := Lib.hid hS
        clear hS
        obtain ⟨c0, c1, c2, c3, c4, c5, c6, c7, c8, -⟩ := HS.out.all
        go_wp2_with fail
        refine (r4Blocks_any x _ (by omega) (by omega) (by omega) (by omega)).mono ?_
        rintro e w5 ⟨rfl, hb⟩
        have HS5 := Lib.hid (HS.out.below hb)
        clear hb HS c0 c1 c2 c3 c4 c5 c6 c7 c8
        by_cases hlt : (m : Int) < x.n0 + x.n1
        case neg =>
          have dl : decide ((m : Int) < x.n0 + x.n1) = false := by simpa using hlt
          have HT := Lib.hid (HS5.out.congr (F' := wordsC x) (fun j => pr_end HR.out (decide (0 < x.n0)) (decide (0 < x.n1)) rfl rfl m hm1 hm2 hlt j))
          clear HS5 hlt hm1 hm2
          go_wp2_with fail
          clear dl
          go_loopw [5] (fun i wr => ∃ k : Nat, k ≤ N ∧ i = .int .i64 k ∧ RF w b p c N x (wordsC x) (nz (wordsC x) k) wr) (fun i _ => N - (intOf i).toNat)
          case atStart => exact ⟨0, by omega, rfl, HT.out⟩
          case round =>
            clear HT
            obtain ⟨k, hk, rfl, hS⟩ := hrel
            have HS := Lib.hid hS
            clear hS
            have p0 := HS.out.all.2.2.2.2.2.2.2.2.2.1
            by_cases hlt : k < N
            · have ck := HS.out.cell hlt
              have HNZ := Lib.hid (show nz (wordsC x) (k + 1) = nz (wordsC x) k + if wordsC x k = 0 then 0 else 1 from rfl)
              by_cases hz : wordsC x k = 0
              · have HZ := Lib.hid hz
                rw [hz] at ck
                clear hz
                go_wp2
                go_roundw
                case rel =>
                  refine ⟨k + 1, by omega, by go_num, ?_⟩
                  rw [HNZ.out, if_pos HZ.out, Int.add_zero]
                  exact HS.out
                case measure => simp [intOf]; omega
              · have HZ := Lib.hid hz
                have dz : (wordsC x k != 0) = true := by simpa using hz
                have hnb := nz_bound (wordsC x) k
                obtain ⟨o1, ⟨u2, o2⟩, ⟨u3, o3⟩, ⟨u4, o4⟩, ⟨u5, o5⟩, of, ncp⟩ := HS.out.obj
                clear hz
                generalize nz (wordsC x) k = s at HS HNZ hnb o1
                go_wp2
                go_roundw
                case rel =>
                  refine ⟨k + 1, by omega, by go_num, ?_⟩
                  rw [HNZ.out, if_neg HZ.out]
                  exact HS.out.count _ _
                case measure => simp [intOf]; omega
            · obtain rfl : k = N := by omega
              go_wp2
              go_ret
              obtain ⟨y, h1, h2, h3⟩ := HS.out
              exact ⟨p, c, y, rfl, h1.rs, fun j _ => h2 j, h3, h1.hp, h1.hc, h1.be⟩
        have dl : decide ((m : Int) < x.n0 + x.n1) = true := by simpa using hlt
        have hw1 : IntKind.i64.wrap ((m : Int) + 1) = (m : Int) + 1 := IntWalk.i64_in _ (by omega)
        have hw2 : IntKind.u64.wrap ((m : Int) + 1) = (m : Int) + 1 := by rw [IntKind.wrap_u64]; omega
        have hcs := class_same HR.out (m : Int) (by omega) hlt
        by_cases hm : (m : Int) = x.n0
        · have HM := Lib.hid hm
          rw [show decide ((m : Int) = x.n0) = true by simpa using hm] at hcs
          simp only [Bool.not_true] at hcs
          clear hm
          go_wp2_with fail
          go_region_held3 (fun w' => w'.cell? ⟨b, 0, none⟩ = some (.int .i64 x.t) ∧ w'.cell? ⟨b, 1, none⟩ = some (.int .i64 x.s) ∧ w'.cell? ⟨b, 2, none⟩ = some (.int .i64 x.l) ∧ w'.cell? ⟨b, 3, none⟩ = some (.int .i64 x.c) ∧ w'.cell? ⟨b, 4, none⟩ = some (.int .i64 x.s0) ∧ w'.cell? ⟨b, 5, none⟩ = some (.int .i64 x.n0) ∧ w'.cell? ⟨b, 6, none⟩ = some (.int .i64 x.s1) ∧ w'.cell? ⟨b, 7, none⟩ = some (.int .i64 x.n1) ∧ w'.cell? ⟨b, 8, none⟩ = some (.int .i64 x.r) ∧ w'.cell? ⟨p, 0, none⟩ = some (.slice (some ⟨c, 0, none⟩) N N) ∧ w'.cell? ⟨b, 0, none⟩ = some (.int .i64 x.t))
            (first | exact HS5.out.drew.all | exact H2.out.all | exact H3.out.all | assumption)
            (first
              | (go_at_call 70; (with_reducible refine (r4Class_any x m _ HR.out).mono ?_); rintro e w6 ⟨rfl, hb⟩; have H2 := Lib.hid (HS5.out.drew.below hb); clear hb)
              | (go_at_call 70; (with_reducible refine (r4Class_any x ((m : Int) + 1) _ HR.out).mono ?_); rintro e w7 ⟨rfl, hb⟩; have H3 := Lib.hid (H2.out.below hb); clear hb))
          all_goals
            go_wp2
            go_roundw
            case rel => exact ⟨m + 1, by omega, .inl (by omega), by go_num, H3.out.congr (fun j => pr_skip HR.out (decide (0 < x.n0)) (decide (0 < x.n1)) m HM.out j)⟩
            case measure => simp [intOf]; omega
        · have HM := Lib.hid hm
          rw [show decide ((m : Int) = x.n0) = false by simpa using hm] at hcs
          simp only [Bool.not_false] at hcs
          have ha := adr_low HR.out m hm1 (by omega)
          rw [HN.out] at ha
          have ha1 : adr x m < N := by omega
          have ha2 : (0 : Int) ≤ (adr x m : Int) := by omega
          have ha3 : (adr x m : Int) < (N : Int) := by omega
          have HST := Lib.hid (fun j => pr_step HR.out (decide (0 < x.n0)) (decide (0 < x.n1)) m hm1 hlt hm j)
          have HBA := Lib.hid (r4Block_adr x m)
          clear hm ha
          generalize adr x m = A at ha1 ha2 ha3 HST HBA
          go_wp2_with fail
          go_region_held3 (fun w' => w'.cell? ⟨b, 0, none⟩ = some (.int .i64 x.t) ∧ w'.cell? ⟨b, 1, none⟩ = some (.int .i64 x.s) ∧ w'.cell? ⟨b, 2, none⟩ = some (.int .i64 x.l) ∧ w'.cell? ⟨b, 3, none⟩ = some (.int .i64 x.c) ∧ w'.cell? ⟨b, 4, none⟩ = some (.int .i64 x.s0) ∧ w'.cell? ⟨b, 5, none⟩ = some (.int .i64 x.n0) ∧ w'.cell? ⟨b, 6, none⟩ = some (.int .i64 x.s1) ∧ w'.cell? ⟨b, 7, none⟩ = some (.int .i64 x.n1) ∧ w'.cell? ⟨b, 8, none⟩ = some (.int .i64 x.r) ∧ w'.cell? ⟨p, 0, none⟩ = some (.slice (some ⟨c, 0, none⟩) N N) ∧ w'.cell? ⟨b, 0, none⟩ = some (.int .i64 x.t))
            (first | exact HS5.out.drew.all | exact H2.out.all | exact H3.out.all | assumption)
            (first
              | (go_at_call 70; (with_reducible refine (r4Class_any x m _ HR.out).mono ?_); rintro e w6 ⟨rfl, hb⟩; have H2 := Lib.hid (HS5.out.drew.below hb); clear hb)
              | (go_at_call 70; (with_reducible refine (r4Class_any x ((m : Int) + 1) _ HR.out).mono ?_); rintro e w7 ⟨rfl, hb⟩; have H3 := Lib.hid (H2.out.below hb); clear hb))
          all_goals
            go_wp2_with fail
            go_region_held3 (fun w' => w'.cell? ⟨b, 0, none⟩ = some (.int .i64 x.t) ∧ w'.cell? ⟨b, 1, none⟩ = some (.int .i64 x.s) ∧ w'.cell? ⟨b, 2, none⟩ = some (.int .i64 x.l) ∧ w'.cell? ⟨b, 3, none⟩ = some (.int .i64 x.c) ∧ w'.cell? ⟨b, 4, none⟩ = some (.int .i64 x.s0) ∧ w'.cell? ⟨b, 5, none⟩ = some (.int .i64 x.n0) ∧ w'.cell? ⟨b, 6, none⟩ = some (.int .i64 x.s1) ∧ w'.cell? ⟨b, 7, none⟩ = some (.int .i64 x.n1) ∧ w'.cell? ⟨b, 8, none⟩ = some (.int .i64 x.r) ∧ w'.cell? ⟨p, 0, none⟩ = some (.slice (some ⟨c, 0, none⟩) N N) ∧ w'.cell? ⟨b, 0, none⟩ = some (.int .i64 x.t))
              (first | exact H3.out.drew.all | exact H4.out.all | exact (H4.out.put (F' := fw x (decide (0 < x.n0)) (decide (0 < x.n1)) (PR x (m + 1))) A ((m : Int) + 1) HST.out).all | assumption)
              (first
                | (go_at_call 71; (with_reducible refine (HBA.out _ HR.out hm1 (by omega)).mono ?_); rintro e w8 ⟨rfl, hb⟩; have H4 := Lib.hid (H3.out.drew.below hb); clear hb; have q1 := H4.out.cell ha1; have qf := H4.out.frz))
            all_goals
              go_wp2
              go_roundw
              case rel => exact ⟨m + 1, by omega, .inl (by omega), by go_num, H4.out.put A ((m : Int) + 1) HST.out⟩
              case measure => simp [intOf]; omega

end Go.Proofs.YtkpffnihnhlghaaDoor
