/- HeadsOnce: the law's walk. -/
import Derived.Test.YtkhbhkllnigbgaaDoorHHas
namespace Go.Proofs.YtkhbhkllnigbgaaDoor
open Go.RowKit
theorem arr4_row (w : World) (a0 a1 a2 a3 : Int) : (w.alloc (.cells #[.int .i64 a0, .int .i64 a1, .int .i64 a2, .int .i64 a3] 72)).rowIs w.heap.size 72 4 (fun j => if j = 0 then .int .i64 a0 else if j = 1 then .int .i64 a1 else if j = 2 then .int .i64 a2 else .int .i64 a3) :=
  World.rowIs_alloc w #[.int .i64 a0, .int .i64 a1, .int .i64 a2, .int .i64 a3] 72 _ (by intro j hj; match j, hj with | 0, _ => rfl | 1, _ => rfl | 2, _ => rfl | 3, _ => rfl)
theorem own_cap {W : World} {B n m cap : Nat} {A : Option Addr} {xs : List Value} (h : W.ownsRow B 3 1 (.slice A n cap) m xs) : m = n → n ≤ cap := by
  intro e
  subst e
  rcases h with ⟨hl, (⟨hn, h0⟩ | ⟨g, cap', cur, e', b1, b2, b3, b4⟩)⟩
  · omega
  · injection e' with _ _ e3
    omega
/-- .. and a row of numbers. -/
structure OWH (w : World) (x : Cfg) (qc c N : Nat) (f : Nat → Nat) (v : Value) (La : List Int) (W : World) : Prop where
  ah : AH w x qc c 0 N f W
  row : IRw W v La
section
variable {w : World} {x : Cfg} {qc c N : Nat} {f : Nat → Nat} {v : Value} {La : List Int} {W W' : World}
theorem OWH.below (h : OWH w x qc c N f v La W) (hb : Below W.heap.size W W') : OWH w x qc c N f v La W' := ⟨h.ah.below hb, h.row.below hb⟩
theorem OWH.all {b o i : Nat} {z : Int} (HZ : Hid (∀ W, OWH w x qc c N f v La W → W.cell? ⟨b, o + i, none⟩ = some (.int .i64 z))) (H : Hid (OWH w x qc c N f v La W)) : W.cell? ⟨qc, 0, none⟩ = some (.int .i64 x.t) ∧ W.cell? ⟨qc, 1, none⟩ = some (.int .i64 x.s) ∧ W.cell? ⟨qc, 2, none⟩ = some (.int .i64 x.l) ∧ W.cell? ⟨qc, 3, none⟩ = some (.int .i64 x.c) ∧ W.cell? ⟨qc, 4, none⟩ = some (.int .i64 x.s0) ∧ W.cell? ⟨qc, 5, none⟩ = some (.int .i64 x.n0) ∧ W.cell? ⟨qc, 6, none⟩ = some (.int .i64 x.s1) ∧ W.cell? ⟨qc, 7, none⟩ = some (.int .i64 x.n1) ∧ W.cell? ⟨qc, 8, none⟩ = some (.int .i64 x.r) ∧ W.cell? ⟨b, o + i, none⟩ = some (.int .i64 z) ∧ Hid (OWH w x qc c N f v La W) := by
  obtain ⟨c0, c1, c2, c3, c4, c5, c6, c7, c8⟩ := H.out.ah.cfg.cells
  exact ⟨c0, c1, c2, c3, c4, c5, c6, c7, c8, HZ.out W H.out, H⟩
theorem OWH.class_ {z C : Int} (hr : Right x) (hC : classC x z = C) (H : Hid (OWH w x qc c N f v La W)) : Calls Tryd.prog 34 #[(.agg #[.int .i64 x.t, .int .i64 x.s, .int .i64 x.l, .int .i64 x.c, .int .i64 x.s0, .int .i64 x.n0, .int .i64 x.s1, .int .i64 x.n1, .int .i64 x.r]), .int .i64 z] W fun e W' => e = .returned (.int .i64 C) ∧ Hid (OWH w x qc c N f v La W') := by
  subst hC
  exact (r4Class_any x z W hr).mono fun _ _ ⟨he, hb⟩ => ⟨he, Lib.hid (H.out.below hb)⟩
theorem OWH.has_ {A : Option Addr} {n cap i : Nat} {z : Int} (hi : i < La.length) (hL : La.length ≤ 1000) (hn : La.length = n) (hz : ¬ z ∈ La.take i) (H : Hid (OWH w x qc c N f (.slice A n cap) La W)) : Calls Tryd.prog 35 #[.slice A i cap, .int .i64 z] W fun e W' => e = .returned (.bool false) ∧ Hid (OWH w x qc c N f (.slice A n cap) La W') := by
  obtain ⟨A', cap', e, hrow⟩ := H.out.row.take i (by omega)
  cases e
  have h := has_any (La.take i) (by rw [List.length_take]; omega) z _ W hrow
  rw [decide_eq_false hz] at h
  exact h.mono fun _ _ ⟨he, hb⟩ => ⟨he, Lib.hid (H.out.below hb)⟩
end
theorem top_at (p k : Int) (hk : ¬ k = 0) (w : World) (hE : Cs.ErrT w) : Calls Tryd.prog 21 #[Cs.enc [(0, p), (k, 0)]] w fun r w' => r = .returned (.int .i64 k) ∧ Below w.heap.size w w' := by
  have h := Cs.top_any [(0, p), (k, 0)] (by simp [Cs.Ok, hk]) (by simp) w hE
  rw [Cs.top_word, Cs.top_code _ _ hk] at h
  exact h
set_option maxRecDepth 100000 in
set_option maxHeartbeats 8000000 in
theorem lawOnce_any (a0 a1 a2 a3 : Int) (A : Option Addr) (L cap : Nat) (g : Nat → S5) (w : World) (hE : Cs.ErrT w) (hL : Lim w) (hs : SRow w A L g) : Calls Tryd.prog 8 #[.agg #[.int .i64 a0, .int .i64 a1, .int .i64 a2, .int .i64 a3], .slice A L cap] w fun e w' => e = .returned (.bool true) ∧ Below w.heap.size w w' := by
  have HE := Lib.hid hE
  have HL := Lib.hid hL
  have HS := Lib.hid hs
  clear hE hL hs
  go_enter Tryd.func8, Tryd.ntmps8
  go_wp2_with fail
  refine (awake10_any _ (HE.out.below (by (repeat (first | with_reducible exact Below.refl _ _ | with_reducible refine Below.drew ?_ | (with_reducible refine Below.setCell ?_ ?side _; case side => exact (by first | (simp; done) | (simp; omega) | omega)) | (with_reducible refine Below.alloc ?_ ?side _; case side => exact (by first | (simp; done) | (simp; omega) | omega)))))) (HL.out.below (by (repeat (first | with_reducible exact Below.refl _ _ | with_reducible refine Below.drew ?_ | (with_reducible refine Below.setCell ?_ ?side _; case side => exact (by first | (simp; done) | (simp; omega) | omega)) | (with_reducible refine Below.alloc ?_ ?side _; case side => exact (by first | (simp; done) | (simp; omega) | omega))))))).mono ?_
  rintro e w1 ⟨rfl, hb⟩
  have HB1 := Lib.hid (Below.step (B := w.heap.size) (a := w) (by (repeat (first | with_reducible exact Below.refl _ _ | with_reducible refine Below.drew ?_ | (with_reducible refine Below.setCell ?_ ?side _; case side => exact (by first | (simp; done) | (simp; omega) | omega)) | (with_reducible refine Below.alloc ?_ ?side _; case side => exact (by first | (simp; done) | (simp; omega) | omega))))) hb (by first | (simp; done) | (simp; omega) | omega))
  have hbx := (arr4_row w a0 a1 a2 a3).of_block (hb.block _ (by simp))
  have x0 : w1.cell? ⟨w.heap.size, 0, none⟩ = some (.int .i64 a0) := hbx.cell (i := 0) (by omega)
  have x1 : w1.cell? ⟨w.heap.size, 1, none⟩ = some (.int .i64 a1) := hbx.cell (i := 1) (by omega)
  have x2 : w1.cell? ⟨w.heap.size, 2, none⟩ = some (.int .i64 a2) := hbx.cell (i := 2) (by omega)
  have x3 : w1.cell? ⟨w.heap.size, 3, none⟩ = some (.int .i64 a3) := hbx.cell (i := 3) (by omega)
  clear hb hbx
  go_wp2_with fail
  clear x0 x1 x2 x3
  refine (cfg10_any a0 a1 a2 a3 _).mono ?_
  rintro e w2 ⟨x, rfl, hr, -, -, hn0, hn1, hb⟩
  have HB2 := Lib.hid (Below.step HB1.out hb HB1.out.size)
  have HR := Lib.hid hr
  obtain ⟨N, hN⟩ : ∃ N : Nat, sizeC x = (N : Int) := ⟨(sizeC x).toNat, by have := hr.sizes; omega⟩
  have HNN := Lib.hid hN
  have hcb := hr.b
  clear hr hN hb
  have hcbx := cfgAt_box w2 x
  have HB2' := Lib.hid (HB2.out.alloc HB2.out.size (.cells #[.int .i64 x.t, .int .i64 x.s, .int .i64 x.l, .int .i64 x.c, .int .i64 x.s0, .int .i64 x.n0, .int .i64 x.s1, .int .i64 x.n1, .int .i64 x.r] 78))
  obtain ⟨c0, c1, c2, c3, c4, c5, c6, c7, c8⟩ := hcbx.cells
  have HCB := Lib.hid hcbx
  clear hcbx
  go_wp2_with fail
  generalize w2.alloc (.cells #[.int .i64 x.t, .int .i64 x.s, .int .i64 x.l, .int .i64 x.c, .int .i64 x.s0, .int .i64 x.n0, .int .i64 x.s1, .int .i64 x.n1, .int .i64 x.r] 78) = Wa at HCB HB2' c0 c1 c2 c3 c4 c5 c6 c7 c8 ⊢
  generalize w2.heap.size = qc at HCB c0 c1 c2 c3 c4 c5 c6 c7 c8 ⊢
  refine (laid_any x N A L cap g _ HR.out HNN.out (HS.out.below HB2'.out)).mono ?_
  rintro e w3 ⟨c, f, rfl, hwh, hlt, hc, hb⟩
  have K0 := Lib.hid (show AH w x qc c 0 N f w3 from ⟨HCB.out.below hb, hwh, Below.step HB2'.out hb HB2'.out.size⟩)
  clear hwh hlt hb HCB HB1 HB2 HB2' c0 c1 c2 c3 c4 c5 c6 c7 c8 hc
  go_wp2_with fail
  go_loopw [8] (fun kv wr => ∃ k : Nat, k ≤ 2 ∧ kv = .int .i64 k ∧ Hid (AH w x qc c 0 N f wr)) (fun kv _ => 2 - (intOf kv).toNat)
  case atStart => exact ⟨0, by omega, rfl, K0⟩
  case round =>
    clear K0
    obtain ⟨k, hk2, rfl, K⟩ := hrel
    by_cases hk : k < 2
    · rcases (show k = 0 ∨ k = 1 by omega) with hk0 | hk0
      · obtain rfl : k = 0 := by omega
        obtain ⟨c0, c1, c2, c3, c4, c5, c6, c7, c8⟩ := K.out.cfg.cells
        go_wp2_with fail
        refine (list_good x HR.out 0 (by omega) c 0 N N HNN.out f _ (HL.out.below K.out.be) K.out.wh).mono ?_
        rintro e w4 ⟨v, La, Ea, rfl, hLa, hoa, hb⟩
        obtain ⟨hlen, hcls, hone, hE⟩ := hLa.once (by unfold cntC; split <;> omega)
        have K4 := Lib.hid (K.out.below hb)
        have hirw := own_irw hoa
        obtain ⟨n, HNL⟩ : ∃ n, Hid (La.length = n) := ⟨_, Lib.hid rfl⟩
        obtain ⟨Av, cap', hv⟩ : ∃ Av cap', v = .slice Av n cap' := by obtain ⟨Av, cap', hv, -⟩ := hirw; exact ⟨Av, cap', by rw [← HNL.out]; exact hv⟩
        subst hv
        have hcap : n ≤ cap' := by
          have := own_cap hoa
          rw [HNL.out] at this
          exact this rfl
        have HIR := Lib.hid hirw
        have HCL := Lib.hid hcls
        have HON := Lib.hid hone
        clear hb hoa hirw hLa hcls hone c0 c1 c2 c3 c4 c5 c6 c7 c8 K
        obtain ⟨c0, c1, c2, c3, c4, c5, c6, c7, c8⟩ := K4.out.cfg.cells
        have KD := Lib.hid (K4.out.below (Below.refl _ _).drew)
        have hlenk : (La.length : Int) ≤ x.n0 := hlen
        rw [HNL.out] at hlenk
        rcases hE with rfl | ⟨rfl, p, kk, rfl, hkk⟩
        · rw [show Cs.enc [] = .nilIface from rfl]
          have dl : decide (x.n0 < (n : Int)) = false := by simp; omega
          go_wp2_with fail
          refine (top_none _ (HE.out.below K4.out.be)).mono ?_
          rintro e w5 ⟨rfl, hb⟩
          have K5 := Lib.hid (K4.out.below hb)
          have HIR5 := Lib.hid (HIR.out.below hb)
          clear hb HIR K4 KD c0 c1 c2 c3 c4 c5 c6 c7 c8
          obtain ⟨c0, c1, c2, c3, c4, c5, c6, c7, c8⟩ := K5.out.cfg.cells
          have KW0 := Lib.hid (show OWH w x qc c N f (.slice Av n cap') La w5 from ⟨K5.out, HIR5.out⟩)
          clear K5 HIR5
          go_wp2_with fail
          clear c0 c1 c2 c3 c4 c5 c6 c7 c8
          go_loopw [11] (fun iv wq => ∃ i : Nat, i ≤ n ∧ iv = .int .i64 i ∧ Hid (OWH w x qc c N f (.slice Av n cap') La wq)) (fun iv _ => n - (intOf iv).toNat)
          case atStart => exact ⟨0, by omega, rfl, KW0⟩
          case round =>
            clear KW0
            obtain ⟨i, hi, rfl, KW⟩ := hrel
            by_cases hin : i < n
            · have hil : i < La.length := by have := HNL.out; omega
              have hci := HCL.out i hil
              have hoi := HON.out i hil
              obtain ⟨Ax, cx, ex, hcx⟩ := KW.out.row
              obtain ⟨b, o, hb1, hb2, hb3⟩ := hcx (by omega)
              have hz := hb3 i hil
              obtain ⟨z, HZ⟩ : ∃ z, Hid (La[i] = z) := ⟨_, Lib.hid rfl⟩
              rw [HZ.out] at hci hoi hz
              have e1 : Av = some ⟨b, o, none⟩ := by injection ex with e1 _ _; exact e1.trans hb1
              subst e1
              have g0 : (0 : Int) ≤ (i : Int) := by omega
              have g1 : (i : Int) < (n : Int) := by omega
              have g2 : (i : Int) ≤ (n : Int) := by omega
              have g3 : (i : Int) ≤ (cap' : Int) := by omega
              have KWD := Lib.hid (KW.out.below (Below.refl _ _).drew)
              have HCI := Lib.hid hci
              have HOI := Lib.hid hoi
              have HZB : Hid (∀ W, OWH w x qc c N f (.slice (some ⟨b, o, none⟩) n cap') La W → W.cell? ⟨b, o + i, none⟩ = some (.int .i64 z)) := Lib.hid fun W hW => by
                obtain ⟨Ay, cy, ey, hcy⟩ := hW.row
                obtain ⟨b', o', f1, f2, f3⟩ := hcy (by omega)
                have f4 := f3 i hil
                rw [HZ.out] at f4
                have e2 : some (⟨b, o, none⟩ : Addr) = some ⟨b', o', none⟩ := by injection ey with e2 _ _; exact e2.trans f1
                cases e2
                exact f4
              clear ex hcx hb1 hb2 hb3 hz hci hoi
              go_wp2_with fail
              go_region_held3 (fun w' => w'.cell? ⟨qc, 0, none⟩ = some (.int .i64 x.t) ∧ w'.cell? ⟨qc, 1, none⟩ = some (.int .i64 x.s) ∧ w'.cell? ⟨qc, 2, none⟩ = some (.int .i64 x.l) ∧ w'.cell? ⟨qc, 3, none⟩ = some (.int .i64 x.c) ∧ w'.cell? ⟨qc, 4, none⟩ = some (.int .i64 x.s0) ∧ w'.cell? ⟨qc, 5, none⟩ = some (.int .i64 x.n0) ∧ w'.cell? ⟨qc, 6, none⟩ = some (.int .i64 x.s1) ∧ w'.cell? ⟨qc, 7, none⟩ = some (.int .i64 x.n1) ∧ w'.cell? ⟨qc, 8, none⟩ = some (.int .i64 x.r) ∧ w'.cell? ⟨b, o + i, none⟩ = some (.int .i64 z) ∧ Hid (OWH w x qc c N f (.slice (some ⟨b, o, none⟩) n cap') La w'))
                (first | exact OWH.all HZB (by assumption))
                (first
                  | (go_at_call 34; (with_reducible refine (OWH.class_ HR.out HCI.out (by assumption)).mono ?_); rintro e w6 ⟨rfl, K2⟩)
                  | (go_at_call 35; (with_reducible refine (OWH.has_ hil (by have := HNL.out; omega) HNL.out HOI.out (by assumption)).mono ?_); rintro e w6 ⟨rfl, K2⟩))
              all_goals
                go_wp2
                go_roundw
                case rel => first | exact ⟨i + 1, by omega, by go_num, K2⟩ | ((repeat apply Exists.intro); exact ⟨⟨i + 1, by omega, by go_num, K2⟩, rfl⟩)
                case measure => simp [intOf]; omega
            · have g1 : ¬ (i : Int) < (n : Int) := by omega
              go_wp2
              go_roundw
              case rel => first | exact ⟨1, by omega, by go_num, Lib.hid KW.out.ah⟩ | ((repeat apply Exists.intro); exact ⟨⟨1, by omega, by go_num, Lib.hid KW.out.ah⟩, rfl⟩)
              case measure => simp [intOf]
        · have hn0' : n = 0 := by have := HNL.out; simpa using this.symm
          have dl : decide (x.n0 < (0 : Int)) = false := by simp; omega
          have hkk0 : ¬ kk = 0 := by omega
          have hkkd : (kk != 0) = true := by simpa using hkk0
          subst hn0'
          go_wp2_with fail
          refine (top_at p kk hkk0 _ (HE.out.below K4.out.be)).mono ?_
          rintro e w5 ⟨rfl, hb⟩
          have K5 := Lib.hid (K4.out.below hb)
          have HIR5 := Lib.hid (HIR.out.below hb)
          clear hb HIR K4 KD c0 c1 c2 c3 c4 c5 c6 c7 c8
          obtain ⟨c0, c1, c2, c3, c4, c5, c6, c7, c8⟩ := K5.out.cfg.cells
          go_wp2_with fail
          go_loopw [11] (fun iv wq => iv = .int .i64 0 ∧ Hid (AH w x qc c 0 N f wq)) (fun iv _ => 0)
          case atStart => exact ⟨rfl, K5⟩
          case round =>
            obtain ⟨rfl, KW⟩ := hrel
            go_wp2
            go_roundw
            case rel => first | exact ⟨1, by omega, by go_num, KW⟩ | ((repeat apply Exists.intro); exact ⟨⟨1, by omega, by go_num, KW⟩, rfl⟩)
            case measure => simp [intOf]
      · obtain rfl : k = 1 := by omega
        obtain ⟨c0, c1, c2, c3, c4, c5, c6, c7, c8⟩ := K.out.cfg.cells
        go_wp2_with fail
        refine (list_good x HR.out 1 (by omega) c 0 N N HNN.out f _ (HL.out.below K.out.be) K.out.wh).mono ?_
        rintro e w4 ⟨v, La, Ea, rfl, hLa, hoa, hb⟩
        obtain ⟨hlen, hcls, hone, hE⟩ := hLa.once (by unfold cntC; split <;> omega)
        have K4 := Lib.hid (K.out.below hb)
        have hirw := own_irw hoa
        obtain ⟨n, HNL⟩ : ∃ n, Hid (La.length = n) := ⟨_, Lib.hid rfl⟩
        obtain ⟨Av, cap', hv⟩ : ∃ Av cap', v = .slice Av n cap' := by obtain ⟨Av, cap', hv, -⟩ := hirw; exact ⟨Av, cap', by rw [← HNL.out]; exact hv⟩
        subst hv
        have hcap : n ≤ cap' := by
          have := own_cap hoa
          rw [HNL.out] at this
          exact this rfl
        have HIR := Lib.hid hirw
        have HCL := Lib.hid hcls
        have HON := Lib.hid hone
        clear hb hoa hirw hLa hcls hone c0 c1 c2 c3 c4 c5 c6 c7 c8 K
        obtain ⟨c0, c1, c2, c3, c4, c5, c6, c7, c8⟩ := K4.out.cfg.cells
        have KD := Lib.hid (K4.out.below (Below.refl _ _).drew)
        have hlenk : (La.length : Int) ≤ x.n1 := hlen
        rw [HNL.out] at hlenk
        rcases hE with rfl | ⟨rfl, p, kk, rfl, hkk⟩
        · rw [show Cs.enc [] = .nilIface from rfl]
          have dl : decide (x.n1 < (n : Int)) = false := by simp; omega
          go_wp2_with fail
          refine (top_none _ (HE.out.below K4.out.be)).mono ?_
          rintro e w5 ⟨rfl, hb⟩
          have K5 := Lib.hid (K4.out.below hb)
          have HIR5 := Lib.hid (HIR.out.below hb)
          clear hb HIR K4 KD c0 c1 c2 c3 c4 c5 c6 c7 c8
          obtain ⟨c0, c1, c2, c3, c4, c5, c6, c7, c8⟩ := K5.out.cfg.cells
          have KW0 := Lib.hid (show OWH w x qc c N f (.slice Av n cap') La w5 from ⟨K5.out, HIR5.out⟩)
          clear K5 HIR5
          go_wp2_with fail
          clear c0 c1 c2 c3 c4 c5 c6 c7 c8
          go_loopw [11] (fun iv wq => ∃ i : Nat, i ≤ n ∧ iv = .int .i64 i ∧ Hid (OWH w x qc c N f (.slice Av n cap') La wq)) (fun iv _ => n - (intOf iv).toNat)
          case atStart => exact ⟨0, by omega, rfl, KW0⟩
          case round =>
            clear KW0
            obtain ⟨i, hi, rfl, KW⟩ := hrel
            by_cases hin : i < n
            · have hil : i < La.length := by have := HNL.out; omega
              have hci := HCL.out i hil
              have hoi := HON.out i hil
              obtain ⟨Ax, cx, ex, hcx⟩ := KW.out.row
              obtain ⟨b, o, hb1, hb2, hb3⟩ := hcx (by omega)
              have hz := hb3 i hil
              obtain ⟨z, HZ⟩ : ∃ z, Hid (La[i] = z) := ⟨_, Lib.hid rfl⟩
              rw [HZ.out] at hci hoi hz
              have e1 : Av = some ⟨b, o, none⟩ := by injection ex with e1 _ _; exact e1.trans hb1
              subst e1
              have g0 : (0 : Int) ≤ (i : Int) := by omega
              have g1 : (i : Int) < (n : Int) := by omega
              have g2 : (i : Int) ≤ (n : Int) := by omega
              have g3 : (i : Int) ≤ (cap' : Int) := by omega
              have KWD := Lib.hid (KW.out.below (Below.refl _ _).drew)
              have HCI := Lib.hid hci
              have HOI := Lib.hid hoi
              have HZB : Hid (∀ W, OWH w x qc c N f (.slice (some ⟨b, o, none⟩) n cap') La W → W.cell? ⟨b, o + i, none⟩ = some (.int .i64 z)) := Lib.hid fun W hW => by
                obtain ⟨Ay, cy, ey, hcy⟩ := hW.row
                obtain ⟨b', o', f1, f2, f3⟩ := hcy (by omega)
                have f4 := f3 i hil
                rw [HZ.out] at f4
                have e2 : some (⟨b, o, none⟩ : Addr) = some ⟨b', o', none⟩ := by injection ey with e2 _ _; exact e2.trans f1
                cases e2
                exact f4
              clear ex hcx hb1 hb2 hb3 hz hci hoi
              go_wp2_with fail
              go_region_held3 (fun w' => w'.cell? ⟨qc, 0, none⟩ = some (.int .i64 x.t) ∧ w'.cell? ⟨qc, 1, none⟩ = some (.int .i64 x.s) ∧ w'.cell? ⟨qc, 2, none⟩ = some (.int .i64 x.l) ∧ w'.cell? ⟨qc, 3, none⟩ = some (.int .i64 x.c) ∧ w'.cell? ⟨qc, 4, none⟩ = some (.int .i64 x.s0) ∧ w'.cell? ⟨qc, 5, none⟩ = some (.int .i64 x.n0) ∧ w'.cell? ⟨qc, 6, none⟩ = some (.int .i64 x.s1) ∧ w'.cell? ⟨qc, 7, none⟩ = some (.int .i64 x.n1) ∧ w'.cell? ⟨qc, 8, none⟩ = some (.int .i64 x.r) ∧ w'.cell? ⟨b, o + i, none⟩ = some (.int .i64 z) ∧ Hid (OWH w x qc c N f (.slice (some ⟨b, o, none⟩) n cap') La w'))
                (first | exact OWH.all HZB (by assumption))
                (first
                  | (go_at_call 34; (with_reducible refine (OWH.class_ HR.out HCI.out (by assumption)).mono ?_); rintro e w6 ⟨rfl, K2⟩)
                  | (go_at_call 35; (with_reducible refine (OWH.has_ hil (by have := HNL.out; omega) HNL.out HOI.out (by assumption)).mono ?_); rintro e w6 ⟨rfl, K2⟩))
              all_goals
                go_wp2
                go_roundw
                case rel => first | exact ⟨i + 1, by omega, by go_num, K2⟩ | ((repeat apply Exists.intro); exact ⟨⟨i + 1, by omega, by go_num, K2⟩, rfl⟩)
                case measure => simp [intOf]; omega
            · have g1 : ¬ (i : Int) < (n : Int) := by omega
              go_wp2
              go_roundw
              case rel => first | exact ⟨2, by omega, by go_num, Lib.hid KW.out.ah⟩ | ((repeat apply Exists.intro); exact ⟨⟨2, by omega, by go_num, Lib.hid KW.out.ah⟩, rfl⟩)
              case measure => simp [intOf]
        · have hn0' : n = 0 := by have := HNL.out; simpa using this.symm
          have dl : decide (x.n1 < (0 : Int)) = false := by simp; omega
          have hkk0 : ¬ kk = 0 := by omega
          have hkkd : (kk != 0) = true := by simpa using hkk0
          subst hn0'
          go_wp2_with fail
          refine (top_at p kk hkk0 _ (HE.out.below K4.out.be)).mono ?_
          rintro e w5 ⟨rfl, hb⟩
          have K5 := Lib.hid (K4.out.below hb)
          have HIR5 := Lib.hid (HIR.out.below hb)
          clear hb HIR K4 KD c0 c1 c2 c3 c4 c5 c6 c7 c8
          obtain ⟨c0, c1, c2, c3, c4, c5, c6, c7, c8⟩ := K5.out.cfg.cells
          go_wp2_with fail
          go_loopw [11] (fun iv wq => iv = .int .i64 0 ∧ Hid (AH w x qc c 0 N f wq)) (fun iv _ => 0)
          case atStart => exact ⟨rfl, K5⟩
          case round =>
            obtain ⟨rfl, KW⟩ := hrel
            go_wp2
            go_roundw
            case rel => first | exact ⟨2, by omega, by go_num, KW⟩ | ((repeat apply Exists.intro); exact ⟨⟨2, by omega, by go_num, KW⟩, rfl⟩)
            case measure => simp [intOf]
    · have dk : decide ((k : Int) < 2) = false := by simp; omega
      have dk' : ¬ (k : Int) < 2 := by omega
      go_wp2
      go_ret
      exact ⟨rfl, K.out.be⟩

end Go.Proofs.YtkhbhkllnigbgaaDoor
