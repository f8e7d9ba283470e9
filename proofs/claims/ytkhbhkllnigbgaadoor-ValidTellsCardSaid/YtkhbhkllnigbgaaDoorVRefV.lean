/- The document's own visits. -/
import Derived.Test.YtkhbhkllnigbgaaDoorVRef
namespace Go.Proofs.YtkhbhkllnigbgaaDoor
open Go.ChangeShapes Go.WideShapes Go.ChangeAt Go.RowKit
/-- What is the same all along. -/
structure VD where
  w : World
  q : Nat
  s : Sch
  A : Option Addr
  cs : Nat
  Aw : Option Addr
  N : Nat
  cw : Nat
  f : Nat → Nat
  hN : 1 ≤ N ∧ N ≤ 200
  hcw : N ≤ cw
  row : WRow w Aw N f
  sat : SAt w A s
noncomputable def VD.st (v : VD) (r : Nat) : Nat → Nat → Nat → Nat → Nat → VR := strV v.s v.f v.N r
def VD.F (v : VD) (W0 : World) (r : VR) (W : World) : Prop := RF W0 v.w v.q r W
def VisD (v : VD) (r : Nat) : Prop := ∀ (c t at_ : Nat) (W : World), Hid (RK v.w v.q (none, c) W) → c ≤ v.N - 1 → t < v.s.n → at_ + v.s.len t ≤ v.N →
  Calls Tryd.prog 80 #[.pointer (some ⟨v.q, 0, none⟩), .slice v.A v.s.n v.cs, .slice v.Aw v.N v.cw, .int .i64 (t : Int), .int .i64 (at_ : Int), .int .i64 (5 - (r : Int))] W fun e W' => e = .returned (.tuple #[]) ∧ v.F W (visV v.s v.f v.N (v.st r) t at_ c) W'
theorem rcount_nat' (n : Nat) (h1 : n ≤ 9223372036854775807) (w : World) : Calls Tryd.prog 115 #[.int .i64 n] w fun e w' => e = .returned (.int .i64 (cnt n : Nat)) ∧ w = w' := Bt.rcount_nat n h1 w
theorem r8claim_z {w : World} {q : Nat} {W : World} (c : Nat) (hc : c ≤ 1000) (A : Option Addr) (N cw : Nat) (hN : 1 ≤ N ∧ N ≤ 200) (p zt k : Nat) (hto : zt ≤ 100000000000) (hk : k ≤ 1000) {z : Int} (hz : z = (k : Int)) (H : Hid (RK w q (none, c) W)) : Calls Tryd.prog 79 #[.pointer (some ⟨q, 0, none⟩), .slice A N cw, .int .i64 (zt : Int), .int .i64 z, .int .i64 (p : Int)] W fun e W' => e = .returned (.tuple #[]) ∧ RF W w q (claimV N p zt k c) W' := by
  subst hz
  exact r8claim_any c hc A N cw hN p zt k hto hk H
theorem thenV_itV_succ (r : VR) (f : Nat → Nat → VR) (j : Nat) : thenV r (itV f (j + 1)) = thenV (thenV r (itV f j)) (f j) := by
  rw [thenV_assoc]; rfl
theorem thenV_itV_stop {r : VR} {f : Nat → Nat → VR} {j n c : Nat} {e : Nat × Nat} (h : thenV r (itV f j) = (some e, c)) (hj : j ≤ n) : thenV r (itV f n) = (some e, c) := by
  induction n with
  | zero => obtain rfl : j = 0 := by omega
            exact h
  | succ n ih =>
    by_cases g : j = n + 1
    · subst g; exact h
    · rw [thenV_itV_succ, thenV_some (ih (by omega))]
theorem visd_at {P : Program} {F : FuncId} {x0 x1 x2 x3 : Value} {za zb ya yb : Int} {W : World} {R : Ending → World → Prop} (h : Hid (Calls P F #[x0, x1, x2, x3, .int .i64 zb, .int .i64 yb] W R)) (hz : za = zb) (hy : ya = yb) : Calls P F #[x0, x1, x2, x3, .int .i64 za, .int .i64 ya] W R := by
  subst hz hy
  exact h.out
theorem lo_half (X : Nat) (hX : X < 18446744073709551616) : bits .and .u64 (X : Int) 4294967295 = ((X % 4294967296 : Nat) : Int) := by
  have h := u64_and_nat X 4294967295 hX (by omega)
  have e : X &&& 4294967295 = X % 4294967296 := Nat.and_two_pow_sub_one_eq_mod X 32
  rw [e] at h
  exact h
theorem RF.below {W0 w W W' : World} {q : Nat} {r : VR} (h : Hid (RF W0 w q r W)) (hb : Below W.heap.size W W') : Hid (RF W0 w q r W') := Lib.hid ⟨h.out.1.below hb, ButP.trans h.out.2 (ButP.of_below hb)⟩
theorem RF.trans {W0 w W W' : World} {q : Nat} {r r' : VR} (h : Hid (RF W0 w q r W)) (h' : RF W w q r' W') : Hid (RF W0 w q r' W') := Lib.hid ⟨h'.1, ButP.trans h.out.2 h'.2⟩
theorem fldV_eq {W : Nat → Nat} {N : Nat} {st : Nat → Nat → Nat → Nat → Nat → VR} {k : Int} {τ p c : Nat} (h1 : ¬ k = 1) (h0 : ¬ W p = 0) :
    ((W p % 4294967296 = 0 ∨ W p / 4294967296 = 0 ∨ mostV k < W p / 4294967296) → fldV W N st k τ p c = (some (10, p), c)) ∧
    (¬ (W p % 4294967296 = 0 ∨ W p / 4294967296 = 0 ∨ mostV k < W p / 4294967296) → fldV W N st k τ p c =
      if k = 2 then thenV (claimV N p (p + W p % 4294967296) (cnt (W p / 4294967296)) c) fun c => if Bt.okB (fun j => W (p + W p % 4294967296 + j)) (cnt (W p / 4294967296)) ((W p / 4294967296 : Nat) : Int) then (none, c) else (some (10, p), c)
      else if k = 3 then claimV N p (p + W p % 4294967296) (W p / 4294967296) c
      else st τ p (p + W p % 4294967296) (W p / 4294967296) c) := by
  have hn : ¬ (k = 1 ∨ W p = 0) := by rintro (g | g); exact h1 g; exact h0 g
  refine ⟨fun h => ?_, fun h => ?_⟩
  · unfold fldV; rw [if_neg hn, if_pos h]
  · unfold fldV; rw [if_neg hn, if_neg h]
set_option maxRecDepth 100000 in
set_option maxHeartbeats 4000000 in
theorem visd_of (v : VD) (hR : RightS v.s) (r : Nat) (hr : r ≤ 4) (HI : Hid (∀ m, r = m + 1 → VisD v m)) : VisD v r := by
  intro c t at_ W H hc ht hat
  have hN := v.hN
  have hcw := v.hcw
  obtain ⟨n, HNN⟩ : ∃ n, Hid (v.s.len t = n) := ⟨_, Lib.hid rfl⟩
  have HT := Lib.hid ht
  have HRR := Lib.hid hR
  rw [HNN.out] at hat
  obtain ⟨D, HD⟩ : ∃ D : Int, Hid (5 - (r : Int) = D) := ⟨_, Lib.hid rfl⟩
  rw [HD.out]
  have hD : 1 ≤ D ∧ D ≤ 5 := by have := HD.out; omega
  have HIN : Hid (∀ i c, i < n → c ≤ v.N - 1 → InB v.N 72 (fldV v.f v.N (v.st r) (v.s.k t i) (v.s.t t i).toNat (at_ + i) c)) := Lib.hid fun i c hi hc => fldV_in (by omega) _ _ _ (fun p z0 n c => strV_in hR v.f v.N r _ p z0 n c (hR.tlt ht (by rw [HNN.out]; exact hi))) hc
  obtain ⟨G, HG⟩ : ∃ G : Nat → Nat → VR, Hid (G = fun i c => fldV v.f v.N (v.st r) (v.s.k t i) (v.s.t t i).toNat (at_ + i) c) := ⟨_, Lib.hid rfl⟩
  have HV : Hid (visV v.s v.f v.N (v.st r) t at_ c = itV G n c) := Lib.hid (by rw [visV, HNN.out, HG.out])
  rw [HV.out]
  clear HV
  have hsz := H.out.be.size
  obtain ⟨bs, os, hA, hbs, hcs⟩ := v.sat.some_ (by omega)
  obtain ⟨Ai, ci, hct, hfr⟩ := hcs t ht
  obtain ⟨bw, ow, hAw, hbw, hcw2⟩ := v.row.some_ (by omega)
  rw [hA, hAw]
  rw [HNN.out] at hct
  have HFR := Lib.hid hfr
  have HCW := Lib.hid hcw2
  have HCT := Lib.hid hct
  have HCS := Lib.hid hcs
  have HI0 := HI
  clear hR ht hcs hfr hcw2 hct HI
  go_enter Tryd.func80, Tryd.ntmps80
  go_wp2_with fail
  -- THE LOOP
  have hn6 : n ≤ 200 := by omega
  go_loopw [12] (fun iv wr => ∃ i : Nat, i ≤ n ∧ iv = .int .i64 i ∧ Hid (∃ ri, itV G i c = ri ∧ ((ri.1 = none → ri.2 ≤ v.N - 1) ∧ ∀ e p, ri.1 = some (e, p) → e = 10 ∨ e = 16 ∨ e = 23) ∧ v.F W ri wr)) (fun iv _ => n - (intOf iv).toNat)
  case atStart => exact ⟨0, by omega, rfl, Lib.hid ⟨(none, c), rfl, ⟨fun _ => hc, fun _ _ e => by cases e⟩, H.out, ButP.refl _ _⟩⟩
  case round =>
    obtain ⟨i, hi, rfl, HI⟩ := hrel
    obtain ⟨ri, hri, ⟨hrn, hrc⟩, hF⟩ := HI.out
    have hst : wr.cell? ⟨bs, os + t, none⟩ = some (.slice Ai n ci) := (hF.1.be.cell (p := ⟨bs, os + t, none⟩) hbs).trans HCT.out
    obtain ⟨c0, c1, c2, c3, cf, hq⟩ := RK.all hF.1
    by_cases hi1 : i < n
    · rcases vr_cases ri with ⟨ci', hE⟩ | ⟨k', p', ci', hE⟩
      · subst hE
        have c0 : wr.cell? ⟨v.q, 0, none⟩ = some (.int .i64 0) := c0
        have hcn : ci' ≤ v.N - 1 := hrn rfl
        have hf := HRR.out.field HT.out (show i < v.s.len t by rw [HNN.out]; exact hi1)
        have htl := HRR.out.tlt HT.out (show i < v.s.len t by rw [HNN.out]; exact hi1)
        have hin := HIN.out i ci' hi1 hcn
        obtain ⟨bf, of, hAi, hbf, hcf⟩ := (HFR.out.below hF.1.be).some_ (by rw [HNN.out]; omega)
        obtain ⟨hk0, hk1⟩ := hcf i (by rw [HNN.out]; exact hi1)
        rw [hAi] at hst
        have hX := ((v.row.below hF.1.be).some_ (by omega))
        have hw0 : wr.cell? ⟨bw, ow + (at_ + i), none⟩ = some (.int .u64 ((v.f (at_ + i) : Nat) : Int)) := (hF.1.be.cell (p := ⟨bw, ow + (at_ + i), none⟩) hbw).trans (HCW.out (at_ + i) (by omega))
        have hX64 : v.f (at_ + i) < 18446744073709551616 := v.row.lt _ (by omega)
        clear hcf hX
        obtain ⟨kk, HKK⟩ : ∃ kk, Hid (v.s.k t i = kk) := ⟨_, Lib.hid rfl⟩
        obtain ⟨tt, HTT⟩ : ∃ tt, Hid ((v.s.t t i).toNat = tt) := ⟨_, Lib.hid rfl⟩
        have hti : v.s.t t i = (tt : Int) := by have := HTT.out; omega
        rw [HKK.out] at hk0 hf hin
        rw [HTT.out] at hin htl
        rw [hti] at hk1
        obtain ⟨p, HP⟩ : ∃ p, Hid (at_ + i = p) := ⟨_, Lib.hid rfl⟩
        have hpp : (at_ : Int) + (i : Int) = (p : Int) := by have := HP.out; omega
        have HGI : Hid (∀ R, fldV v.f v.N (v.st r) kk tt p ci' = R → itV G (i + 1) c = R ∧ ((R.1 = none → R.2 ≤ v.N - 1) ∧ ∀ e p, R.1 = some (e, p) → e = 10 ∨ e = 16 ∨ e = 23)) := Lib.hid (by
          rintro R rfl
          have e : G i ci' = fldV v.f v.N (v.st r) kk tt p ci' := by rw [HG.out, ← HKK.out, ← HTT.out, ← HP.out]
          rw [itV_succ_none hri, e]
          rw [HP.out] at hin
          exact ⟨rfl, hin.ok, hin.code⟩)
        have HGS : Hid (∀ e c9, fldV v.f v.N (v.st r) kk tt p ci' = (some e, c9) → itV G n c = (some e, c9)) := Lib.hid fun e c9 h9 => itV_err (i := i + 1) (HGI.out _ h9).1 hi1
        rw [HP.out] at hw0 hX64
        have HF0 : Hid (v.F W (none, ci') wr) := Lib.hid hF
        have hpN : p < v.N := by have := HP.out; omega
        obtain ⟨X, HX⟩ : ∃ X, Hid (v.f p = X) := ⟨_, Lib.hid rfl⟩
        rw [HX.out] at hw0 hX64
        have hbw2 : bw < wr.heap.size := Nat.lt_of_lt_of_le hbw hF.1.be.size
        clear hF HI hri hrn hrc hin hti hAi c1 c2 c3 cf
        by_cases hX0 : X = 0
        · as_aux_lemma =>
          have HNX := Lib.hid (HGI.out (none, ci') (by unfold fldV; rw [if_pos (.inr (by rw [HX.out]; exact hX0))]))
          subst hX0
          by_cases k1 : kk = 1
          · subst k1
            go_wp2
            go_roundw
            case rel => exact ⟨i + 1, by omega, by go_num, Lib.hid ⟨_, HNX.out.1, HNX.out.2, (RF.below HF0 ((Below.refl _ _).alloc (Nat.le_refl _) _)).out⟩⟩
            case measure => simp [intOf]; omega
          · have dk : (kk == 1) = false := by simpa using k1
            go_wp2
            go_roundw
            case rel => exact ⟨i + 1, by omega, by go_num, Lib.hid ⟨_, HNX.out.1, HNX.out.2, (RF.below HF0 ((Below.refl _ _).alloc (Nat.le_refl _) _)).out⟩⟩
            case measure => simp [intOf]; omega
          --A>
        · have dX : ((X : Int) == 0) = false := by simp; omega
          by_cases k1 : kk = 1
          · as_aux_lemma =>
            have HNX := Lib.hid (HGI.out (none, ci') (by unfold fldV; rw [if_pos (.inl k1)]))
            subst k1
            go_wp2
            go_roundw
            case rel => exact ⟨i + 1, by omega, by go_num, Lib.hid ⟨_, HNX.out.1, HNX.out.2, (RF.below HF0 ((Below.refl _ _).alloc (Nat.le_refl _) _)).out⟩⟩
            case measure => simp [intOf]; omega
            --A>
          · have hlo := lo_half X hX64
            have hhi : (X : Int) / 4294967296 = ((X / 4294967296 : Nat) : Int) := by omega
            have hO : X % 4294967296 < 4294967296 := Nat.mod_lt _ (by decide)
            have hfl := fun a b => fldV_eq (W := v.f) (N := v.N) (st := v.st r) (k := kk) (τ := tt) (p := p) (c := ci') a b
            rw [HX.out] at hfl
            obtain ⟨O, hOe⟩ : ∃ O, X % 4294967296 = O := ⟨_, rfl⟩
            obtain ⟨Y, hYe⟩ : ∃ Y, X / 4294967296 = Y := ⟨_, rfl⟩
            rw [hOe] at hlo hO hfl
            rw [hYe] at hhi hfl
            have HFL := Lib.hid (hfl k1 hX0)
            clear hfl hOe hYe
            have hm2 : mostV 2 = 40 := rfl
            have hm3 : mostV 3 = 12 := rfl
            have hm4 : mostV 4 = 1 := rfl
            have hm5 : mostV 5 = 12 := rfl
            have HNFB : Hid (v.F W (none, ci') (wr.alloc (.cells #[.int .i64 kk, .int .i64 (tt : Int)] 95))) := RF.below HF0 ((Below.refl _ _).alloc (Nat.le_refl _) _)
            by_cases hb : O = 0 ∨ Y = 0 ∨ mostV kk < Y
            · as_aux_lemma =>
              have HGE := Lib.hid (HGS.out _ _ (HFL.out.1 hb))
              have hcases : O = 0 ∨ (¬ O = 0 ∧ Y = 0) ∨ (¬ O = 0 ∧ ¬ Y = 0 ∧ mostV kk < Y) := by omega
              have hk5 : kk = 2 ∨ kk = 3 ∨ kk = 4 ∨ kk = 5 := by omega
              clear hb HFL HGS HGI
              rcases hcases with e | ⟨e1, e⟩ | ⟨e1, e2, e⟩
              · subst e
                rcases hk5 with rfl | rfl | rfl | rfl
                all_goals
                  go_wp2_with fail
                  refine (r8wrong_any ci' 10 p (Lib.hid HNFB.out.1)).mono ?_
                  rintro e w4 ⟨rfl, h4⟩
                  have KF := RF.trans HNFB h4
                  go_wp2
                  refine bodyPost_ret (v := .tuple #[]) (by simp [results, Tryd.results80, go_sem]) rfl ⟨rfl, ?_⟩
                  rw [HGE.out]
                  exact KF.out
              · subst e
                have t1 : ((O : Int) == 0) = false := by simp; omega
                rcases hk5 with rfl | rfl | rfl | rfl
                all_goals
                  go_wp2_with fail
                  refine (r8wrong_any ci' 10 p (Lib.hid HNFB.out.1)).mono ?_
                  rintro e w4 ⟨rfl, h4⟩
                  have KF := RF.trans HNFB h4
                  go_wp2
                  refine bodyPost_ret (v := .tuple #[]) (by simp [results, Tryd.results80, go_sem]) rfl ⟨rfl, ?_⟩
                  rw [HGE.out]
                  exact KF.out
              · have t1 : ((O : Int) == 0) = false := by simp; omega
                have t2 : ((Y : Int) == 0) = false := by simp; omega
                rcases hk5 with rfl | rfl | rfl | rfl
                · rw [hm2] at e
                  have t3 : decide ((40 : Int) < (Y : Int)) = true := by simp; omega
                  go_wp2_with fail
                  refine (r8wrong_any ci' 10 p (Lib.hid HNFB.out.1)).mono ?_
                  rintro e w4 ⟨rfl, h4⟩
                  have KF := RF.trans HNFB h4
                  go_wp2
                  refine bodyPost_ret (v := .tuple #[]) (by simp [results, Tryd.results80, go_sem]) rfl ⟨rfl, ?_⟩
                  rw [HGE.out]
                  exact KF.out
                · rw [hm3] at e
                  have t3 : decide ((12 : Int) < (Y : Int)) = true := by simp; omega
                  go_wp2_with fail
                  refine (r8wrong_any ci' 10 p (Lib.hid HNFB.out.1)).mono ?_
                  rintro e w4 ⟨rfl, h4⟩
                  have KF := RF.trans HNFB h4
                  go_wp2
                  refine bodyPost_ret (v := .tuple #[]) (by simp [results, Tryd.results80, go_sem]) rfl ⟨rfl, ?_⟩
                  rw [HGE.out]
                  exact KF.out
                · rw [hm4] at e
                  have t3 : decide ((1 : Int) < (Y : Int)) = true := by simp; omega
                  go_wp2_with fail
                  refine (r8wrong_any ci' 10 p (Lib.hid HNFB.out.1)).mono ?_
                  rintro e w4 ⟨rfl, h4⟩
                  have KF := RF.trans HNFB h4
                  go_wp2
                  refine bodyPost_ret (v := .tuple #[]) (by simp [results, Tryd.results80, go_sem]) rfl ⟨rfl, ?_⟩
                  rw [HGE.out]
                  exact KF.out
                · rw [hm5] at e
                  have t3 : decide ((12 : Int) < (Y : Int)) = true := by simp; omega
                  go_wp2_with fail
                  refine (r8wrong_any ci' 10 p (Lib.hid HNFB.out.1)).mono ?_
                  rintro e w4 ⟨rfl, h4⟩
                  have KF := RF.trans HNFB h4
                  go_wp2
                  refine bodyPost_ret (v := .tuple #[]) (by simp [results, Tryd.results80, go_sem]) rfl ⟨rfl, ?_⟩
                  rw [HGE.out]
                  exact KF.out
              --A>
            · have HGF := Lib.hid (HFL.out.2 hb)
              have hY12 : Y ≤ 40 ∧ 1 ≤ Y := by have := mostV_le kk; omega
              have hO1 : ((O : Int) == 0) = false := by simp; omega
              have hY1 : ((Y : Int) == 0) = false := by simp; omega
              obtain ⟨z0, hz0⟩ : ∃ z0, p + O = z0 := ⟨_, rfl⟩
              have hz : (p : Int) + (O : Int) = (z0 : Int) := by omega
              rw [hz0] at HGF
              have hz9 : z0 ≤ 10000000000 := by omega
              have HKW : Hid (WRow wr (some ⟨bw, ow, none⟩) v.N v.f) := Lib.hid (by rw [← hAw]; exact v.row.below HF0.out.1.be)
              have hk5 : kk = 2 ∨ kk = 3 ∨ kk = 4 ∨ kk = 5 := by omega
              clear HFL hz0
              rcases hk5 with rfl | rfl | rfl | rfl
              · as_aux_lemma =>
                rw [hm2] at hb
                have t3 : decide ((40 : Int) < (Y : Int)) = false := by simp; omega
                rw [if_pos rfl] at HGF
                obtain ⟨cn, HCN⟩ : ∃ cn, Hid (cnt Y = cn) := ⟨_, Lib.hid rfl⟩
                rw [HCN.out] at HGF
                have hcn5 : cn ≤ 5 ∧ 1 ≤ cn := by rw [← HCN.out]; unfold cnt; omega
                rcases vr_cases (claimV v.N p z0 cn ci') with ⟨c1, hE⟩ | ⟨k', p', c1, hE⟩
                · rw [thenV_none hE] at HGF
                  have hin2 : z0 + cn ≤ v.N := by
                    unfold claimV at hE
                    by_cases g : v.N < z0 + cn
                    · rw [if_pos g] at hE; cases hE
                    · omega
                  obtain ⟨g, HGB⟩ : ∃ g, Hid (Bt.okB (fun j => v.f (z0 + j)) cn ((Y : Nat) : Int) = g) := ⟨_, Lib.hid rfl⟩
                  rw [HGB.out] at HGF
                  have HE := Lib.hid hE
                  clear hE
                  cases g with
                  | true =>
                    rw [if_pos rfl] at HGF
                    have HNX := Lib.hid (HGI.out _ HGF.out)
                    clear HGF HGS HGI
                    go_wp2_with fail
                    refine (rcount_nat' Y (by omega) _).mono ?_
                    rintro e w' ⟨rfl, rfl⟩
                    rw [HCN.out]
                    go_wp2_with fail
                    refine (r8claim_any ci' (by omega) _ v.N v.cw hN p z0 cn (by omega) (by omega) (Lib.hid HNFB.out.1)).mono ?_
                    rintro e w4 ⟨rfl, h4⟩
                    rw [HE.out] at h4
                    have KF := RF.trans HNFB h4
                    have c0' : w4.cell? ⟨v.q, 0, none⟩ = some (.int .i64 0) := (RK.all KF.out.1).1
                    have hrw4 := ((v.row.below KF.out.1.be).part hAw hin2)
                    have HRW4 := Lib.hid hrw4
                    clear hrw4
                    go_wp2_with fail
                    refine (Bt.rtext_any _ _ cn _ _ (Y : Int) (by omega) (by omega) HRW4.out).mono ?_
                    rintro e w5 ⟨rfl, h5⟩
                    rw [HGB.out]
                    have KF2 := RF.below KF h5
                    have hq5 : v.q < w5.heap.size := KF2.out.1.box.lt
                    go_wp2
                    go_roundw
                    case rel => exact ⟨i + 1, by omega, by go_num, Lib.hid ⟨_, HNX.out.1, (by first | exact HNX.out.2 | exact ⟨fun _ => HNX.out.2.1 trivial, fun _ _ e => by cases e⟩ | simpa using HNX.out.2), KF2.out⟩⟩
                    case measure => simp [intOf]; omega
                  | false =>
                    rw [if_neg (by decide)] at HGF
                    have HNX := Lib.hid (HGI.out _ HGF.out)
                    clear HGF HGS HGI
                    go_wp2_with fail
                    refine (rcount_nat' Y (by omega) _).mono ?_
                    rintro e w' ⟨rfl, rfl⟩
                    rw [HCN.out]
                    go_wp2_with fail
                    refine (r8claim_any ci' (by omega) _ v.N v.cw hN p z0 cn (by omega) (by omega) (Lib.hid HNFB.out.1)).mono ?_
                    rintro e w4 ⟨rfl, h4⟩
                    rw [HE.out] at h4
                    have KF := RF.trans HNFB h4
                    have c0' : w4.cell? ⟨v.q, 0, none⟩ = some (.int .i64 0) := (RK.all KF.out.1).1
                    have hrw4 := ((v.row.below KF.out.1.be).part hAw hin2)
                    have HRW4 := Lib.hid hrw4
                    clear hrw4
                    go_wp2_with fail
                    refine (Bt.rtext_any _ _ cn _ _ (Y : Int) (by omega) (by omega) HRW4.out).mono ?_
                    rintro e w5 ⟨rfl, h5⟩
                    rw [HGB.out]
                    have KF2 := RF.below KF h5
                    have hq5 : v.q < w5.heap.size := KF2.out.1.box.lt
                    go_wp2_with fail
                    refine (r8wrong_any c1 10 p (Lib.hid KF2.out.1)).mono ?_
                    rintro e w6 ⟨rfl, h6⟩
                    have KF3 := RF.trans KF2 h6
                    go_wp2
                    go_roundw
                    case rel => exact ⟨i + 1, by omega, by go_num, Lib.hid ⟨_, HNX.out.1, HNX.out.2, KF3.out⟩⟩
                    case measure => simp [intOf]; omega
                · rw [thenV_some hE] at HGF
                  have HNX := Lib.hid (HGI.out _ HGF.out)
                  have hk' : k' = 16 ∨ k' = 23 := by
                    unfold claimV at hE
                    by_cases g : v.N < z0 + cn
                    · rw [if_pos g] at hE; simp at hE; omega
                    · rw [if_neg g] at hE
                      by_cases g2 : v.N - 1 < ci' + cn
                      · rw [if_pos g2] at hE; simp at hE; omega
                      · rw [if_neg g2] at hE; cases hE
                  have dk' : ((k' : Int) == 0) = false := by simp; omega
                  have HE := Lib.hid hE
                  clear HGF HGS HGI hE
                  go_wp2_with fail
                  refine (rcount_nat' Y (by omega) _).mono ?_
                  rintro e w' ⟨rfl, rfl⟩
                  rw [HCN.out]
                  go_wp2_with fail
                  refine (r8claim_any ci' (by omega) _ v.N v.cw hN p z0 cn (by omega) (by omega) (Lib.hid HNFB.out.1)).mono ?_
                  rintro e w4 ⟨rfl, h4⟩
                  rw [HE.out] at h4
                  have KF := RF.trans HNFB h4
                  have c0' : w4.cell? ⟨v.q, 0, none⟩ = some (.int .i64 (k' : Nat)) := (RK.all KF.out.1).1
                  go_wp2
                  go_roundw
                  case rel => exact ⟨i + 1, by omega, by go_num, Lib.hid ⟨_, HNX.out.1, HNX.out.2, KF.out⟩⟩
                  case measure => simp [intOf]; omega
                --A>
              · as_aux_lemma =>
                rw [hm3] at hb
                have t3 : decide ((12 : Int) < (Y : Int)) = false := by simp; omega
                rw [if_neg (by decide), if_pos rfl] at HGF
                have HNX := Lib.hid (HGI.out _ HGF.out)
                clear HGF HGS HGI
                go_wp2_with fail
                refine (r8claim_any ci' (by omega) _ v.N v.cw hN p z0 Y (by omega) (by omega) (Lib.hid HNFB.out.1)).mono ?_
                rintro e w4 ⟨rfl, h4⟩
                have KF := RF.trans HNFB h4
                go_wp2
                go_roundw
                case rel => exact ⟨i + 1, by omega, by go_num, Lib.hid ⟨_, HNX.out.1, HNX.out.2, KF.out⟩⟩
                case measure => simp [intOf]; omega
                --A>
              · as_aux_lemma =>
                rw [hm4] at hb
                have t3 : decide ((1 : Int) < (Y : Int)) = false := by simp; omega
                have hYm : Y ≤ 12 := by omega
                rw [if_neg (by decide), if_neg (by decide)] at HGF
                by_cases hr0 : r = 0
                · have hD5 : D = 5 := by have := HD.out; omega
                  have HGE := Lib.hid (HGS.out (16, p) ci' (by rw [HGF.out, hr0]; rfl))
                  have d5 : (D == 5) = true := by rw [hD5]; rfl
                  clear HGF HGS HGI
                  go_wp2_with fail
                  refine (r8wrong_any ci' 16 p (Lib.hid HNFB.out.1)).mono ?_
                  rintro e w4 ⟨rfl, h4⟩
                  have KF := RF.trans HNFB h4
                  go_wp2
                  refine bodyPost_ret (v := .tuple #[]) (by simp [results, Tryd.results80, go_sem]) rfl ⟨rfl, ?_⟩
                  rw [HGE.out]
                  exact KF.out
                · obtain ⟨m, hm9⟩ : ∃ m, r = m + 1 := ⟨r - 1, by omega⟩
                  have HVM := Lib.hid (HI0.out m hm9)
                  have dD : (D == 5) = false := by have := HD.out; simp; omega
                  have HDM : Hid (D + 1 = 5 - (m : Int)) := Lib.hid (by have := HD.out; omega)
                  have hD4 : 1 ≤ D ∧ D ≤ 4 := by have := HD.out; omega
                  obtain ⟨At2, ct2, hct2, -⟩ := HCS.out tt htl
                  obtain ⟨L, HLL⟩ : ∃ L, Hid (v.s.len tt = L) := ⟨_, Lib.hid rfl⟩
                  have hl6 : L ≤ 6 := by rw [← HLL.out]; exact (HRR.out.2.2 tt htl).2.1
                  rw [HLL.out] at hct2
                  have hct3 : wr.cell? ⟨bs, os + tt, none⟩ = some (.slice At2 L ct2) := (HF0.out.1.be.cell (p := ⟨bs, os + tt, none⟩) hbs).trans hct2
                  have hbs2 : bs < wr.heap.size := Nat.lt_of_lt_of_le hbs HF0.out.1.be.size
                  obtain ⟨YL, hYL⟩ : ∃ YL, Y * L = YL := ⟨_, rfl⟩
                  have hYL7 : YL ≤ 72 := by rw [← hYL]; exact Nat.mul_le_mul hYm hl6
                  obtain ⟨cl, HCL⟩ : ∃ cl, Hid (claimV v.N p z0 YL ci' = cl) := ⟨_, Lib.hid rfl⟩
                  obtain ⟨G2, HG2⟩ : ∃ G2 : Nat → Nat → VR, Hid (G2 = fun j c => visV v.s v.f v.N (v.st m) tt (z0 + j * L) c) := ⟨_, Lib.hid rfl⟩
                  have HGR : Hid (fldV v.f v.N (v.st r) 4 tt p ci' = thenV cl (itV G2 Y)) := Lib.hid (by rw [HGF.out, hm9, ← HCL.out, HG2.out, ← hYL, ← HLL.out]; rfl)
                  have HNX := Lib.hid (HGI.out _ HGR.out)
                  have HIB : Hid (∀ j, InB v.N 72 (thenV cl (itV G2 j))) := Lib.hid fun j => by
                    rw [← HCL.out]
                    exact thenV_in (claimV_in hcn hYL7) fun c hc => itV_in (fun j _ c hc => by rw [HG2.out]; exact visV_in HRR.out (by omega) (strV_in HRR.out v.f v.N m) htl _ hc) hc
                  have HZN : Hid (cl.1 = none → z0 + YL ≤ v.N) := Lib.hid (by
                    intro h9
                    rw [← HCL.out] at h9
                    unfold claimV at h9
                    by_cases g : v.N < z0 + YL
                    · rw [if_pos g] at h9; cases h9
                    · omega)
                  have HMU : Hid (wrap64 ((Y : Int) * (L : Int)) = (YL : Int)) := Lib.hid (by
                    have e : (Y : Int) * (L : Int) = (YL : Int) := by rw [← hYL, Int.natCast_mul]
                    rw [e]
                    exact (IntWalk.i64_left _).symm.trans (by rw [IntKind.wrap_i64]; omega))
                  have hbx := World.rowIs_alloc wr #[.int .i64 4, .int .i64 (tt : Int)] 95 (fun j => if j = 0 then .int .i64 4 else .int .i64 (tt : Int)) (by intro j hj; match j, hj with | 0, _ => rfl | 1, _ => rfl)
                  have HBX := Lib.hid hbx
                  have HYL := Lib.hid hYL
                  have hfq : wr.heap.size ≠ v.q := by omega
                  clear HGF HGS HGI hbx hYL
                  go_wp2_with fail
                  refine (r8claim_z ci' (by omega) _ v.N v.cw hN p z0 YL (by omega) (by omega) HMU.out (Lib.hid HNFB.out.1)).mono ?_
                  rintro e w4 ⟨rfl, h4⟩
                  rw [HCL.out] at h4
                  have KF := RF.trans HNFB h4
                  have HBX4 := Lib.hid (HBX.out.of_block (h4.2.block _ HBX.out.lt hfq))
                  clear HBX h4 HMU
                  go_wp2_with fail
                  clear hct3 hbs2 hw0 hk0 hk1 c0 hst hbw2 hbf
                  generalize wr.heap.size = fq at HBX4 hfq ⊢
                  go_loopw [24] (fun jv w5 => ∃ j : Nat, j ≤ Y ∧ jv = .int .i64 j ∧ Hid (v.F W (thenV cl (itV G2 j)) w5 ∧ w5.rowIs fq 95 2 (fun j => if j = 0 then .int .i64 4 else .int .i64 (tt : Int)))) (fun jv _ => Y - (intOf jv).toNat)
                  case atStart => exact ⟨0, by omega, rfl, Lib.hid ⟨by rw [show thenV cl (itV G2 0) = cl from thenV_id cl]; exact KF.out, HBX4.out⟩⟩
                  case round =>
                    clear HBX4 KF
                    obtain ⟨j, hj, rfl, HJ⟩ := hrel
                    obtain ⟨c0, c1, c2, c3, cf, hq9⟩ := RK.all HJ.out.1.1
                    have x1 : wr.cell? ⟨fq, 1, none⟩ = some (.int .i64 (tt : Int)) := HJ.out.2.cell (i := 1) (by omega)
                    clear c1 c2 c3 cf
                    obtain ⟨rj, hrj⟩ : ∃ rj, thenV cl (itV G2 j) = rj := ⟨_, rfl⟩
                    rcases vr_cases rj with ⟨cj, hE⟩ | ⟨k', p', cj, hE⟩
                    · rw [hE] at hrj
                      rw [hrj] at c0
                      have c0 : wr.cell? ⟨v.q, 0, none⟩ = some (.int .i64 0) := c0
                      by_cases hj1 : j < Y
                      · have hcl1 : cl.1 = none := by
                          rcases vr_cases cl with ⟨c9, e9⟩ | ⟨k9, p9, c9, e9⟩
                          · rw [e9]
                          · rw [thenV_some e9] at hrj; cases hrj
                        have hzn := HZN.out hcl1
                        have hib := HIB.out j
                        rw [hrj] at hib
                        have hcj : cj ≤ v.N - 1 := hib.ok rfl
                        have hml : (j + 1) * L ≤ Y * L := Nat.mul_le_mul_right _ (by omega)
                        rw [Nat.succ_mul, HYL.out] at hml
                        obtain ⟨m2, hm2e⟩ : ∃ m2, j * L = m2 := ⟨_, rfl⟩
                        rw [hm2e] at hml
                        have hm72 : m2 ≤ 72 := by omega
                        have hvm := HVM.out cj tt (z0 + m2) wr (Lib.hid (by have h9 := HJ.out.1.1; rw [hrj] at h9; exact h9)) hcj htl (by rw [HLL.out]; omega)
                        rw [hA, hAw] at hvm
                        have hgj : G2 j cj = visV v.s v.f v.N (v.st m) tt (z0 + m2) cj := by rw [HG2.out, ← hm2e]
                        have hnx : thenV cl (itV G2 (j + 1)) = visV v.s v.f v.N (v.st m) tt (z0 + m2) cj := by rw [thenV_itV_succ, hrj, ← hgj]; rfl
                        have HVC := Lib.hid hvm
                        have HNY := Lib.hid hnx
                        have hmu : ∀ x : Int, x = (j : Int) * (L : Int) → wrap64 x = (m2 : Int) := by
                          rintro x rfl
                          have e : (j : Int) * (L : Int) = (m2 : Int) := by rw [← hm2e, Int.natCast_mul]
                          rw [e]
                          exact (IntWalk.i64_left _).symm.trans (by rw [IntKind.wrap_i64]; omega)
                        clear hvm hnx hgj hib hml hm2e hcl1 hrj
                        go_wp2_with fail
                        refine (visd_at HVC (by first | omega | (have := HDM.out; omega)) (by first | exact HDM.out | (have := HDM.out; omega))).mono ?_
                        rintro e w6 ⟨rfl, h6⟩
                        have KJ := RF.trans (Lib.hid HJ.out.1) h6
                        have HBX6 := Lib.hid (HJ.out.2.of_block (h6.2.block _ HJ.out.2.lt hfq))
                        go_wp2
                        go_roundw
                        case rel => exact ⟨j + 1, by omega, by go_num, Lib.hid ⟨by rw [HNY.out]; exact KJ.out, HBX6.out⟩⟩
                        case measure => simp [intOf]; omega
                      · have e : j = Y := by omega
                        subst e
                        go_wp2
                        go_roundw
                        case rel => exact ⟨i + 1, by omega, by go_num, Lib.hid ⟨_, HNX.out.1, HNX.out.2, HJ.out.1⟩⟩
                        case measure => simp [intOf]; omega
                    · rw [hE] at hrj
                      rw [hrj] at c0
                      have c0 : wr.cell? ⟨v.q, 0, none⟩ = some (.int .i64 (k' : Nat)) := c0
                      have hk' : k' = 10 ∨ k' = 16 ∨ k' = 23 := by
                        have hib := HIB.out j
                        rw [hrj] at hib
                        exact hib.code k' p' rfl
                      have HEY := Lib.hid (thenV_itV_stop hrj hj)
                      have HFJ : Hid (v.F W (some (k', p'), cj) wr) := Lib.hid (by have h9 := HJ.out.1; rw [hrj] at h9; exact h9)
                      clear hrj
                      rcases hk' with rfl | rfl | rfl
                      · have c0 : wr.cell? ⟨v.q, 0, none⟩ = some (.int .i64 10) := c0
                        by_cases hj1 : j < Y
                        · go_wp2
                          go_roundw
                          case rel => exact ⟨i + 1, by omega, by go_num, Lib.hid ⟨_, HNX.out.1, HNX.out.2, by rw [HEY.out]; exact HFJ.out⟩⟩
                          case measure => simp [intOf]; omega
                        · have e : j = Y := by omega
                          subst e
                          go_wp2
                          go_roundw
                          case rel => exact ⟨i + 1, by omega, by go_num, Lib.hid ⟨_, HNX.out.1, HNX.out.2, by rw [HEY.out]; exact HFJ.out⟩⟩
                          case measure => simp [intOf]; omega
                      · have c0 : wr.cell? ⟨v.q, 0, none⟩ = some (.int .i64 16) := c0
                        by_cases hj1 : j < Y
                        · go_wp2
                          go_roundw
                          case rel => exact ⟨i + 1, by omega, by go_num, Lib.hid ⟨_, HNX.out.1, HNX.out.2, by rw [HEY.out]; exact HFJ.out⟩⟩
                          case measure => simp [intOf]; omega
                        · have e : j = Y := by omega
                          subst e
                          go_wp2
                          go_roundw
                          case rel => exact ⟨i + 1, by omega, by go_num, Lib.hid ⟨_, HNX.out.1, HNX.out.2, by rw [HEY.out]; exact HFJ.out⟩⟩
                          case measure => simp [intOf]; omega
                      · have c0 : wr.cell? ⟨v.q, 0, none⟩ = some (.int .i64 23) := c0
                        by_cases hj1 : j < Y
                        · go_wp2
                          go_roundw
                          case rel => exact ⟨i + 1, by omega, by go_num, Lib.hid ⟨_, HNX.out.1, HNX.out.2, by rw [HEY.out]; exact HFJ.out⟩⟩
                          case measure => simp [intOf]; omega
                        · have e : j = Y := by omega
                          subst e
                          go_wp2
                          go_roundw
                          case rel => exact ⟨i + 1, by omega, by go_num, Lib.hid ⟨_, HNX.out.1, HNX.out.2, by rw [HEY.out]; exact HFJ.out⟩⟩
                          case measure => simp [intOf]; omega
                --A>
              · rw [hm5] at hb
                have t3 : decide ((12 : Int) < (Y : Int)) = false := by simp; omega
                have hYm : Y ≤ 12 := by omega
                rw [if_neg (by decide), if_neg (by decide)] at HGF
                by_cases hr0 : r = 0
                · have hD5 : D = 5 := by have := HD.out; omega
                  have HGE := Lib.hid (HGS.out (16, p) ci' (by rw [HGF.out, hr0]; rfl))
                  have d5 : (D == 5) = true := by rw [hD5]; rfl
                  clear HGF HGS HGI
                  go_wp2_with fail
                  refine (r8wrong_any ci' 16 p (Lib.hid HNFB.out.1)).mono ?_
                  rintro e w4 ⟨rfl, h4⟩
                  have KF := RF.trans HNFB h4
                  go_wp2
                  refine bodyPost_ret (v := .tuple #[]) (by simp [results, Tryd.results80, go_sem]) rfl ⟨rfl, ?_⟩
                  rw [HGE.out]
                  exact KF.out
                · obtain ⟨m, hm9⟩ : ∃ m, r = m + 1 := ⟨r - 1, by omega⟩
                  have HVM := Lib.hid (HI0.out m hm9)
                  have dD : (D == 5) = false := by have := HD.out; simp; omega
                  have HDM : Hid (D + 1 = 5 - (m : Int)) := Lib.hid (by have := HD.out; omega)
                  have hD4 : 1 ≤ D ∧ D ≤ 4 := by have := HD.out; omega
                  obtain ⟨At2, ct2, hct2, -⟩ := HCS.out tt htl
                  obtain ⟨L, HLL⟩ : ∃ L, Hid (v.s.len tt = L) := ⟨_, Lib.hid rfl⟩
                  have hl6 : L ≤ 6 := by rw [← HLL.out]; exact (HRR.out.2.2 tt htl).2.1
                  rw [HLL.out] at hct2
                  have hct3 : wr.cell? ⟨bs, os + tt, none⟩ = some (.slice At2 L ct2) := (HF0.out.1.be.cell (p := ⟨bs, os + tt, none⟩) hbs).trans hct2
                  have hbs2 : bs < wr.heap.size := Nat.lt_of_lt_of_le hbs HF0.out.1.be.size
                  obtain ⟨YL, hYL⟩ : ∃ YL, Y * L = YL := ⟨_, rfl⟩
                  have hYL7 : YL ≤ 72 := by rw [← hYL]; exact Nat.mul_le_mul hYm hl6
                  obtain ⟨cl, HCL⟩ : ∃ cl, Hid (claimV v.N p z0 YL ci' = cl) := ⟨_, Lib.hid rfl⟩
                  obtain ⟨G2, HG2⟩ : ∃ G2 : Nat → Nat → VR, Hid (G2 = fun j c => visV v.s v.f v.N (v.st m) tt (z0 + j * L) c) := ⟨_, Lib.hid rfl⟩
                  have HGR : Hid (fldV v.f v.N (v.st r) 5 tt p ci' = thenV cl (itV G2 Y)) := Lib.hid (by rw [HGF.out, hm9, ← HCL.out, HG2.out, ← hYL, ← HLL.out]; rfl)
                  have HNX := Lib.hid (HGI.out _ HGR.out)
                  have HIB : Hid (∀ j, InB v.N 72 (thenV cl (itV G2 j))) := Lib.hid fun j => by
                    rw [← HCL.out]
                    exact thenV_in (claimV_in hcn hYL7) fun c hc => itV_in (fun j _ c hc => by rw [HG2.out]; exact visV_in HRR.out (by omega) (strV_in HRR.out v.f v.N m) htl _ hc) hc
                  have HZN : Hid (cl.1 = none → z0 + YL ≤ v.N) := Lib.hid (by
                    intro h9
                    rw [← HCL.out] at h9
                    unfold claimV at h9
                    by_cases g : v.N < z0 + YL
                    · rw [if_pos g] at h9; cases h9
                    · omega)
                  have HMU : Hid (wrap64 ((Y : Int) * (L : Int)) = (YL : Int)) := Lib.hid (by
                    have e : (Y : Int) * (L : Int) = (YL : Int) := by rw [← hYL, Int.natCast_mul]
                    rw [e]
                    exact (IntWalk.i64_left _).symm.trans (by rw [IntKind.wrap_i64]; omega))
                  have hbx := World.rowIs_alloc wr #[.int .i64 5, .int .i64 (tt : Int)] 95 (fun j => if j = 0 then .int .i64 5 else .int .i64 (tt : Int)) (by intro j hj; match j, hj with | 0, _ => rfl | 1, _ => rfl)
                  have HBX := Lib.hid hbx
                  have HYL := Lib.hid hYL
                  have hfq : wr.heap.size ≠ v.q := by omega
                  clear HGF HGS HGI hbx hYL
                  go_wp2_with fail
                  refine (r8claim_z ci' (by omega) _ v.N v.cw hN p z0 YL (by omega) (by omega) HMU.out (Lib.hid HNFB.out.1)).mono ?_
                  rintro e w4 ⟨rfl, h4⟩
                  rw [HCL.out] at h4
                  have KF := RF.trans HNFB h4
                  have HBX4 := Lib.hid (HBX.out.of_block (h4.2.block _ HBX.out.lt hfq))
                  clear HBX h4 HMU
                  go_wp2_with fail
                  clear hct3 hbs2 hw0 hk0 hk1 c0 hst hbw2 hbf
                  generalize wr.heap.size = fq at HBX4 hfq ⊢
                  go_loopw [24] (fun jv w5 => ∃ j : Nat, j ≤ Y ∧ jv = .int .i64 j ∧ Hid (v.F W (thenV cl (itV G2 j)) w5 ∧ w5.rowIs fq 95 2 (fun j => if j = 0 then .int .i64 5 else .int .i64 (tt : Int)))) (fun jv _ => Y - (intOf jv).toNat)
                  case atStart => exact ⟨0, by omega, rfl, Lib.hid ⟨by rw [show thenV cl (itV G2 0) = cl from thenV_id cl]; exact KF.out, HBX4.out⟩⟩
                  case round =>
                    clear HBX4 KF
                    obtain ⟨j, hj, rfl, HJ⟩ := hrel
                    obtain ⟨c0, c1, c2, c3, cf, hq9⟩ := RK.all HJ.out.1.1
                    have x1 : wr.cell? ⟨fq, 1, none⟩ = some (.int .i64 (tt : Int)) := HJ.out.2.cell (i := 1) (by omega)
                    clear c1 c2 c3 cf
                    obtain ⟨rj, hrj⟩ : ∃ rj, thenV cl (itV G2 j) = rj := ⟨_, rfl⟩
                    rcases vr_cases rj with ⟨cj, hE⟩ | ⟨k', p', cj, hE⟩
                    · rw [hE] at hrj
                      rw [hrj] at c0
                      have c0 : wr.cell? ⟨v.q, 0, none⟩ = some (.int .i64 0) := c0
                      by_cases hj1 : j < Y
                      · have hcl1 : cl.1 = none := by
                          rcases vr_cases cl with ⟨c9, e9⟩ | ⟨k9, p9, c9, e9⟩
                          · rw [e9]
                          · rw [thenV_some e9] at hrj; cases hrj
                        have hzn := HZN.out hcl1
                        have hib := HIB.out j
                        rw [hrj] at hib
                        have hcj : cj ≤ v.N - 1 := hib.ok rfl
                        have hml : (j + 1) * L ≤ Y * L := Nat.mul_le_mul_right _ (by omega)
                        rw [Nat.succ_mul, HYL.out] at hml
                        obtain ⟨m2, hm2e⟩ : ∃ m2, j * L = m2 := ⟨_, rfl⟩
                        rw [hm2e] at hml
                        have hm72 : m2 ≤ 72 := by omega
                        have hvm := HVM.out cj tt (z0 + m2) wr (Lib.hid (by have h9 := HJ.out.1.1; rw [hrj] at h9; exact h9)) hcj htl (by rw [HLL.out]; omega)
                        rw [hA, hAw] at hvm
                        have hgj : G2 j cj = visV v.s v.f v.N (v.st m) tt (z0 + m2) cj := by rw [HG2.out, ← hm2e]
                        have hnx : thenV cl (itV G2 (j + 1)) = visV v.s v.f v.N (v.st m) tt (z0 + m2) cj := by rw [thenV_itV_succ, hrj, ← hgj]; rfl
                        have HVC := Lib.hid hvm
                        have HNY := Lib.hid hnx
                        have hmu : ∀ x : Int, x = (j : Int) * (L : Int) → wrap64 x = (m2 : Int) := by
                          rintro x rfl
                          have e : (j : Int) * (L : Int) = (m2 : Int) := by rw [← hm2e, Int.natCast_mul]
                          rw [e]
                          exact (IntWalk.i64_left _).symm.trans (by rw [IntKind.wrap_i64]; omega)
                        clear hvm hnx hgj hib hml hm2e hcl1 hrj
                        go_wp2_with fail
                        refine (visd_at HVC (by first | omega | (have := HDM.out; omega)) (by first | exact HDM.out | (have := HDM.out; omega))).mono ?_
                        rintro e w6 ⟨rfl, h6⟩
                        have KJ := RF.trans (Lib.hid HJ.out.1) h6
                        have HBX6 := Lib.hid (HJ.out.2.of_block (h6.2.block _ HJ.out.2.lt hfq))
                        go_wp2
                        go_roundw
                        case rel => exact ⟨j + 1, by omega, by go_num, Lib.hid ⟨by rw [HNY.out]; exact KJ.out, HBX6.out⟩⟩
                        case measure => simp [intOf]; omega
                      · have e : j = Y := by omega
                        subst e
                        go_wp2
                        go_roundw
                        case rel => exact ⟨i + 1, by omega, by go_num, Lib.hid ⟨_, HNX.out.1, HNX.out.2, HJ.out.1⟩⟩
                        case measure => simp [intOf]; omega
                    · rw [hE] at hrj
                      rw [hrj] at c0
                      have c0 : wr.cell? ⟨v.q, 0, none⟩ = some (.int .i64 (k' : Nat)) := c0
                      have hk' : k' = 10 ∨ k' = 16 ∨ k' = 23 := by
                        have hib := HIB.out j
                        rw [hrj] at hib
                        exact hib.code k' p' rfl
                      have HEY := Lib.hid (thenV_itV_stop hrj hj)
                      have HFJ : Hid (v.F W (some (k', p'), cj) wr) := Lib.hid (by have h9 := HJ.out.1; rw [hrj] at h9; exact h9)
                      clear hrj
                      rcases hk' with rfl | rfl | rfl
                      · have c0 : wr.cell? ⟨v.q, 0, none⟩ = some (.int .i64 10) := c0
                        by_cases hj1 : j < Y
                        · go_wp2
                          go_roundw
                          case rel => exact ⟨i + 1, by omega, by go_num, Lib.hid ⟨_, HNX.out.1, HNX.out.2, by rw [HEY.out]; exact HFJ.out⟩⟩
                          case measure => simp [intOf]; omega
                        · have e : j = Y := by omega
                          subst e
                          go_wp2
                          go_roundw
                          case rel => exact ⟨i + 1, by omega, by go_num, Lib.hid ⟨_, HNX.out.1, HNX.out.2, by rw [HEY.out]; exact HFJ.out⟩⟩
                          case measure => simp [intOf]; omega
                      · have c0 : wr.cell? ⟨v.q, 0, none⟩ = some (.int .i64 16) := c0
                        by_cases hj1 : j < Y
                        · go_wp2
                          go_roundw
                          case rel => exact ⟨i + 1, by omega, by go_num, Lib.hid ⟨_, HNX.out.1, HNX.out.2, by rw [HEY.out]; exact HFJ.out⟩⟩
                          case measure => simp [intOf]; omega
                        · have e : j = Y := by omega
                          subst e
                          go_wp2
                          go_roundw
                          case rel => exact ⟨i + 1, by omega, by go_num, Lib.hid ⟨_, HNX.out.1, HNX.out.2, by rw [HEY.out]; exact HFJ.out⟩⟩
                          case measure => simp [intOf]; omega
                      · have c0 : wr.cell? ⟨v.q, 0, none⟩ = some (.int .i64 23) := c0
                        by_cases hj1 : j < Y
                        · go_wp2
                          go_roundw
                          case rel => exact ⟨i + 1, by omega, by go_num, Lib.hid ⟨_, HNX.out.1, HNX.out.2, by rw [HEY.out]; exact HFJ.out⟩⟩
                          case measure => simp [intOf]; omega
                        · have e : j = Y := by omega
                          subst e
                          go_wp2
                          go_roundw
                          case rel => exact ⟨i + 1, by omega, by go_num, Lib.hid ⟨_, HNX.out.1, HNX.out.2, by rw [HEY.out]; exact HFJ.out⟩⟩
                          case measure => simp [intOf]; omega
      · subst hE
        have HEN : Hid (itV G n c = (some (k', p'), ci')) := Lib.hid (itV_err hri hi)
        have HF0 : Hid (v.F W (some (k', p'), ci') wr) := Lib.hid hF
        have hk' : k' = 10 ∨ k' = 16 ∨ k' = 23 := hrc k' p' rfl
        have c0 : wr.cell? ⟨v.q, 0, none⟩ = some (.int .i64 (k' : Nat)) := c0
        rcases hk' with rfl | rfl | rfl
        · have c0 : wr.cell? ⟨v.q, 0, none⟩ = some (.int .i64 10) := c0
          go_wp2
          rw [HEN.out]
          exact bodyPost_end (v := .tuple #[]) (by simp [results, Tryd.results80, go_sem]) rfl ⟨rfl, HF0.out⟩
        · have c0 : wr.cell? ⟨v.q, 0, none⟩ = some (.int .i64 16) := c0
          go_wp2
          rw [HEN.out]
          exact bodyPost_end (v := .tuple #[]) (by simp [results, Tryd.results80, go_sem]) rfl ⟨rfl, HF0.out⟩
        · have c0 : wr.cell? ⟨v.q, 0, none⟩ = some (.int .i64 23) := c0
          go_wp2
          rw [HEN.out]
          exact bodyPost_end (v := .tuple #[]) (by simp [results, Tryd.results80, go_sem]) rfl ⟨rfl, HF0.out⟩
    · have e : i = n := by omega
      subst e
      have HEN := Lib.hid hri
      have HF0 := Lib.hid hF
      clear hri hF
      go_wp2
      rw [HEN.out]
      exact bodyPost_end (v := .tuple #[]) (by simp [results, Tryd.results80, go_sem]) rfl ⟨rfl, HF0.out⟩

end Go.Proofs.YtkhbhkllnigbgaaDoor
