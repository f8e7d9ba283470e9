/- Conversions of a word's lower half. -/
import Derived.Test.YtkpffnihnhlghaaGreatDoorHHas
import Derived.Deep.DeepCutAuto
import Derived.Test.YtkpffnihnhlghaaGreatDoorPOnce
namespace Go.Proofs.YtkpffnihnhlghaaGreatDoor
open Go.RowKit Go.Shelf
theorem cv_any (B : Nat) (h : B < 4294967296) (W : World) : (convert 34 3 (Value.int .u64 (B : Int))).run Tryz.prog W = Result.ok (Value.int .i64 (B : Int)) W := by
  have hwr : IntKind.i64.wrap (B : Int) = (B : Int) := IntWalk.i64_in _ (by omega)
  go_simp

end Go.Proofs.YtkpffnihnhlghaaGreatDoor

namespace Go.Proofs.YtkpffnihnhlghaaGreatDoor
open Go.RowKit Go.Shelf
/-- An error, its word, whether it has one: as the document tells them. -/
def EC (E : List (Int × Int)) (k p : Int) (t : Bool) : Prop := (E = [] ∧ k = 0 ∧ p = 0 ∧ t = false) ∨ (¬ k = 0 ∧ t = true ∧ E = [(0, p), (k, 0)]) ∨ (¬ k = 0 ∧ p = 0 ∧ t = false ∧ E = [(k, 0)])
def toldZ : Nat → Value
  | 0 => .slice none 0 0
  | 1 => .int .i64 0
  | 2 => .int .i64 0
  | _ => .bool false
def RListP (x : Cfg) (f : Nat → Nat) (cls : Nat) (w : World) (e : Ending) (w' : World) : Prop := ∃ v L E k p t, e = .returned (.agg #[v, .int .i64 k, .int .i64 p, .bool t]) ∧ ListR x f cls L E ∧ EC E k p t ∧ w'.ownsRow w.heap.size 3 1 v L.length (L.map (Value.int .i64)) ∧ Below w.heap.size w w'
/-- The boxes of List; the words. -/
structure RL (w : World) (x : Cfg) (b o N : Nat) (f : Nat → Nat) (W : World) : Prop where
  cfg : CfgAt W w.heap.size x
  res : W.rowIs (w.heap.size + 1) 62 4 toldZ
  wh : WH W b o N f
  be : Below w.heap.size w W
section
variable {w : World} {x : Cfg} {b o N : Nat} {f : Nat → Nat} {W W' : World}
theorem RL.below (h : RL w x b o N f W) (hb : Below W.heap.size W W') : RL w x b o N f W' := ⟨h.cfg.below hb, h.res.of_block (hb.block _ h.res.lt), h.wh.below hb, Below.step h.be hb h.be.size⟩
theorem RL.start (x : Cfg) (hw : WH w b o N f) : RL w x b o N f ((w.alloc (.cells #[.int .i64 x.t, .int .i64 x.s, .int .i64 x.l, .int .i64 x.c, .int .i64 x.s0, .int .i64 x.n0, .int .i64 x.s1, .int .i64 x.n1, .int .i64 x.r] 30)).alloc (.cells #[.slice none 0 0, .int .i64 0, .int .i64 0, .bool false] 62)) := by
  have h := World.rowIs_alloc (w.alloc (.cells #[.int .i64 x.t, .int .i64 x.s, .int .i64 x.l, .int .i64 x.c, .int .i64 x.s0, .int .i64 x.n0, .int .i64 x.s1, .int .i64 x.n1, .int .i64 x.r] 30)) #[.slice none 0 0, .int .i64 0, .int .i64 0, .bool false] 62 toldZ (by intro j hj; match j, hj with | 0, _ => rfl | 1, _ => rfl | 2, _ => rfl | 3, _ => rfl)
  simp only [World.size_alloc] at h
  exact ⟨(cfgAt_box w x).below ((Below.refl _ _).alloc (Nat.le_refl _) _), h, (hw.below ((Below.refl _ _).alloc (Nat.le_refl _) _)).below ((Below.refl _ _).alloc (Nat.le_refl _) _), by (repeat (first | with_reducible exact Below.refl _ _ | with_reducible refine Below.drew ?_ | (with_reducible refine Below.setCell ?_ ?side _; case side => exact (by first | (simp; done) | (simp; omega) | omega)) | (with_reducible refine Below.alloc ?_ ?side _; case side => exact (by first | (simp; done) | (simp; omega) | omega))))⟩
theorem RL.all (h : RL w x b o N f W) : W.cell? ⟨w.heap.size, 0, none⟩ = some (.int .i64 x.t) ∧ W.cell? ⟨w.heap.size, 1, none⟩ = some (.int .i64 x.s) ∧ W.cell? ⟨w.heap.size, 2, none⟩ = some (.int .i64 x.l) ∧ W.cell? ⟨w.heap.size, 3, none⟩ = some (.int .i64 x.c) ∧ W.cell? ⟨w.heap.size, 4, none⟩ = some (.int .i64 x.s0) ∧ W.cell? ⟨w.heap.size, 5, none⟩ = some (.int .i64 x.n0) ∧ W.cell? ⟨w.heap.size, 6, none⟩ = some (.int .i64 x.s1) ∧ W.cell? ⟨w.heap.size, 7, none⟩ = some (.int .i64 x.n1) ∧ W.cell? ⟨w.heap.size, 8, none⟩ = some (.int .i64 x.r) ∧
    W.cell? ⟨w.heap.size + 1, 0, none⟩ = some (.slice none 0 0) ∧ W.cell? ⟨w.heap.size + 1, 1, none⟩ = some (.int .i64 0) ∧ W.cell? ⟨w.heap.size + 1, 2, none⟩ = some (.int .i64 0) ∧ W.cell? ⟨w.heap.size + 1, 3, none⟩ = some (.bool false) ∧ w.heap.size + 1 < W.heap.size := by
  obtain ⟨c0, c1, c2, c3, c4, c5, c6, c7, c8⟩ := h.cfg.cells
  exact ⟨c0, c1, c2, c3, c4, c5, c6, c7, c8, h.res.cell (i := 0) (by omega), h.res.cell (i := 1) (by omega), h.res.cell (i := 2) (by omega), h.res.cell (i := 3) (by omega), h.res.lt⟩
/-- The row of blocks is appended to. -/
theorem RL.grown {row : Option Nat} (h : RL w x b o N f W) (hbw : b < w.heap.size) (hg : W.grownBy W' row) (hr : ∀ r, row = some r → w.heap.size + 2 ≤ r) : RL w x b o N f W' := by
  have hn : ∀ k, k < w.heap.size + 2 → k < W.heap.size → W'.heap[k]? = W.heap[k]? := fun k h1 h2 => hg.block k h2 fun e => by have := hr k e.symm; omega
  have hq := h.res.lt
  refine ⟨h.cfg.of_block (hn _ (by omega) (by omega)), h.res.of_block (hn _ (by omega) (by omega)), ⟨Nat.lt_of_lt_of_le h.wh.lt hg.size, fun j hj => (World.cell?_of_block (w := W) (hn b (by omega) (by omega))).trans (h.wh.cell j hj)⟩, ?_⟩
  exact h.be.grown hg h.be.size fun k e => by have := hr k e; omega
end
theorem own_set {W : World} {B e s n q j : Nat} {v u : Value} {xs : List Value} (h : W.ownsRow B e s v n xs) (hq : q < B) : (W.setCell ⟨q, j, none⟩ u).ownsRow B e s v n xs := by
  rcases h with ⟨hl, (⟨hn, h0⟩ | ⟨g, cap, cur, e', b1, b2, b3⟩)⟩
  · exact ⟨hl, .inl ⟨hn, h0⟩⟩
  · exact ⟨hl, .inr ⟨_, _, cur, e', b1, (Below.heap_setCell W ⟨q, j, none⟩ u g (by show g ≠ q; omega)).trans b2, b3⟩⟩
theorem own_below {W W' : World} {B e s n : Nat} {v : Value} {xs : List Value} (h : W.ownsRow B e s v n xs) (hb : Below W.heap.size W W') : W'.ownsRow B e s v n xs :=
  own_turn h fun k _ hk _ => (hb.block k (Array.getElem?_eq_some_iff.1 hk).1).trans hk
/-- The result is written. -/
theorem RL.put {w : World} {x : Cfg} {b o N : Nat} {f : Nat → Nat} {W : World} (h : RL w x b o N f W) (v : Value) (k p : Int) (t : Bool) {u : Value} {n : Nat} {xs : List Value} (ho : W.ownsRow (w.heap.size + 2) 3 1 u n xs) :
    ((((W.setCell ⟨w.heap.size + 1, 0, none⟩ v).setCell ⟨w.heap.size + 1, 1, none⟩ (.int .i64 k)).setCell ⟨w.heap.size + 1, 2, none⟩ (.int .i64 p)).setCell ⟨w.heap.size + 1, 3, none⟩ (.bool t)).cell? ⟨w.heap.size + 1, 0, none⟩ = some v ∧
    ((((W.setCell ⟨w.heap.size + 1, 0, none⟩ v).setCell ⟨w.heap.size + 1, 1, none⟩ (.int .i64 k)).setCell ⟨w.heap.size + 1, 2, none⟩ (.int .i64 p)).setCell ⟨w.heap.size + 1, 3, none⟩ (.bool t)).cell? ⟨w.heap.size + 1, 1, none⟩ = some (.int .i64 k) ∧
    ((((W.setCell ⟨w.heap.size + 1, 0, none⟩ v).setCell ⟨w.heap.size + 1, 1, none⟩ (.int .i64 k)).setCell ⟨w.heap.size + 1, 2, none⟩ (.int .i64 p)).setCell ⟨w.heap.size + 1, 3, none⟩ (.bool t)).cell? ⟨w.heap.size + 1, 2, none⟩ = some (.int .i64 p) ∧
    ((((W.setCell ⟨w.heap.size + 1, 0, none⟩ v).setCell ⟨w.heap.size + 1, 1, none⟩ (.int .i64 k)).setCell ⟨w.heap.size + 1, 2, none⟩ (.int .i64 p)).setCell ⟨w.heap.size + 1, 3, none⟩ (.bool t)).cell? ⟨w.heap.size + 1, 3, none⟩ = some (.bool t) ∧
    ((((W.setCell ⟨w.heap.size + 1, 0, none⟩ v).setCell ⟨w.heap.size + 1, 1, none⟩ (.int .i64 k)).setCell ⟨w.heap.size + 1, 2, none⟩ (.int .i64 p)).setCell ⟨w.heap.size + 1, 3, none⟩ (.bool t)).ownsRow w.heap.size 3 1 u n xs ∧
    Below w.heap.size w ((((W.setCell ⟨w.heap.size + 1, 0, none⟩ v).setCell ⟨w.heap.size + 1, 1, none⟩ (.int .i64 k)).setCell ⟨w.heap.size + 1, 2, none⟩ (.int .i64 p)).setCell ⟨w.heap.size + 1, 3, none⟩ (.bool t)) := by
  have r := (((h.res.set 0 v).set 1 (.int .i64 k)).set 2 (.int .i64 p)).set 3 (.bool t)
  have hle : w.heap.size ≤ w.heap.size + 1 := by omega
  refine ⟨(r.cell (i := 0) (by omega)).trans (by simp), (r.cell (i := 1) (by omega)).trans (by simp), (r.cell (i := 2) (by omega)).trans (by simp), (r.cell (i := 3) (by omega)).trans (by simp), own_mono ?_ (by omega : w.heap.size ≤ w.heap.size + 2), (((h.be.setCell hle _).setCell hle _).setCell hle _).setCell hle _⟩
  exact own_set (own_set (own_set (own_set ho (by omega)) (by omega)) (by omega)) (by omega)
def lenOf : Value → Nat
  | .slice _ n _ => n
  | _ => 0
theorem lst_succ (g : Nat → Int) (k : Nat) : (List.range (k + 1)).map g = (List.range k).map g ++ [g k] := by simp [List.range_succ]
def nthL (x : Cfg) (f : Nat → Nat) (cls k : Nat) : List Int := (List.range k).map (fun i => ((blkH f (wdH x f cls i) : Nat) : Int))
def goodL (x : Cfg) (f : Nat → Nat) (cls k : Nat) : Prop := ∀ i, i < k → ¬ blkH f (wdH x f cls i) = 0 ∧ classC x (blkH f (wdH x f cls i) : Nat) = (cls : Int)
theorem nthL_len (x : Cfg) (f : Nat → Nat) (cls k : Nat) : (nthL x f cls k).length = k := by simp [nthL]
set_option maxRecDepth 100000 in
set_option maxHeartbeats 4000000 in
theorem rlist_good (x : Cfg) (hr : Right x) (cls : Nat) (hc : cls ≤ 1) (b o N cw : Nat) (hN : sizeC x = (N : Int)) (f : Nat → Nat) (w : World) (hw : WH w b o N f) (hf : ∀ j, j < N → f j < 18446744073709551616) : Calls Tryz.prog 20 #[(.agg #[.int .i64 x.t, .int .i64 x.s, .int .i64 x.l, .int .i64 x.c, .int .i64 x.s0, .int .i64 x.n0, .int .i64 x.s1, .int .i64 x.n1, .int .i64 x.r]), .slice (some ⟨b, o, none⟩) N cw, .int .i64 (cls : Int)] w (RListP x f cls w) := by
  have hbw := hw.lt
  have HW := Lib.hid hw
  have HF := Lib.hid hf
  have HR := Lib.hid hr
  have HNN := Lib.hid hN
  have HRB := Lib.hid (rightB_true hr)
  have hcn : 0 ≤ cntC x cls ∧ cntC x cls ≤ 12 := by have := hr.b; unfold cntC; split <;> omega
  obtain ⟨C, hC⟩ : ∃ C : Int, C = (cls : Int) := ⟨_, rfl⟩
  rw [← hC]
  have dn : decide (C < 0) = false := by simp; omega
  have dc : decide ((1 : Int) < C) = false := by simp; omega
  have hC2 : 0 ≤ C ∧ C ≤ 1 := by omega
  have HC := Lib.hid hC
  clear hC
  obtain ⟨i0, hi, hz0, hz1, hz2⟩ := info_parts infoI
  have hw3 : wrap64 (3 + C) = 3 + C := by unfold wrap64; omega
  clear hw hr hN hf
  go_enter Tryz.func20, Tryz.ntmps20
  go_wp2_with fail
  have K0 := Lib.hid (RL.start x HW.out)
  generalize ((w.alloc (.cells #[.int .i64 x.t, .int .i64 x.s, .int .i64 x.l, .int .i64 x.c, .int .i64 x.s0, .int .i64 x.n0, .int .i64 x.s1, .int .i64 x.n1, .int .i64 x.r] 30)).alloc (.cells #[.slice none 0 0, .int .i64 0, .int .i64 0, .bool false] 62)) = Wa at K0 ⊢
  refine (r4Right_any x _).mono ?_
  rintro e w1 ⟨rfl, hb⟩
  rw [HRB.out]
  have K1 := Lib.hid (K0.out.below hb)
  clear hb K0
  obtain ⟨c0, c1, c2, c3, c4, c5, c6, c7, c8, p0, p1, p2, p3, hq⟩ := RL.all K1.out
  go_wp2_with fail
  refine (r4Size_any x _ HR.out).mono ?_
  rintro e w2 ⟨rfl, hb⟩
  rw [HNN.out]
  have K2 := Lib.hid (K1.out.below hb)
  clear hb K1 c0 c1 c2 c3 c4 c5 c6 c7 c8 p0 p1 p2 p3 hq
  go_wp2_with fail
  go_loopw [8, 9, 10] (fun ov av bv wr => ∃ (k : Nat) (A : Option Addr) (cap : Nat), (k : Int) ≤ cntC x cls ∧ ov = .slice A k cap ∧ av = .int .i64 (wdH x f cls k) ∧ Hid (goodL x f cls k ∧ wr.ownsRow (w.heap.size + 2) 3 1 (.slice A k cap) k ((nthL x f cls k).map (Value.int .i64)) ∧ RL w x b o N f wr)) (fun ov _ _ _ => (cntC x cls).toNat + 1 - lenOf ov)
  case atStart => exact ⟨0, none, 0, by omega, rfl, by rw [HC.out]; rfl, Lib.hid ⟨fun i hi => absurd hi (Nat.not_lt_zero _), World.ownsRow_nil _ _ _ _, K2.out⟩⟩
  case round =>
    clear K2
    obtain ⟨k, A, cap, hk, rfl, rfl, HK⟩ := hrel
    have K := Lib.hid HK.out.2.2
    have hlt := wdH_lt HR.out f cls hc k
    have hge := never_out HR.out HK.out.1
    obtain ⟨m, hm⟩ : ∃ m : Nat, wdH x f cls k = (m : Int) := ⟨(wdH x f cls k).toNat, by omega⟩
    have hmN : m < N := by have := HNN.out; omega
    have cw := K.out.wh.cell m hmN
    have HM := Lib.hid hm
    rw [hm]
    have hB : blkH f (wdH x f cls k) = f m % 4294967296 := by unfold blkH; rw [hm]; rfl
    have HBL := Lib.hid hB
    have g0 : (0 : Int) ≤ (m : Int) := by omega
    have g1 : (m : Int) < (N : Int) := by omega
    clear hm hlt hge hB
    obtain ⟨B, hBB⟩ : ∃ B : Nat, f m % 4294967296 = B := ⟨_, rfl⟩
    have hand : bits .and .u64 (f m : Int) 4294967295 = (B : Int) := by rw [← hBB]; exact (u64_and_nat (f m) 4294967295 (HF.out m hmN) (by omega)).trans (by rw [Nat.and_two_pow_sub_one_eq_mod (f m) 32])
    have hB32 : B < 4294967296 := by omega
    have hcv := cv_any B hB32
    have HBB : Hid (blkH f (wdH x f cls k) = B) := Lib.hid (by rw [HBL.out, hBB])
    clear hBB HBL
    by_cases h0 : B = 0
    · subst h0
      obtain ⟨c0, c1, c2, c3, c4, c5, c6, c7, c8, p0, p1, p2, p3, hq⟩ := RL.all K.out
      have fr := K.out.res.frozen
      clear c0 c1 c2 c3 c4 c5 c6 c7 c8
      go_wp2_with fail
      obtain ⟨q0, q1, q2, q3, q4, q5⟩ := K.out.put (.slice A k cap) 0 0 false HK.out.2.1
      clear p0 p1 p2 p3
      generalize (((wr.setCell ⟨w.heap.size + 1, 0, none⟩ (.slice A k cap)).setCell ⟨w.heap.size + 1, 1, none⟩ (.int .i64 0)).setCell ⟨w.heap.size + 1, 2, none⟩ (.int .i64 0)).setCell ⟨w.heap.size + 1, 3, none⟩ (.bool false) = W9 at q0 q1 q2 q3 q4 q5 ⊢
      refine bodyPost_ret (v := .agg #[.slice A k cap, .int .i64 0, .int .i64 0, .bool false]) (by simp [results, Tryz.results20, go_sem, q0, q1, q2, q3]) rfl ⟨_, nthL x f cls k, [], 0, 0, false, rfl, ⟨k, hk, HK.out.1, .inl ⟨HBB.out, rfl, rfl⟩⟩, .inl ⟨rfl, rfl, rfl, rfl⟩, by rw [nthL_len]; exact q4, q5⟩
    · have d0 : ((B : Int) == 0) = false := by simp; omega
      obtain ⟨c0, c1, c2, c3, c4, c5, c6, c7, c8, p0, p1, p2, p3, hq⟩ := RL.all K.out
      have fr := K.out.res.frozen
      have HOW := Lib.hid HK.out.2.1
      have HGD := Lib.hid HK.out.1
      have hb0 : ¬ blkH f (wdH x f cls k) = 0 := by rw [HBB.out]; exact h0
      have HB0 := Lib.hid hb0
      clear hb0 HK
      go_wp2_with fail
      refine (r4Class_any x (B : Int) _ HR.out).mono ?_
      rintro e w3 ⟨rfl, hb⟩
      have HB := Lib.hid hb
      have K3 := Lib.hid (K.out.below hb)
      have HOW3 := Lib.hid (own_below HOW.out hb)
      clear hb K HOW c0 c1 c2 c3 c4 c5 c6 c7 c8 p0 p1 p2 p3 hq fr cw
      obtain ⟨c0, c1, c2, c3, c4, c5, c6, c7, c8, p0, p1, p2, p3, hq⟩ := RL.all K3.out
      have fr := K3.out.res.frozen
      by_cases hcc : classC x (B : Int) = C
      · have dcc : (classC x (B : Int) == C) = true := by simpa using hcc
        clear c0 c1 c2 c3 c4 c5 c6 c7 c8
        have HCC := Lib.hid hcc
        clear hcc
        go_upto_region 12 with (fail)
        go_cut [58] (fun cv wd => cv = .bool ((k : Int) == cntC x cls) ∧ Hid (Below w3.heap.size w3 wd))
        case first =>
          obtain ⟨c0, c1, c2, c3, c4, c5, c6, c7, c8, p0, p1, p2, p3, hq⟩ := RL.all K3.out
          obtain rfl | rfl : C = 0 ∨ C = 1 := by omega
          · have e0 : cntC x cls = x.n0 := by unfold cntC; rw [if_pos (by have := HC.out; omega)]
            all_goals
              go_wp2
              go_meet
              case rel => exact ⟨by rw [e0], Lib.hid (by first | exact Below.refl _ _ | exact (Below.refl _ _).drew)⟩
          · have e0 : cntC x cls = x.n1 := by unfold cntC; rw [if_neg (by have := HC.out; omega)]
            all_goals
              go_wp2
              go_meet
              case rel => exact ⟨by rw [e0], Lib.hid (by first | exact Below.refl _ _ | exact (Below.refl _ _).drew)⟩
        case rest =>
        obtain ⟨rfl, HBd⟩ := hcut
        rename World => wd
        have K4 := Lib.hid (K3.out.below HBd.out)
        have HOW4 := Lib.hid (own_below HOW3.out HBd.out)
        clear K3 HOW3 HBd HB p0 p1 p2 p3 hq fr
        obtain ⟨c0, c1, c2, c3, c4, c5, c6, c7, c8, p0, p1, p2, p3, hq⟩ := RL.all K4.out
        have fr := K4.out.res.frozen
        by_cases hfull : (k : Int) = cntC x cls
        · have dfu : ((k : Int) == cntC x cls) = true := by simp [hfull]
          rw [dfu]
          have HFU := Lib.hid hfull
          clear hfull dfu
          go_wp2_with fail
          obtain ⟨q0, q1, q2, q3, q4, q5⟩ := K4.out.put (.slice none 0 0) 16 (m : Int) true (World.ownsRow_nil _ _ _ _ : wd.ownsRow (w.heap.size + 2) 3 1 (.slice none 0 0) 0 [])
          clear p0 p1 p2 p3
          generalize (((wd.setCell ⟨w.heap.size + 1, 0, none⟩ (.slice none 0 0)).setCell ⟨w.heap.size + 1, 1, none⟩ (.int .i64 16)).setCell ⟨w.heap.size + 1, 2, none⟩ (.int .i64 (m : Int))).setCell ⟨w.heap.size + 1, 3, none⟩ (.bool true) = W9 at q0 q1 q2 q3 q4 q5 ⊢
          refine bodyPost_ret (v := .agg #[.slice none 0 0, .int .i64 16, .int .i64 (m : Int), .bool true]) (by simp [results, Tryz.results20, go_sem, q0, q1, q2, q3]) rfl ⟨_, [], [(0, (m : Int)), (16, 0)], 16, (m : Int), true, rfl, ⟨k, hk, HGD.out, .inr (.inr ⟨HB0.out, by rw [HBB.out, ← HC.out]; exact HCC.out, HFU.out, rfl, by rw [HM.out]⟩)⟩, .inr (.inl ⟨by omega, rfl, rfl⟩), q4, q5⟩
        · have dfu : ((k : Int) == cntC x cls) = false := by simp [hfull]
          rw [dfu]
          clear dfu
          have hsz4 := K4.out.be.size
          go_wp2_with (at_builtin; refine wpList_append_own _ rfl _ _ 44 rfl (w.heap.size + 2) 3 i0 (.int .i64 0) 1 8 Tryz.underlying44 hi hz0 hz1 hz2 rfl (by decide) _ _ _ rfl (HOW4.out.alloc _) ⟨wd.heap.size, 0, none⟩ 1 1 [.int .i64 (B : Int)] rfl rfl (cell_one_new _ _ _) (by simp [Value.oneCell']) (by unfold maxLen; omega) (by omega) (by simp; omega) ?_; intro v' w5 hown5 hgrow _; obtain ⟨g', cap', rfl⟩ := ownsRow_succ hown5; have K5 := Lib.hid ((K4.out.below (W' := wd.alloc (.cells #[.int .i64 (B : Int)] 3)) ((Below.refl _ _).alloc (Nat.le_refl _) _)).grown hbw hgrow (fun r e => (own_cells HOW4.out r e).1)); have HO5 := Lib.hid hown5; clear hown5 hgrow c0 c1 c2 c3 c4 c5 c6 c7 c8 p0 p1 p2 p3 hq fr; obtain ⟨c0, c1, c2, c3, c4, c5, c6, c7, c8, p0, p1, p2, p3, hq⟩ := RL.all K5.out)
          have hblk : Hid (wdH x f cls (k + 1) = blockC x (B : Int)) := Lib.hid (by show blockC x ((blkH f (wdH x f cls k) : Nat) : Int) = _; rw [HBB.out])
          refine (r4Block_any x (B : Int) _ HR.out).mono ?_
          rintro e w6 ⟨rfl, hb⟩
          have K6 := Lib.hid (K5.out.below hb)
          have HO6 := Lib.hid (own_below HO5.out hb)
          clear hb K5 HO5 c0 c1 c2 c3 c4 c5 c6 c7 c8 p0 p1 p2 p3 hq
          go_wp2_with fail
          go_roundw
          case rel =>
            refine ⟨k + 1, _, _, by omega, rfl, by rw [hblk.out], Lib.hid ⟨fun i hi => ?_, ?_, K6.out⟩⟩
            · by_cases e : i = k
              · subst e; exact ⟨HB0.out, by rw [HBB.out, ← HC.out]; exact HCC.out⟩
              · exact HGD.out i (by omega)
            · have e2 : (nthL x f cls (k + 1)).map (Value.int .i64) = (nthL x f cls k).map (Value.int .i64) ++ [.int .i64 (B : Int)] := by unfold nthL; rw [lst_succ, List.map_append, HBB.out]; rfl
              rw [e2]
              exact HO6.out
          case measure => simp [lenOf]; omega
      · have dcc : (classC x (B : Int) == C) = false := by simpa using hcc
        go_wp2_with fail
        obtain ⟨q0, q1, q2, q3, q4, q5⟩ := K3.out.put (.slice none 0 0) 10 (m : Int) true (World.ownsRow_nil _ _ _ _ : w3.ownsRow (w.heap.size + 2) 3 1 (.slice none 0 0) 0 [])
        clear p0 p1 p2 p3
        generalize (((w3.setCell ⟨w.heap.size + 1, 0, none⟩ (.slice none 0 0)).setCell ⟨w.heap.size + 1, 1, none⟩ (.int .i64 10)).setCell ⟨w.heap.size + 1, 2, none⟩ (.int .i64 (m : Int))).setCell ⟨w.heap.size + 1, 3, none⟩ (.bool true) = W9 at q0 q1 q2 q3 q4 q5 ⊢
        refine bodyPost_ret (v := .agg #[.slice none 0 0, .int .i64 10, .int .i64 (m : Int), .bool true]) (by simp [results, Tryz.results20, go_sem, q0, q1, q2, q3]) rfl ⟨_, [], [(0, (m : Int)), (10, 0)], 10, (m : Int), true, rfl, ⟨k, hk, HGD.out, .inr (.inl ⟨HB0.out, by rw [HBB.out, ← HC.out]; exact hcc, rfl, by rw [HM.out]⟩)⟩, .inr (.inl ⟨by omega, rfl, rfl⟩), q4, q5⟩

end Go.Proofs.YtkpffnihnhlghaaGreatDoor

namespace Go.Proofs.YtkpffnihnhlghaaGreatDoor
open Go.RowKit Go.Shelf
theorem word_E {E : List (Int × Int)} {k p : Int} {t : Bool} (h : EC E k p t) (w : World) : Calls Tryz.prog 34 #[Cs.enc E] w fun r w' => r = .returned (.tuple #[.int .i64 p, .bool t]) ∧ Below w.heap.size w w' := by
  rcases h with ⟨rfl, -, rfl, rfl⟩ | ⟨hk, rfl, rfl⟩ | ⟨hk, rfl, rfl, rfl⟩
  · exact Cs.word_any [] (by simp [Cs.Ok]) (by simp) w
  · have g := Cs.word_any [(0, p), (k, 0)] (by simp [Cs.Ok, hk]) (by simp) w
    rw [show Cs.wordFrom (0, false) [(0, p), (k, 0)] = (p, true) by simp [Cs.wordFrom, hk]] at g
    exact g
  · have g := Cs.word_any [(k, 0)] (by simpa [Cs.Ok] using hk) (by simp) w
    rw [show Cs.wordFrom (0, false) [(k, 0)] = (0, false) by simp [Cs.wordFrom, hk]] at g
    exact g
theorem top_E {E : List (Int × Int)} {k p : Int} {t : Bool} (h : EC E k p t) (w : World) (hE : Cs.ErrT w) : Calls Tryz.prog 12 #[Cs.enc E] w fun r w' => r = .returned (.int .i64 k) ∧ Below w.heap.size w w' := by
  rcases h with ⟨rfl, rfl, -, -⟩ | ⟨hk, -, rfl⟩ | ⟨hk, -, -, rfl⟩
  · exact Cs.top_any [] (by simp [Cs.Ok]) (by simp) w hE
  · have g := Cs.top_any [(0, p), (k, 0)] (by simp [Cs.Ok, hk]) (by simp) w hE
    rw [Cs.top_word, Cs.top_code _ _ hk] at g
    exact g
  · have g := Cs.top_any [(k, 0)] (by simpa [Cs.Ok] using hk) (by simp) w hE
    rw [Cs.top_code _ _ hk] at g
    exact g
def toldC (v : Value) (k p : Int) (t : Bool) : Nat → Value
  | 0 => v
  | 1 => .int .i64 k
  | 2 => .int .i64 p
  | _ => .bool t
theorem told_box (w : World) (v : Value) (k p : Int) (t : Bool) : (w.alloc (.cells #[v, .int .i64 k, .int .i64 p, .bool t] 62)).rowIs w.heap.size 62 4 (toldC v k p t) :=
  World.rowIs_alloc w #[v, .int .i64 k, .int .i64 p, .bool t] 62 _ (by intro j hj; match j, hj with | 0, _ => rfl | 1, _ => rfl | 2, _ => rfl | 3, _ => rfl)
structure HT (w : World) (v : Value) (k p : Int) (t : Bool) (W : World) : Prop where
  box : W.rowIs w.heap.size 62 4 (toldC v k p t)
  be : Below w.heap.size w W
theorem HT.below {w : World} {v : Value} {k p : Int} {t : Bool} {W W' : World} (h : HT w v k p t W) (hb : Below W.heap.size W W') : HT w v k p t W' := ⟨h.box.of_block (hb.block _ h.box.lt), Below.step h.be hb h.be.size⟩
theorem HT.all {w : World} {v : Value} {k p : Int} {t : Bool} {W : World} (h : HT w v k p t W) : W.cell? ⟨w.heap.size, 0, none⟩ = some v ∧ W.cell? ⟨w.heap.size, 1, none⟩ = some (.int .i64 k) ∧ W.cell? ⟨w.heap.size, 2, none⟩ = some (.int .i64 p) ∧ W.cell? ⟨w.heap.size, 3, none⟩ = some (.bool t) :=
  ⟨h.box.cell (i := 0) (by omega), h.box.cell (i := 1) (by omega), h.box.cell (i := 2) (by omega), h.box.cell (i := 3) (by omega)⟩
set_option maxRecDepth 100000 in
set_option maxHeartbeats 4000000 in
theorem told_any (L : List Int) (hL : L.length ≤ 1000) (E : List (Int × Int)) (k p : Int) (t : Bool) (h : EC E k p t) (v v' : Value) (w : World) (hE : Cs.ErrT w) (h1 : IRw w v L) (h2 : IRw w v' L) : Calls Tryz.prog 18 #[v, Cs.enc E, .agg #[v', .int .i64 k, .int .i64 p, .bool t]] w fun e w' => e = .returned (.bool true) ∧ Below w.heap.size w w' := by
  have HE := Lib.hid hE
  have HWD := Lib.hid (fun W => word_E h W)
  have HTP := Lib.hid (fun W => top_E h W)
  have K0 := Lib.hid (show HT w v' k p t (w.alloc (.cells #[v', .int .i64 k, .int .i64 p, .bool t] 62)) from ⟨told_box w v' k p t, ((Below.refl _ _).alloc (Nat.le_refl _) _)⟩)
  have H1 := Lib.hid (h1.below (W' := w.alloc (.cells #[v', .int .i64 k, .int .i64 p, .bool t] 62)) ((Below.refl _ _).alloc (Nat.le_refl _) _))
  have H2 := Lib.hid (h2.below (W' := w.alloc (.cells #[v', .int .i64 k, .int .i64 p, .bool t] 62)) ((Below.refl _ _).alloc (Nat.le_refl _) _))
  clear hE h h1 h2
  generalize Cs.enc E = X at HWD HTP ⊢
  go_enter Tryz.func18, Tryz.ntmps18
  go_wp2_with fail
  refine (same_eq L hL _ _ _ H1.out H2.out).mono ?_
  rintro e w1 ⟨rfl, hb⟩
  have K1 := Lib.hid (K0.out.below hb)
  clear hb K0 H1 H2
  go_wp2_with fail
  refine (HWD.out _).mono ?_
  rintro e w2 ⟨rfl, hb⟩
  have K2 := Lib.hid (K1.out.below hb)
  clear hb K1 HWD
  cases t
  · obtain ⟨c0, c1, c2, c3⟩ := K2.out.all
    go_upto_region 3 with (fail)
    refine wp_region_held_drew (S := (fun w' => w'.cell? ⟨w.heap.size, 1, none⟩ = some (.int .i64 k) ∧ w'.cell? ⟨w.heap.size, 2, none⟩ = some (.int .i64 p) ∧ w'.cell? ⟨w.heap.size, 3, none⟩ = some (.bool false))) (by kernel_rfl) (⟨c1, c2, c3⟩) (fun hHeld => ?_)
    refine wpAnyH_take (i := 0) (oi := ({ dst := Option.some 19, op := Go.Op.move (Go.Operand.tmp 7), type := 4, pos := "law.go:106", after := #[], guard := Option.none })) (v := ?_) rfl (by kernel_rfl) (by kernel_rfl) (by kernel_rfl) (fun _ _ _ h => h) (Or.inl ⟨by rfl, ?_⟩) (by assumption) ?_
    rotate_left
    · first | exact fun _ _ => rfl | (intro w hSw; (try dsimp only at hSw); go_simp; try with_reducible rfl)
    try simp only [Act.put, List.setIfInBounds_toArray, List.set_cons_zero, List.set_cons_succ]
    refine wpAnyH_take (i := 1) (oi := ({ dst := Option.some 20, op := Go.Op.move (Go.Operand.tmp 19), type := 4, pos := "law.go:106", after := #[{ on := 0, ground := Go.Ground.data }], guard := Option.none })) (v := ?_) rfl (by kernel_rfl) (by kernel_rfl) (by kernel_rfl) (fun _ _ _ h => h) (Or.inl ⟨by rfl, ?_⟩) (by assumption) ?_
    rotate_left
    · first | exact fun _ _ => rfl | (intro w hSw; (try dsimp only at hSw); go_simp; try with_reducible rfl)
    try simp only [Act.put, List.setIfInBounds_toArray, List.set_cons_zero, List.set_cons_succ]
    refine wpAnyH_take (i := 2) (oi := ({ dst := Option.some 21, op := Go.Op.move (Go.Operand.tmp 1), type := 46, pos := "law.go:106", after := #[{ on := 1, ground := Go.Ground.guard }], guard := Option.some (1, Bool.true) })) (v := ?_) rfl (by kernel_rfl) (by kernel_rfl) (by kernel_rfl) (fun _ _ _ h => h) (Or.inl ⟨by rfl, ?_⟩) (by assumption) ?_
    rotate_left
    · first | exact fun _ _ => rfl | (intro w hSw; (try dsimp only at hSw); go_simp; try with_reducible rfl)
    try simp only [Act.put, List.setIfInBounds_toArray, List.set_cons_zero, List.set_cons_succ]
    refine wpAnyH_take (i := 4) (oi := ({ dst := Option.some 23, op := Go.Op.fieldAddr 62 (Go.Operand.tmp 5) 1, type := 0, pos := "law.go:106", after := #[{ on := 1, ground := Go.Ground.guard }], guard := Option.some (1, Bool.true) })) (v := ?_) rfl (by kernel_rfl) (by kernel_rfl) (by kernel_rfl) (fun _ _ _ h => h) (Or.inl ⟨by rfl, ?_⟩) (by assumption) ?_
    rotate_left
    · first | exact fun _ _ => rfl | (intro w hSw; (try dsimp only at hSw); go_simp; try with_reducible rfl)
    try simp only [Act.put, List.setIfInBounds_toArray, List.set_cons_zero, List.set_cons_succ]
    refine wpAnyH_take (i := 5) (oi := ({ dst := Option.some 24, op := Go.Op.load 50 (Go.Operand.tmp 23), type := 50, pos := "law.go:106", after := #[{ on := 4, ground := Go.Ground.data }, { on := 1, ground := Go.Ground.guard }], guard := Option.some (1, Bool.true) })) (v := ?_) rfl (by kernel_rfl) (by kernel_rfl) (by kernel_rfl) (fun _ _ _ h => h) (Or.inl ⟨by rfl, ?_⟩) (by assumption) ?_
    rotate_left
    · first | exact fun _ _ => rfl | (intro w hSw; (try dsimp only at hSw); go_simp; try with_reducible rfl)
    try simp only [Act.put, List.setIfInBounds_toArray, List.set_cons_zero, List.set_cons_succ]
    refine wpAnyH_ready (rs := [3]) (by kernel_rfl) (by simp) ?_
    refine AllReadyH.cons (o := ({ dst := Option.some 22, op := Go.Op.call { callee := Go.Callee.value (Go.Operand.func 12), args := #[Go.Operand.tmp 21], argTypes := #[46] }, type := 50, pos := "law.go:106", after := #[{ on := 2, ground := Go.Ground.data }, { on := 1, ground := Go.Ground.chain }, { on := 1, ground := Go.Ground.guard }], guard := Option.some (1, Bool.true) })) rfl (fun Kc hKc => ?_) AllReadyH.nil
    go_simp
    (go_at_call 12; refine (HTP.out _ (HE.out.below K2.out.be.drew)).mono ?_; rintro e w3 ⟨rfl, hb⟩; have HB3 := Lib.hid (K2.out.below ((Below.refl _ _).drew.trans hb)); have hk1 := HB3.out.all.2.1; have hk2 := HB3.out.all.2.2.1; have hk3 := HB3.out.all.2.2.2; clear hb)
    try go_wp2_with fail
    refine hKc.out _ _ (⟨hk1, hk2, hk3⟩) (fun hHeld => ?_)
    clear hKc Kc
    try simp only [Act.put, List.setIfInBounds_toArray, List.set_cons_zero, List.set_cons_succ]
    refine wpAnyH_take (i := 6) (oi := ({ dst := Option.some 25, op := Go.Op.binOp Go.BinOp.eql 50 (Go.Operand.tmp 22) (Go.Operand.tmp 24) 50, type := 4, pos := "law.go:106", after := #[{ on := 3, ground := Go.Ground.data }, { on := 5, ground := Go.Ground.data }, { on := 1, ground := Go.Ground.guard }], guard := Option.some (1, Bool.true) })) (v := ?_) rfl (by kernel_rfl) (by kernel_rfl) (by kernel_rfl) (fun _ _ _ h => h) (Or.inl ⟨by rfl, ?_⟩) (by assumption) ?_
    rotate_left
    · first | exact fun _ _ => rfl | (intro w hSw; (try dsimp only at hSw); go_simp; try with_reducible rfl)
    try simp only [Act.put, List.setIfInBounds_toArray, List.set_cons_zero, List.set_cons_succ]
    refine wpAnyH_take (i := 7) (oi := ({ dst := Option.some 26, op := Go.Op.pick (Go.Operand.tmp 20) (Go.Operand.tmp 25) (Go.Operand.const (Go.Value.bool Bool.false)), type := 4, pos := "law.go:106", after := #[{ on := 1, ground := Go.Ground.data }, { on := 6, ground := Go.Ground.data }], guard := Option.none })) (v := ?_) rfl (by kernel_rfl) (by kernel_rfl) (by kernel_rfl) (fun _ _ _ h => h) (Or.inl ⟨by rfl, ?_⟩) (by assumption) ?_
    rotate_left
    · first | exact fun _ _ => rfl | (intro w hSw; (try dsimp only at hSw); go_simp; try with_reducible rfl)
    try simp only [Act.put, List.setIfInBounds_toArray, List.set_cons_zero, List.set_cons_succ]
    refine wpAnyH_take (i := 8) (oi := ({ dst := Option.some 27, op := Go.Op.move (Go.Operand.tmp 26), type := 4, pos := "law.go:106", after := #[{ on := 7, ground := Go.Ground.data }, { on := 3, ground := Go.Ground.chain }], guard := Option.none })) (v := ?_) rfl (by kernel_rfl) (by kernel_rfl) (by kernel_rfl) (fun _ _ _ h => h) (Or.inl ⟨by rfl, ?_⟩) (by assumption) ?_
    rotate_left
    · first | exact fun _ _ => rfl | (intro w hSw; (try dsimp only at hSw); go_simp; try with_reducible rfl)
    try simp only [Act.put, List.setIfInBounds_toArray, List.set_cons_zero, List.set_cons_succ]
    refine wpAnyH_take (i := 9) (oi := ({ dst := Option.some 28, op := Go.Op.move (Go.Operand.tmp 9), type := 4, pos := "law.go:106", after := #[{ on := 8, ground := Go.Ground.guard }], guard := Option.some (8, Bool.true) })) (v := ?_) rfl (by kernel_rfl) (by kernel_rfl) (by kernel_rfl) (fun _ _ _ h => h) (Or.inl ⟨by rfl, ?_⟩) (by assumption) ?_
    rotate_left
    · first | exact fun _ _ => rfl | (intro w hSw; (try dsimp only at hSw); go_simp; try with_reducible rfl)
    try simp only [Act.put, List.setIfInBounds_toArray, List.set_cons_zero, List.set_cons_succ]
    refine wpAnyH_take (i := 10) (oi := ({ dst := Option.some 29, op := Go.Op.fieldAddr 62 (Go.Operand.tmp 5) 3, type := 0, pos := "law.go:106", after := #[{ on := 8, ground := Go.Ground.guard }], guard := Option.some (8, Bool.true) })) (v := ?_) rfl (by kernel_rfl) (by kernel_rfl) (by kernel_rfl) (fun _ _ _ h => h) (Or.inl ⟨by rfl, ?_⟩) (by assumption) ?_
    rotate_left
    · first | exact fun _ _ => rfl | (intro w hSw; (try dsimp only at hSw); go_simp; try with_reducible rfl)
    try simp only [Act.put, List.setIfInBounds_toArray, List.set_cons_zero, List.set_cons_succ]
    refine wpAnyH_take (i := 11) (oi := ({ dst := Option.some 30, op := Go.Op.load 4 (Go.Operand.tmp 29), type := 4, pos := "law.go:106", after := #[{ on := 10, ground := Go.Ground.data }, { on := 8, ground := Go.Ground.guard }], guard := Option.some (8, Bool.true) })) (v := ?_) rfl (by kernel_rfl) (by kernel_rfl) (by kernel_rfl) (fun _ _ _ h => h) (Or.inl ⟨by rfl, ?_⟩) (by assumption) ?_
    rotate_left
    · first | exact fun _ _ => rfl | (intro w hSw; (try dsimp only at hSw); go_simp; try with_reducible rfl)
    try simp only [Act.put, List.setIfInBounds_toArray, List.set_cons_zero, List.set_cons_succ]
    refine wpAnyH_take (i := 12) (oi := ({ dst := Option.some 31, op := Go.Op.binOp Go.BinOp.eql 4 (Go.Operand.tmp 28) (Go.Operand.tmp 30) 4, type := 4, pos := "law.go:106", after := #[{ on := 9, ground := Go.Ground.data }, { on := 11, ground := Go.Ground.data }, { on := 8, ground := Go.Ground.guard }], guard := Option.some (8, Bool.true) })) (v := ?_) rfl (by kernel_rfl) (by kernel_rfl) (by kernel_rfl) (fun _ _ _ h => h) (Or.inl ⟨by rfl, ?_⟩) (by assumption) ?_
    rotate_left
    · first | exact fun _ _ => rfl | (intro w hSw; (try dsimp only at hSw); go_simp; try with_reducible rfl)
    try simp only [Act.put, List.setIfInBounds_toArray, List.set_cons_zero, List.set_cons_succ]
    refine wpAnyH_take (i := 13) (oi := ({ dst := Option.some 32, op := Go.Op.pick (Go.Operand.tmp 27) (Go.Operand.tmp 31) (Go.Operand.const (Go.Value.bool Bool.false)), type := 4, pos := "law.go:106", after := #[{ on := 8, ground := Go.Ground.data }, { on := 12, ground := Go.Ground.data }], guard := Option.none })) (v := ?_) rfl (by kernel_rfl) (by kernel_rfl) (by kernel_rfl) (fun _ _ _ h => h) (Or.inl ⟨by rfl, ?_⟩) (by assumption) ?_
    rotate_left
    · first | exact fun _ _ => rfl | (intro w hSw; (try dsimp only at hSw); go_simp; try with_reducible rfl)
    try simp only [Act.put, List.setIfInBounds_toArray, List.set_cons_zero, List.set_cons_succ]
    refine wpAnyH_take (i := 14) (oi := ({ dst := Option.some 33, op := Go.Op.move (Go.Operand.tmp 32), type := 4, pos := "law.go:106", after := #[{ on := 13, ground := Go.Ground.data }, { on := 8, ground := Go.Ground.chain }], guard := Option.none })) (v := ?_) rfl (by kernel_rfl) (by kernel_rfl) (by kernel_rfl) (fun _ _ _ h => h) (Or.inl ⟨by rfl, ?_⟩) (by assumption) ?_
    rotate_left
    · first | exact fun _ _ => rfl | (intro w hSw; (try dsimp only at hSw); go_simp; try with_reducible rfl)
    try simp only [Act.put, List.setIfInBounds_toArray, List.set_cons_zero, List.set_cons_succ]
    refine wpAnyH_take (i := 15) (oi := ({ dst := Option.some 34, op := Go.Op.move (Go.Operand.tmp 9), type := 4, pos := "law.go:106", after := #[{ on := 14, ground := Go.Ground.guard }], guard := Option.some (14, Bool.true) })) (v := ?_) rfl (by kernel_rfl) (by kernel_rfl) (by kernel_rfl) (fun _ _ _ h => h) (Or.inl ⟨by rfl, ?_⟩) (by assumption) ?_
    rotate_left
    · first | exact fun _ _ => rfl | (intro w hSw; (try dsimp only at hSw); go_simp; try with_reducible rfl)
    try simp only [Act.put, List.setIfInBounds_toArray, List.set_cons_zero, List.set_cons_succ]
    refine wpAnyH_take (i := 16) (oi := ({ dst := Option.some 35, op := Go.Op.unOp Go.UnOp.not 4 (Go.Operand.tmp 34), type := 4, pos := "law.go:106", after := #[{ on := 15, ground := Go.Ground.data }, { on := 14, ground := Go.Ground.guard }], guard := Option.some (14, Bool.true) })) (v := ?_) rfl (by kernel_rfl) (by kernel_rfl) (by kernel_rfl) (fun _ _ _ h => h) (Or.inl ⟨by rfl, ?_⟩) (by assumption) ?_
    rotate_left
    · first | exact fun _ _ => rfl | (intro w hSw; (try dsimp only at hSw); go_simp; try with_reducible rfl)
    try simp only [Act.put, List.setIfInBounds_toArray, List.set_cons_zero, List.set_cons_succ]
    refine wpAnyH_take (i := 17) (oi := ({ dst := Option.some 36, op := Go.Op.move (Go.Operand.tmp 35), type := 4, pos := "law.go:106", after := #[{ on := 16, ground := Go.Ground.data }, { on := 14, ground := Go.Ground.chain }, { on := 14, ground := Go.Ground.guard }], guard := Option.some (14, Bool.true) })) (v := ?_) rfl (by kernel_rfl) (by kernel_rfl) (by kernel_rfl) (fun _ _ _ h => h) (Or.inl ⟨by rfl, ?_⟩) (by assumption) ?_
    rotate_left
    · first | exact fun _ _ => rfl | (intro w hSw; (try dsimp only at hSw); go_simp; try with_reducible rfl)
    try simp only [Act.put, List.setIfInBounds_toArray, List.set_cons_zero, List.set_cons_succ]
    refine wpAnyH_take (i := 18) (oi := ({ dst := Option.some 37, op := Go.Op.move (Go.Operand.tmp 8), type := 3, pos := "law.go:106", after := #[{ on := 17, ground := Go.Ground.guard }], guard := Option.some (17, Bool.false) })) (v := undef) rfl (by kernel_rfl) (by kernel_rfl) (by kernel_rfl) (fun _ _ _ h => h) (Or.inr ⟨by rfl, rfl⟩) (by assumption) ?_
    try simp only [Act.put, List.setIfInBounds_toArray, List.set_cons_zero, List.set_cons_succ]
    refine wpAnyH_take (i := 19) (oi := ({ dst := Option.some 38, op := Go.Op.fieldAddr 62 (Go.Operand.tmp 5) 2, type := 0, pos := "law.go:106", after := #[{ on := 17, ground := Go.Ground.guard }], guard := Option.some (17, Bool.false) })) (v := undef) rfl (by kernel_rfl) (by kernel_rfl) (by kernel_rfl) (fun _ _ _ h => h) (Or.inr ⟨by rfl, rfl⟩) (by assumption) ?_
    try simp only [Act.put, List.setIfInBounds_toArray, List.set_cons_zero, List.set_cons_succ]
    refine wpAnyH_take (i := 20) (oi := ({ dst := Option.some 39, op := Go.Op.load 3 (Go.Operand.tmp 38), type := 3, pos := "law.go:106", after := #[{ on := 19, ground := Go.Ground.data }, { on := 17, ground := Go.Ground.guard }], guard := Option.some (17, Bool.false) })) (v := undef) rfl (by kernel_rfl) (by kernel_rfl) (by kernel_rfl) (fun _ _ _ h => h) (Or.inr ⟨by rfl, rfl⟩) (by assumption) ?_
    try simp only [Act.put, List.setIfInBounds_toArray, List.set_cons_zero, List.set_cons_succ]
    refine wpAnyH_take (i := 21) (oi := ({ dst := Option.some 40, op := Go.Op.binOp Go.BinOp.eql 3 (Go.Operand.tmp 37) (Go.Operand.tmp 39) 3, type := 4, pos := "law.go:106", after := #[{ on := 18, ground := Go.Ground.data }, { on := 20, ground := Go.Ground.data }, { on := 17, ground := Go.Ground.guard }], guard := Option.some (17, Bool.false) })) (v := undef) rfl (by kernel_rfl) (by kernel_rfl) (by kernel_rfl) (fun _ _ _ h => h) (Or.inr ⟨by rfl, rfl⟩) (by assumption) ?_
    try simp only [Act.put, List.setIfInBounds_toArray, List.set_cons_zero, List.set_cons_succ]
    refine wpAnyH_take (i := 22) (oi := ({ dst := Option.some 41, op := Go.Op.pick (Go.Operand.tmp 36) (Go.Operand.const (Go.Value.bool Bool.true)) (Go.Operand.tmp 40), type := 4, pos := "law.go:106", after := #[{ on := 17, ground := Go.Ground.data }, { on := 21, ground := Go.Ground.data }, { on := 14, ground := Go.Ground.guard }], guard := Option.some (14, Bool.true) })) (v := ?_) rfl (by kernel_rfl) (by kernel_rfl) (by kernel_rfl) (fun _ _ _ h => h) (Or.inl ⟨by rfl, ?_⟩) (by assumption) ?_
    rotate_left
    · first | exact fun _ _ => rfl | (intro w hSw; (try dsimp only at hSw); go_simp; try with_reducible rfl)
    try simp only [Act.put, List.setIfInBounds_toArray, List.set_cons_zero, List.set_cons_succ]
    refine wpAnyH_take (i := 23) (oi := ({ dst := Option.some 42, op := Go.Op.pick (Go.Operand.tmp 33) (Go.Operand.tmp 41) (Go.Operand.const (Go.Value.bool Bool.false)), type := 4, pos := "law.go:106", after := #[{ on := 14, ground := Go.Ground.data }, { on := 22, ground := Go.Ground.data }], guard := Option.none })) (v := ?_) rfl (by kernel_rfl) (by kernel_rfl) (by kernel_rfl) (fun _ _ _ h => h) (Or.inl ⟨by rfl, ?_⟩) (by assumption) ?_
    rotate_left
    · first | exact fun _ _ => rfl | (intro w hSw; (try dsimp only at hSw); go_simp; try with_reducible rfl)
    try simp only [Act.put, List.setIfInBounds_toArray, List.set_cons_zero, List.set_cons_succ]
    refine wpAnyH_take (i := 24) (oi := ({ dst := Option.some 6, op := Go.Op.assign (Go.Operand.tmp 42), type := 4, pos := "law.go:106", after := #[{ on := 23, ground := Go.Ground.data }, { on := 17, ground := Go.Ground.chain }, { on := 0, ground := Go.Ground.phase }, { on := 1, ground := Go.Ground.phase }, { on := 2, ground := Go.Ground.phase }, { on := 3, ground := Go.Ground.phase }, { on := 4, ground := Go.Ground.phase }, { on := 5, ground := Go.Ground.phase }, { on := 6, ground := Go.Ground.phase }, { on := 7, ground := Go.Ground.phase }, { on := 8, ground := Go.Ground.phase }, { on := 9, ground := Go.Ground.phase }, { on := 10, ground := Go.Ground.phase }, { on := 11, ground := Go.Ground.phase }, { on := 12, ground := Go.Ground.phase }, { on := 13, ground := Go.Ground.phase }, { on := 14, ground := Go.Ground.phase }, { on := 15, ground := Go.Ground.phase }, { on := 16, ground := Go.Ground.phase }, { on := 17, ground := Go.Ground.phase }, { on := 18, ground := Go.Ground.phase }, { on := 19, ground := Go.Ground.phase }, { on := 20, ground := Go.Ground.phase }, { on := 21, ground := Go.Ground.phase }, { on := 22, ground := Go.Ground.phase }, { on := 23, ground := Go.Ground.phase }], guard := Option.none })) (v := ?_) rfl (by kernel_rfl) (by kernel_rfl) (by kernel_rfl) (fun _ _ _ h => h) (Or.inl ⟨by rfl, ?_⟩) (by assumption) ?_
    rotate_left
    · first | exact fun _ _ => rfl | (intro w hSw; (try dsimp only at hSw); go_simp; try with_reducible rfl)
    try simp only [Act.put, List.setIfInBounds_toArray, List.set_cons_zero, List.set_cons_succ]
    refine wpAnyH_done (by kernel_rfl) ?_ _
    go_wp2
    go_ret
    exact ⟨rfl, HB3.out.be⟩
  · obtain ⟨c0, c1, c2, c3⟩ := K2.out.all
    go_upto_region 3 with (fail)
    go_region_held3 (fun w' => w'.cell? ⟨w.heap.size, 1, none⟩ = some (.int .i64 k) ∧ w'.cell? ⟨w.heap.size, 2, none⟩ = some (.int .i64 p) ∧ w'.cell? ⟨w.heap.size, 3, none⟩ = some (.bool true)) (first | exact ⟨c1, c2, c3⟩ | exact ⟨by assumption, by assumption, by assumption⟩)
      ((go_at_call 12; refine (HTP.out _ (HE.out.below K2.out.be.drew)).mono ?_; rintro e w3 ⟨rfl, hb⟩; have HB3 := Lib.hid (K2.out.below ((Below.refl _ _).drew.trans hb)); have hk1 := HB3.out.all.2.1; have hk2 := HB3.out.all.2.2.1; have hk3 := HB3.out.all.2.2.2; clear hb))
    all_goals
      go_wp2
      go_ret
      exact ⟨rfl, HB3.out.be⟩

end Go.Proofs.YtkpffnihnhlghaaGreatDoor

namespace Go.Proofs.YtkpffnihnhlghaaGreatDoor
open Go.RowKit Go.Shelf
/-- The boxes of List. -/
structure RB (w : World) (x : Cfg) (W : World) : Prop where
  cfg : CfgAt W w.heap.size x
  res : W.rowIs (w.heap.size + 1) 62 4 toldZ
  be : Below w.heap.size w W
section
variable {w : World} {x : Cfg} {W W' : World}
theorem RB.below (h : RB w x W) (hb : Below W.heap.size W W') : RB w x W' := ⟨h.cfg.below hb, h.res.of_block (hb.block _ h.res.lt), Below.step h.be hb h.be.size⟩
theorem RB.start (w : World) (x : Cfg) : RB w x ((w.alloc (.cells #[.int .i64 x.t, .int .i64 x.s, .int .i64 x.l, .int .i64 x.c, .int .i64 x.s0, .int .i64 x.n0, .int .i64 x.s1, .int .i64 x.n1, .int .i64 x.r] 30)).alloc (.cells #[.slice none 0 0, .int .i64 0, .int .i64 0, .bool false] 62)) := by
  have h := World.rowIs_alloc (w.alloc (.cells #[.int .i64 x.t, .int .i64 x.s, .int .i64 x.l, .int .i64 x.c, .int .i64 x.s0, .int .i64 x.n0, .int .i64 x.s1, .int .i64 x.n1, .int .i64 x.r] 30)) #[.slice none 0 0, .int .i64 0, .int .i64 0, .bool false] 62 toldZ (by intro j hj; match j, hj with | 0, _ => rfl | 1, _ => rfl | 2, _ => rfl | 3, _ => rfl)
  simp only [World.size_alloc] at h
  exact ⟨(cfgAt_box w x).below ((Below.refl _ _).alloc (Nat.le_refl _) _), h, by (repeat (first | with_reducible exact Below.refl _ _ | with_reducible refine Below.drew ?_ | (with_reducible refine Below.setCell ?_ ?side _; case side => exact (by first | (simp; done) | (simp; omega) | omega)) | (with_reducible refine Below.alloc ?_ ?side _; case side => exact (by first | (simp; done) | (simp; omega) | omega))))⟩
theorem RB.put (h : RB w x W) (v : Value) (k p : Int) (t : Bool) :
    ((((W.setCell ⟨w.heap.size + 1, 0, none⟩ v).setCell ⟨w.heap.size + 1, 1, none⟩ (.int .i64 k)).setCell ⟨w.heap.size + 1, 2, none⟩ (.int .i64 p)).setCell ⟨w.heap.size + 1, 3, none⟩ (.bool t)).cell? ⟨w.heap.size + 1, 0, none⟩ = some v ∧
    ((((W.setCell ⟨w.heap.size + 1, 0, none⟩ v).setCell ⟨w.heap.size + 1, 1, none⟩ (.int .i64 k)).setCell ⟨w.heap.size + 1, 2, none⟩ (.int .i64 p)).setCell ⟨w.heap.size + 1, 3, none⟩ (.bool t)).cell? ⟨w.heap.size + 1, 1, none⟩ = some (.int .i64 k) ∧
    ((((W.setCell ⟨w.heap.size + 1, 0, none⟩ v).setCell ⟨w.heap.size + 1, 1, none⟩ (.int .i64 k)).setCell ⟨w.heap.size + 1, 2, none⟩ (.int .i64 p)).setCell ⟨w.heap.size + 1, 3, none⟩ (.bool t)).cell? ⟨w.heap.size + 1, 2, none⟩ = some (.int .i64 p) ∧
    ((((W.setCell ⟨w.heap.size + 1, 0, none⟩ v).setCell ⟨w.heap.size + 1, 1, none⟩ (.int .i64 k)).setCell ⟨w.heap.size + 1, 2, none⟩ (.int .i64 p)).setCell ⟨w.heap.size + 1, 3, none⟩ (.bool t)).cell? ⟨w.heap.size + 1, 3, none⟩ = some (.bool t) ∧
    Below w.heap.size w ((((W.setCell ⟨w.heap.size + 1, 0, none⟩ v).setCell ⟨w.heap.size + 1, 1, none⟩ (.int .i64 k)).setCell ⟨w.heap.size + 1, 2, none⟩ (.int .i64 p)).setCell ⟨w.heap.size + 1, 3, none⟩ (.bool t)) := by
  have r := (((h.res.set 0 v).set 1 (.int .i64 k)).set 2 (.int .i64 p)).set 3 (.bool t)
  have hle : w.heap.size ≤ w.heap.size + 1 := by omega
  exact ⟨(r.cell (i := 0) (by omega)).trans (by simp), (r.cell (i := 1) (by omega)).trans (by simp), (r.cell (i := 2) (by omega)).trans (by simp), (r.cell (i := 3) (by omega)).trans (by simp), (((h.be.setCell hle _).setCell hle _).setCell hle _).setCell hle _⟩
end
set_option maxRecDepth 100000 in
set_option maxHeartbeats 4000000 in
theorem rlist_no (x : Cfg) (hr : rightB x = false) (cls : Int) (A : Option Addr) (N cw : Nat) (w : World) : Calls Tryz.prog 20 #[(.agg #[.int .i64 x.t, .int .i64 x.s, .int .i64 x.l, .int .i64 x.c, .int .i64 x.s0, .int .i64 x.n0, .int .i64 x.s1, .int .i64 x.n1, .int .i64 x.r]), .slice A N cw, .int .i64 cls] w fun e w' => e = .returned (.agg #[.slice none 0 0, .int .i64 1, .int .i64 0, .bool false]) ∧ Below w.heap.size w w' := by
  have HRB := Lib.hid hr
  clear hr
  go_enter Tryz.func20, Tryz.ntmps20
  go_wp2_with fail
  have K0 := Lib.hid (RB.start w x)
  generalize ((w.alloc (.cells #[.int .i64 x.t, .int .i64 x.s, .int .i64 x.l, .int .i64 x.c, .int .i64 x.s0, .int .i64 x.n0, .int .i64 x.s1, .int .i64 x.n1, .int .i64 x.r] 30)).alloc (.cells #[.slice none 0 0, .int .i64 0, .int .i64 0, .bool false] 62)) = Wa at K0 ⊢
  refine (r4Right_any x _).mono ?_
  rintro e w1 ⟨rfl, hb⟩
  rw [HRB.out]
  have KX := Lib.hid (K0.out.below hb)
  clear hb K0
  have p0 := KX.out.res.cell (i := 0) (by omega)
  have p1 := KX.out.res.cell (i := 1) (by omega)
  have p2 := KX.out.res.cell (i := 2) (by omega)
  have p3 := KX.out.res.cell (i := 3) (by omega)
  simp only [toldZ] at p0 p1 p2 p3
  have fr := KX.out.res.frozen
  go_wp2_with fail
  obtain ⟨q0, q1, q2, q3, q5⟩ := KX.out.put (.slice none 0 0) 1 0 false
  clear p0 p1 p2 p3
  generalize (((w1.setCell ⟨w.heap.size + 1, 0, none⟩ (.slice none 0 0)).setCell ⟨w.heap.size + 1, 1, none⟩ (.int .i64 1)).setCell ⟨w.heap.size + 1, 2, none⟩ (.int .i64 0)).setCell ⟨w.heap.size + 1, 3, none⟩ (.bool false) = W9 at q0 q1 q2 q3 q5 ⊢
  exact bodyPost_ret (v := .agg #[.slice none 0 0, .int .i64 1, .int .i64 0, .bool false]) (by simp [results, Tryz.results20, go_sem, q0, q1, q2, q3]) rfl ⟨rfl, q5⟩
set_option maxRecDepth 100000 in
set_option maxHeartbeats 4000000 in
theorem rlist_neg (x : Cfg) (hr : Right x) (cls : Int) (hc : cls < 0) (A : Option Addr) (N cw : Nat) (w : World) : Calls Tryz.prog 20 #[(.agg #[.int .i64 x.t, .int .i64 x.s, .int .i64 x.l, .int .i64 x.c, .int .i64 x.s0, .int .i64 x.n0, .int .i64 x.s1, .int .i64 x.n1, .int .i64 x.r]), .slice A N cw, .int .i64 cls] w fun e w' => e = .returned (.agg #[.slice none 0 0, .int .i64 1, .int .i64 0, .bool false]) ∧ Below w.heap.size w w' := by
  have HRB := Lib.hid (rightB_true hr)
  have dn : decide (cls < 0) = true := decide_eq_true hc
  clear hr hc
  go_enter Tryz.func20, Tryz.ntmps20
  go_wp2_with fail
  have K0 := Lib.hid (RB.start w x)
  generalize ((w.alloc (.cells #[.int .i64 x.t, .int .i64 x.s, .int .i64 x.l, .int .i64 x.c, .int .i64 x.s0, .int .i64 x.n0, .int .i64 x.s1, .int .i64 x.n1, .int .i64 x.r] 30)).alloc (.cells #[.slice none 0 0, .int .i64 0, .int .i64 0, .bool false] 62)) = Wa at K0 ⊢
  refine (r4Right_any x _).mono ?_
  rintro e w1 ⟨rfl, hb⟩
  rw [HRB.out]
  have KX := Lib.hid (K0.out.below hb)
  clear hb K0
  have p0 := KX.out.res.cell (i := 0) (by omega)
  have p1 := KX.out.res.cell (i := 1) (by omega)
  have p2 := KX.out.res.cell (i := 2) (by omega)
  have p3 := KX.out.res.cell (i := 3) (by omega)
  simp only [toldZ] at p0 p1 p2 p3
  have fr := KX.out.res.frozen
  go_wp2_with fail
  obtain ⟨q0, q1, q2, q3, q5⟩ := KX.out.put (.slice none 0 0) 1 0 false
  clear p0 p1 p2 p3
  generalize (((w1.setCell ⟨w.heap.size + 1, 0, none⟩ (.slice none 0 0)).setCell ⟨w.heap.size + 1, 1, none⟩ (.int .i64 1)).setCell ⟨w.heap.size + 1, 2, none⟩ (.int .i64 0)).setCell ⟨w.heap.size + 1, 3, none⟩ (.bool false) = W9 at q0 q1 q2 q3 q5 ⊢
  exact bodyPost_ret (v := .agg #[.slice none 0 0, .int .i64 1, .int .i64 0, .bool false]) (by simp [results, Tryz.results20, go_sem, q0, q1, q2, q3]) rfl ⟨rfl, q5⟩
set_option maxRecDepth 100000 in
set_option maxHeartbeats 4000000 in
theorem rlist_big (x : Cfg) (hr : Right x) (cls : Int) (hc : 1 < cls) (A : Option Addr) (N cw : Nat) (w : World) : Calls Tryz.prog 20 #[(.agg #[.int .i64 x.t, .int .i64 x.s, .int .i64 x.l, .int .i64 x.c, .int .i64 x.s0, .int .i64 x.n0, .int .i64 x.s1, .int .i64 x.n1, .int .i64 x.r]), .slice A N cw, .int .i64 cls] w fun e w' => e = .returned (.agg #[.slice none 0 0, .int .i64 1, .int .i64 0, .bool false]) ∧ Below w.heap.size w w' := by
  have HRB := Lib.hid (rightB_true hr)
  have dn : decide (cls < 0) = false := by simp; omega
  have dc : decide ((1 : Int) < cls) = true := decide_eq_true hc
  clear hr hc
  go_enter Tryz.func20, Tryz.ntmps20
  go_wp2_with fail
  have K0 := Lib.hid (RB.start w x)
  generalize ((w.alloc (.cells #[.int .i64 x.t, .int .i64 x.s, .int .i64 x.l, .int .i64 x.c, .int .i64 x.s0, .int .i64 x.n0, .int .i64 x.s1, .int .i64 x.n1, .int .i64 x.r] 30)).alloc (.cells #[.slice none 0 0, .int .i64 0, .int .i64 0, .bool false] 62)) = Wa at K0 ⊢
  refine (r4Right_any x _).mono ?_
  rintro e w1 ⟨rfl, hb⟩
  rw [HRB.out]
  have KX := Lib.hid (K0.out.below hb)
  clear hb K0
  have p0 := KX.out.res.cell (i := 0) (by omega)
  have p1 := KX.out.res.cell (i := 1) (by omega)
  have p2 := KX.out.res.cell (i := 2) (by omega)
  have p3 := KX.out.res.cell (i := 3) (by omega)
  simp only [toldZ] at p0 p1 p2 p3
  have fr := KX.out.res.frozen
  go_wp2_with fail
  obtain ⟨q0, q1, q2, q3, q5⟩ := KX.out.put (.slice none 0 0) 1 0 false
  clear p0 p1 p2 p3
  generalize (((w1.setCell ⟨w.heap.size + 1, 0, none⟩ (.slice none 0 0)).setCell ⟨w.heap.size + 1, 1, none⟩ (.int .i64 1)).setCell ⟨w.heap.size + 1, 2, none⟩ (.int .i64 0)).setCell ⟨w.heap.size + 1, 3, none⟩ (.bool false) = W9 at q0 q1 q2 q3 q5 ⊢
  exact bodyPost_ret (v := .agg #[.slice none 0 0, .int .i64 1, .int .i64 0, .bool false]) (by simp [results, Tryz.results20, go_sem, q0, q1, q2, q3]) rfl ⟨rfl, q5⟩
set_option maxRecDepth 100000 in
set_option maxHeartbeats 4000000 in
theorem rlist_len (x : Cfg) (hr : Right x) (cls : Int) (hc : 0 ≤ cls ∧ cls ≤ 1) (A : Option Addr) (N cw : Nat) (w : World) (hN : ¬ sizeC x = (N : Int)) : Calls Tryz.prog 20 #[(.agg #[.int .i64 x.t, .int .i64 x.s, .int .i64 x.l, .int .i64 x.c, .int .i64 x.s0, .int .i64 x.n0, .int .i64 x.s1, .int .i64 x.n1, .int .i64 x.r]), .slice A N cw, .int .i64 cls] w fun e w' => e = .returned (.agg #[.slice none 0 0, .int .i64 23, .int .i64 0, .bool false]) ∧ Below w.heap.size w w' := by
  have HRB := Lib.hid (rightB_true hr)
  have HR := Lib.hid hr
  have dn : decide (cls < 0) = false := by simp; omega
  have dc : decide ((1 : Int) < cls) = false := by simp; omega
  clear hr hc
  go_enter Tryz.func20, Tryz.ntmps20
  go_wp2_with fail
  have K0 := Lib.hid (RB.start w x)
  generalize ((w.alloc (.cells #[.int .i64 x.t, .int .i64 x.s, .int .i64 x.l, .int .i64 x.c, .int .i64 x.s0, .int .i64 x.n0, .int .i64 x.s1, .int .i64 x.n1, .int .i64 x.r] 30)).alloc (.cells #[.slice none 0 0, .int .i64 0, .int .i64 0, .bool false] 62)) = Wa at K0 ⊢
  refine (r4Right_any x _).mono ?_
  rintro e w1 ⟨rfl, hb⟩
  rw [HRB.out]
  have KX := Lib.hid (K0.out.below hb)
  clear hb K0
  have p0 := KX.out.res.cell (i := 0) (by omega)
  have p1 := KX.out.res.cell (i := 1) (by omega)
  have p2 := KX.out.res.cell (i := 2) (by omega)
  have p3 := KX.out.res.cell (i := 3) (by omega)
  simp only [toldZ] at p0 p1 p2 p3
  have fr := KX.out.res.frozen
  obtain ⟨c0, c1, c2, c3, c4, c5, c6, c7, c8⟩ := KX.out.cfg.cells
  clear p0 p1 p2 p3 fr
  go_wp2_with fail
  refine (r4Size_any x _ HR.out).mono ?_
  rintro e w2 ⟨rfl, hb⟩
  replace KX := Lib.hid (KX.out.below hb)
  clear hb c0 c1 c2 c3 c4 c5 c6 c7 c8
  have p0 := KX.out.res.cell (i := 0) (by omega)
  have p1 := KX.out.res.cell (i := 1) (by omega)
  have p2 := KX.out.res.cell (i := 2) (by omega)
  have p3 := KX.out.res.cell (i := 3) (by omega)
  simp only [toldZ] at p0 p1 p2 p3
  have fr := KX.out.res.frozen
  have HSZ := Lib.hid hN
  generalize sizeC x = Z at hN ⊢
  have dz : ((N : Int) == Z) = false := by simp; omega
  clear hN
  go_wp2_with fail
  obtain ⟨q0, q1, q2, q3, q5⟩ := KX.out.put (.slice none 0 0) 23 0 false
  clear p0 p1 p2 p3
  generalize (((w2.setCell ⟨w.heap.size + 1, 0, none⟩ (.slice none 0 0)).setCell ⟨w.heap.size + 1, 1, none⟩ (.int .i64 23)).setCell ⟨w.heap.size + 1, 2, none⟩ (.int .i64 0)).setCell ⟨w.heap.size + 1, 3, none⟩ (.bool false) = W9 at q0 q1 q2 q3 q5 ⊢
  exact bodyPost_ret (v := .agg #[.slice none 0 0, .int .i64 23, .int .i64 0, .bool false]) (by simp [results, Tryz.results20, go_sem, q0, q1, q2, q3]) rfl ⟨rfl, q5⟩

end Go.Proofs.YtkpffnihnhlghaaGreatDoor
