/- The runs that give a block back: in memory; each of their steps. -/
import Derived.Test.YtkpffnihnhlghaaDoorOStep
namespace Go.Proofs.YtkpffnihnhlghaaDoor
open Go.RowKit
/-- A run that gives a block back: its class; the head that it saw; its block; the word of the block's head; its next step (0: none). -/
structure GK where
  C : Int
  X : Nat
  b : Int
  wd : Int
  k : Nat
def nextG (q : Nat) : Nat → Value
  | 0 => .nilFunc
  | 1 => .func (.func 85) #[.pointer (some ⟨q, 0, none⟩)] #[]
  | 2 => .func (.func 125) #[.pointer (some ⟨q, 0, none⟩)] #[]
  | _ => .func (.func 147) #[.pointer (some ⟨q, 0, none⟩)] #[]
def giveC (q : Nat) (t : GK) : Nat → Value
  | 0 => .int .i64 t.C
  | 1 => .int .u64 (t.X : Int)
  | 2 => .int .i64 t.b
  | 3 => .int .i64 t.wd
  | _ => nextG q t.k
def GiveAt (W : World) (q : Nat) (t : GK) : Prop := W.rowIs q 147 5 (giveC q t)
theorem GiveAt.below {W W' : World} {q : Nat} {t : GK} (h : GiveAt W q t) (hb : Below W.heap.size W W') : GiveAt W' q t := World.rowIs.of_block h (hb.block _ (World.rowIs.lt h))
theorem GiveAt.set {W : World} {q : Nat} {t t' : GK} (h : GiveAt W q t) (i : Nat) (v : Value) (e : ∀ j, j < 5 → (if j = i then v else giveC q t j) = giveC q t' j) : GiveAt (W.setCell ⟨q, i, none⟩ v) q t' := (World.rowIs.set h i v).congr e
/-- The run, the arena; what has changed since. -/
structure GH (w : World) (q p c n : Nat) (t : GK) (y : St) (W : World) : Prop where
  ta : GiveAt W q t
  ar : ArS W p c n y
  onl : OnlS [q, p, c] w W
  qp : q ≠ p
  qc : q ≠ c
section
variable {w W W' : World} {q p c n : Nat} {t : GK} {y : St}
theorem GH.all (h : GH w q p c n t y W) : W.cell? ⟨q, 0, none⟩ = some (.int .i64 t.C) ∧ W.cell? ⟨q, 1, none⟩ = some (.int .u64 (t.X : Int)) ∧ W.cell? ⟨q, 2, none⟩ = some (.int .i64 t.b) ∧ W.cell? ⟨q, 3, none⟩ = some (.int .i64 t.wd) ∧ W.cell? ⟨q, 4, none⟩ = some (nextG q t.k) :=
  ⟨World.rowIs.cell h.ta (i := 0) (by omega), World.rowIs.cell h.ta (i := 1) (by omega), World.rowIs.cell h.ta (i := 2) (by omega), World.rowIs.cell h.ta (i := 3) (by omega), World.rowIs.cell h.ta (i := 4) (by omega)⟩
theorem GH.frozen (h : GH w q p c n t y W) (j : Nat) : W.frozen? ⟨q, j, none⟩ = false := World.rowIs.frozen h.ta j
theorem GH.below (h : GH w q p c n t y W) (hb : Below W.heap.size W W') : GH w q p c n t y W' :=
  ⟨h.ta.below hb, Ar.below h.ar hb h.ar.obj.lt h.ar.row.lt, h.onl.trans (OnlS.of_below hb), h.qp, h.qc⟩
theorem GH.drew (h : GH w q p c n t y W) : GH w q p c n t y W.drew := h.below (Below.refl _ _).drew
theorem GH.set (h : GH w q p c n t y W) (i : Nat) (v : Value) (t' : GK) (e : ∀ j, j < 5 → (if j = i then v else giveC q t j) = giveC q t' j) : GH w q p c n t' y (W.setCell ⟨q, i, none⟩ v) :=
  ⟨h.ta.set i v e, Ar.setOther h.ar (fun e => h.qp e.symm) (fun e => h.qc e.symm) v, h.onl.set (by simp) v, h.qp, h.qc⟩
theorem GH.arena (h : GH w q p c n t y W) {y' : St} (hA : ArS W' p c n y') (hO : Only p c W W') : GH w q p c n t y' W' :=
  ⟨World.rowIs.of_block h.ta (hO.block _ (World.rowIs.lt h.ta) h.qp h.qc), hA, h.onl.trans (OnlS.of_only hO (by simp) (by simp)), h.qp, h.qc⟩
end
set_option maxRecDepth 100000 in
set_option maxHeartbeats 1000000 in
theorem ogdone_none (W : World) (q : Nat) (c4 : W.cell? ⟨q, 4, none⟩ = some .nilFunc) : Calls Tryd.prog 31 #[.pointer (some ⟨q, 0, none⟩)] W fun e W' => e = .returned (.bool true) ∧ W = W' := by
  have hq := eq_nn
  go_enter Tryd.func31, Tryd.ntmps31
  go_wp2
  go_ret
  exact ⟨rfl, rfl⟩
set_option maxRecDepth 100000 in
set_option maxHeartbeats 1000000 in
theorem ogdone_some (W : World) (q : Nat) (fn : Fn) (first cap : Array Value) (c4 : W.cell? ⟨q, 4, none⟩ = some (.func fn first cap)) : Calls Tryd.prog 31 #[.pointer (some ⟨q, 0, none⟩)] W fun e W' => e = .returned (.bool false) ∧ W = W' := by
  have hq := eq_fn
  go_enter Tryd.func31, Tryd.ntmps31
  go_wp2
  go_ret
  exact ⟨rfl, rfl⟩
theorem ogdone_any (W : World) (q : Nat) (k : Nat) (c4 : W.cell? ⟨q, 4, none⟩ = some (nextG q k)) : Calls Tryd.prog 31 #[.pointer (some ⟨q, 0, none⟩)] W fun e W' => e = .returned (.bool (decide (k = 0))) ∧ W = W' :=
  match k, c4 with
  | 0, h => ogdone_none W q h
  | 1, h => ogdone_some W q _ _ _ h
  | 2, h => ogdone_some W q _ _ _ h
  | k + 3, h => by rw [decide_eq_false (by omega)]; exact ogdone_some W q _ _ _ h
set_option maxRecDepth 100000 in
theorem ogdone_nil (W : World) : Calls Tryd.prog 31 #[.pointer none] W fun e W' => e = .returned (.bool true) ∧ W = W' := by
  go_enter Tryd.func31, Tryd.ntmps31
  go_wp2
  go_ret
  exact ⟨rfl, rfl⟩
set_option maxRecDepth 100000 in
theorem ogstep_nil (P : Value) (W : World) : Calls Tryd.prog 29 #[.pointer none, P] W fun e W' => e = .returned (.bool true) ∧ W = W' := by
  go_enter Tryd.func29, Tryd.ntmps29
  go_wp2_with fail
  refine (ogdone_nil _).mono ?_
  rintro e w1 ⟨rfl, rfl⟩
  go_wp2_with fail
  refine (ogdone_nil _).mono ?_
  rintro e w1 ⟨rfl, rfl⟩
  go_wp2
  go_ret
  exact ⟨rfl, rfl⟩
set_option maxRecDepth 100000 in
set_option maxHeartbeats 4000000 in
theorem gf_any (w : World) (q p c n : Nat) (t : GK) (y : St) (hC : 0 ≤ t.C ∧ t.C ≤ 1) (h0 : 0 ≤ y.s) (h1 : y.s < 1000000) (X : Nat) (hX : y.loaded n (3 + t.C) = (X : Int)) (t' : GK) (ht' : t' = { t with X := X, k := 2 }) (W : World) (h : GH w q p c n t y W) :
    Calls Tryd.prog 85 #[.pointer (some ⟨q, 0, none⟩), .pointer (some ⟨p, 0, none⟩)] W fun e W' => e = .returned (.tuple #[]) ∧ GH w q p c n t' (y.load n (3 + t.C)) W' := by
  have hmk := mk_funcA
  have HT := Lib.hid ht'
  have K0 := Lib.hid h
  obtain ⟨c0, c1, c2, c3, c4⟩ := h.all
  have f1 := h.frozen 1
  have hql := World.rowIs.lt h.ta
  have qp := h.qp
  have qc := h.qc
  clear h ht'
  go_enter Tryd.func85, Tryd.ntmps85
  go_wp2_with fail
  refine (look_any W q p c n y K0.out.ar h0 h1 t.C hC _ hql qp qc c0 c1 f1).mono ?_
  rintro e W2 ⟨W1, rfl, hA, hO, rfl⟩
  rw [hX]
  have K1 := Lib.hid ((K0.out.arena hA hO).set 1 (.int .u64 (X : Int)) { t with X := X } (by intro j hj; match j, hj with | 0, _ => rfl | 1, _ => rfl | 2, _ => rfl | 3, _ => rfl | 4, _ => rfl))
  clear hA hO c0 c1 c2 c3 c4 f1 K0 hql
  generalize W1.setCell ⟨q, 1, none⟩ (.int .u64 (X : Int)) = W2 at K1 ⊢
  obtain ⟨c0, c1, c2, c3, c4⟩ := K1.out.all
  have f4 := K1.out.frozen 4
  go_wp2
  go_end0
  refine ⟨rfl, ?_⟩
  rw [HT.out]
  exact K1.out.set 4 (nextG q 2) { t with X := X, k := 2 } (by intro j hj; match j, hj with | 0, _ => rfl | 1, _ => rfl | 2, _ => rfl | 3, _ => rfl | 4, _ => rfl)
theorem cvI_any (B : Nat) (h : B < 4294967296) (W : World) : (convert 3 29 (Value.int .i64 (B : Int))).run Tryd.prog W = Result.ok (Value.int .u64 (B : Int)) W := by
  have hwr : IntKind.u64.wrap (B : Int) = (B : Int) := IntWalk.u64_in (B : Int) (by omega)
  go_simp
set_option maxRecDepth 100000 in
set_option maxHeartbeats 4000000 in
theorem gl_any (w : World) (q p c n : Nat) (t : GK) (y : St) (h0 : 0 ≤ y.s) (h1 : y.s < 1000000) (t' : GK) (ht' : t' = { t with k := 3 }) (W : World) (h : GH w q p c n t y W) :
    Calls Tryd.prog 125 #[.pointer (some ⟨q, 0, none⟩), .pointer (some ⟨p, 0, none⟩)] W fun e W' => e = .returned (.tuple #[]) ∧ GH w q p c n t' (y.store n t.wd ((t.X % 4294967296 : Nat) : Int)) W' := by
  have hmk := mk_funcA
  obtain ⟨B, hB⟩ : ∃ B : Nat, t.X % 4294967296 = B := ⟨_, rfl⟩
  have hcv := cvI_any B (by omega)
  have HFI : Hid (∀ W : World, W.cell? ⟨q, 1, none⟩ = some (.int .u64 (t.X : Int)) → Calls Tryd.prog 123 #[.pointer (some ⟨q, 0, none⟩)] W fun e W' => e = .returned (.int .i64 (B : Int)) ∧ W = W') := Lib.hid fun W h => by
    have k := first_any W q t.X h
    rw [hB] at k
    exact k
  rw [hB]
  have HST : Hid (∀ W : World, ArS W p c n y → Calls Tryd.prog 66 #[.pointer (some ⟨p, 0, none⟩), .int .i64 t.wd, .int .u64 (B : Int)] W fun e W' => e = .returned (.tuple #[]) ∧ Hid (ArS W' p c n (y.store n t.wd (B : Int)) ∧ Only p c W W')) := Lib.hid fun W h => (store_any W p c n y h h0 h1 t.wd (B : Int)).mono fun _ _ ⟨a, b, d⟩ => ⟨a, Lib.hid ⟨b, d⟩⟩
  clear hB h0 h1
  have HT := Lib.hid ht'
  have K0 := Lib.hid h.drew
  obtain ⟨c0, c1, c2, c3, c4⟩ := h.drew.all
  clear h ht'
  go_enter Tryd.func125, Tryd.ntmps125
  go_upto_region 0 with (fail)
  go_region_held3 (fun w' => w'.cell? ⟨q, 1, none⟩ = some (.int .u64 (t.X : Int)) ∧ w'.cell? ⟨q, 3, none⟩ = some (.int .i64 t.wd)) (first | exact ⟨c1, c3⟩ | exact ⟨by assumption, by assumption⟩) (first
    | (go_at_call 123; refine (HFI.out _ c1).mono ?_; rintro e w5 ⟨rfl, rfl⟩)
    | (go_at_call 66; refine (HST.out _ K0.out.ar).mono ?_; rintro e w6 ⟨rfl, hAO⟩; have K6 := Lib.hid (K0.out.arena hAO.out.1 hAO.out.2); clear c0 c1 c2 c3 c4; obtain ⟨c0, c1, c2, c3, c4⟩ := K6.out.all; have f4 := K6.out.frozen 4))
  all_goals
    go_wp2
    go_end0
    refine ⟨rfl, ?_⟩
    rw [HT.out]
    exact K6.out.set 4 (nextG q 3) { t with k := 3 } (by intro j hj; match j, hj with | 0, _ => rfl | 1, _ => rfl | 2, _ => rfl | 3, _ => rfl | 4, _ => rfl)
set_option maxRecDepth 100000 in
set_option maxHeartbeats 4000000 in
theorem gp_any (w : World) (q p c n : Nat) (t : GK) (y : St) (hC : 0 ≤ t.C ∧ t.C ≤ 1) (h0 : 0 ≤ y.s) (h1 : y.s < 1000000) (hX : t.X < 18446744073709551616) (z : Int) (hz : ((t.X : Int) / 4294967296 + 1) % 4294967296 * 4294967296 + t.b % 4294967296 = z) (sw : Bool) (hsw : y.swapped n (3 + t.C) t.X = sw) (t' : GK) (ht' : t' = if sw then { t with k := 0 } else { t with k := 1 }) (W : World) (h : GH w q p c n t y W) :
    Calls Tryd.prog 147 #[.pointer (some ⟨q, 0, none⟩), .pointer (some ⟨p, 0, none⟩)] W fun e W' => e = .returned (.tuple #[]) ∧ GH w q p c n t' (y.swap n (3 + t.C) t.X z) W' := by
  have hmk := mk_funcA
  have HTN : Hid (∀ (W : World) (s : GK), GH w q p c n s y W → s.C = t.C → s.X = t.X → Calls Tryd.prog 156 #[.pointer (some ⟨q, 0, none⟩), .pointer (some ⟨p, 0, none⟩), .int .i64 t.b] W fun e W' => e = .returned (.bool sw) ∧ GH w q p c n s (y.swap n (3 + t.C) t.X z) W') := Lib.hid fun W s h e1 e2 => by
    obtain ⟨c0, c1, -⟩ := h.all
    rw [e1] at c0
    rw [e2] at c1
    exact (wturn_any W q p c n y h.ar h0 h1 t.C hC t.X hX t.b z (3 + t.C) sw rfl hsw hz (World.rowIs.lt h.ta) h.qp h.qc c0 c1).mono fun _ _ ⟨a, b, d⟩ => ⟨a, h.arena b d⟩
  clear hsw hz hX h0 h1
  have HT := Lib.hid ht'
  have K0 := Lib.hid (h.set 4 .nilFunc { t with k := 0 } (by intro j hj; match j, hj with | 0, _ => rfl | 1, _ => rfl | 2, _ => rfl | 3, _ => rfl | 4, _ => rfl))
  obtain ⟨c0, c1, c2, c3, c4⟩ := h.all
  have f4 := h.frozen 4
  clear h ht'
  go_enter Tryd.func147, Tryd.ntmps147
  go_upto_region 1 with (fail)
  generalize W.setCell ⟨q, 4, none⟩ .nilFunc = Wa at K0 ⊢
  clear c0 c1 c2 c3 c4 f4
  obtain ⟨c0, c1, c2, c3, c4⟩ := K0.out.drew.all
  go_region_held3 (fun w' => w'.cell? ⟨q, 2, none⟩ = some (.int .i64 t.b)) (first | exact c2 | assumption)
    ((go_at_call 156; refine (HTN.out _ _ K0.out.drew rfl rfl).mono ?_; rintro e w5 ⟨rfl, hK⟩; have K5 := Lib.hid hK; clear hK c0 c1 c2 c3 c4; obtain ⟨c0, c1, c2, c3, c4⟩ := K5.out.all; have f4 := K5.out.frozen 4))
  all_goals
    cases sw
    · go_wp2
      go_end0
      refine ⟨rfl, ?_⟩
      rw [HT.out]
      exact K5.out.set 4 (nextG q 1) { t with k := 1 } (by intro j hj; match j, hj with | 0, _ => rfl | 1, _ => rfl | 2, _ => rfl | 3, _ => rfl | 4, _ => rfl)
    · go_wp2
      go_end0
      refine ⟨rfl, ?_⟩
      rw [HT.out]
      exact K5.out
/-- What a run that gives does next, and what becomes of the arena. -/
def gkNext (n : Nat) (t : GK) (y : St) : GK × St := match t.k with
  | 0 => (t, y)
  | 1 => ({ t with X := (y.loaded n (3 + t.C)).toNat, k := 2 }, y.load n (3 + t.C))
  | 2 => ({ t with k := 3 }, y.store n t.wd ((t.X % 4294967296 : Nat) : Int))
  | _ => (if y.swapped n (3 + t.C) (t.X : Int) then { t with k := 0 } else { t with k := 1 }, y.swap n (3 + t.C) (t.X : Int) (turnI t.X t.b))
set_option maxRecDepth 100000 in
set_option maxHeartbeats 2000000 in
theorem ogstep_any (w : World) (q p c n : Nat) (t : GK) (y : St) (hk3 : t.k ≤ 3) (hC : 0 ≤ t.C ∧ t.C ≤ 1) (h0 : 0 ≤ y.s) (h1 : y.s < 1000000) (hX : t.X < 18446744073709551616) (hok : OkW y n) (W : World) (h : GH w q p c n t y W) :
    Calls Tryd.prog 29 #[.pointer (some ⟨q, 0, none⟩), .pointer (some ⟨p, 0, none⟩)] W fun e W' => e = .returned (.bool (decide ((gkNext n t y).1.k = 0))) ∧ GH w q p c n (gkNext n t y).1 (gkNext n t y).2 W' := by
  have K0 := Lib.hid h
  have HOK := Lib.hid hok
  have c4 := World.rowIs.cell h.ta (i := 4) (by omega)
  replace c4 : W.cell? ⟨q, 4, none⟩ = some (nextG q t.k) := c4
  clear h hok
  rcases (show t.k = 0 ∨ t.k = 1 ∨ t.k = 2 ∨ t.k = 3 by omega) with hk | hk | hk | hk
  · rw [hk] at c4
    simp only [nextG] at c4
    have e1 : gkNext n t y = (t, y) := by unfold gkNext; rw [hk]; rfl
    rw [e1]
    have HK := Lib.hid hk
    clear e1 hk
    go_enter Tryd.func29, Tryd.ntmps29
    go_wp2_with fail
    refine (ogdone_none _ q c4).mono ?_
    rintro e w1 ⟨rfl, rfl⟩
    go_wp2_with fail
    refine (ogdone_none _ q c4).mono ?_
    rintro e w1 ⟨rfl, rfl⟩
    go_wp2
    go_ret
    exact ⟨by rw [HK.out]; rfl, K0.out⟩
  · rw [hk] at c4
    have c4' : W.cell? ⟨q, 4, none⟩ = some (.func (.func 85) #[.pointer (some ⟨q, 0, none⟩)] #[]) := c4
    clear c4
    have e1 : gkNext n t y = ({ t with X := (y.loaded n (3 + t.C)).toNat, k := 2 }, y.load n (3 + t.C)) := by unfold gkNext; rw [hk]; rfl
    have HCALL := Lib.hid (gf_any w q p c n t y hC h0 h1 (y.loaded n (3 + t.C)).toNat (by have := (HOK.out.loaded (n := n) (3 + t.C)).1; omega) _ rfl _ K0.out)
    obtain ⟨T, hT⟩ : ∃ T, gkNext n t y = T := ⟨_, rfl⟩
    have hT1 := e1.symm.trans hT
    rw [hT]
    have HCALL2 : Hid (Calls Tryd.prog 85 #[.pointer (some ⟨q, 0, none⟩), .pointer (some ⟨p, 0, none⟩)] W fun e W' => e = .returned (.tuple #[]) ∧ Hid (GH w q p c n T.1 T.2 W')) := Lib.hid (by rw [← hT1]; exact HCALL.out.mono fun _ _ ⟨a, b⟩ => ⟨a, Lib.hid b⟩)
    clear HCALL e1 hT hT1 hk hC h0 h1 hX HOK
    go_enter Tryd.func29, Tryd.ntmps29
    go_wp2_with fail
    refine (ogdone_some _ q _ _ _ c4').mono ?_
    rintro e w1 ⟨rfl, rfl⟩
    go_wp2_with fail
    refine HCALL2.out.mono ?_
    rintro e w2 ⟨rfl, K2⟩
    have d4 := World.rowIs.cell K2.out.ta (i := 4) (by omega)
    clear c4'
    go_wp2_with fail
    refine (ogdone_any _ q T.1.k d4).mono ?_
    rintro e w3 ⟨rfl, rfl⟩
    go_wp2
    go_ret
    exact ⟨rfl, K2.out⟩
  · rw [hk] at c4
    have c4' : W.cell? ⟨q, 4, none⟩ = some (.func (.func 125) #[.pointer (some ⟨q, 0, none⟩)] #[]) := c4
    clear c4
    have e1 : gkNext n t y = ({ t with k := 3 }, y.store n t.wd ((t.X % 4294967296 : Nat) : Int)) := by unfold gkNext; rw [hk]; rfl
    have HCALL := Lib.hid (gl_any w q p c n t y h0 h1 _ rfl _ K0.out)
    obtain ⟨T, hT⟩ : ∃ T, gkNext n t y = T := ⟨_, rfl⟩
    have hT1 := e1.symm.trans hT
    rw [hT]
    have HCALL2 : Hid (Calls Tryd.prog 125 #[.pointer (some ⟨q, 0, none⟩), .pointer (some ⟨p, 0, none⟩)] W fun e W' => e = .returned (.tuple #[]) ∧ Hid (GH w q p c n T.1 T.2 W')) := Lib.hid (by rw [← hT1]; exact HCALL.out.mono fun _ _ ⟨a, b⟩ => ⟨a, Lib.hid b⟩)
    clear HCALL e1 hT hT1 hk hC h0 h1 hX HOK
    go_enter Tryd.func29, Tryd.ntmps29
    go_wp2_with fail
    refine (ogdone_some _ q _ _ _ c4').mono ?_
    rintro e w1 ⟨rfl, rfl⟩
    go_wp2_with fail
    refine HCALL2.out.mono ?_
    rintro e w2 ⟨rfl, K2⟩
    have d4 := World.rowIs.cell K2.out.ta (i := 4) (by omega)
    clear c4'
    go_wp2_with fail
    refine (ogdone_any _ q T.1.k d4).mono ?_
    rintro e w3 ⟨rfl, rfl⟩
    go_wp2
    go_ret
    exact ⟨rfl, K2.out⟩
  · rw [hk] at c4
    have c4' : W.cell? ⟨q, 4, none⟩ = some (.func (.func 147) #[.pointer (some ⟨q, 0, none⟩)] #[]) := c4
    clear c4
    have e1 : gkNext n t y = (if y.swapped n (3 + t.C) (t.X : Int) then { t with k := 0 } else { t with k := 1 }, y.swap n (3 + t.C) (t.X : Int) (turnI t.X t.b)) := by unfold gkNext; rw [hk]; cases y.swapped n (3 + t.C) (t.X : Int) <;> rfl
    have HCALL := Lib.hid (gp_any w q p c n t y hC h0 h1 hX _ rfl _ rfl _ rfl _ K0.out)
    obtain ⟨T, hT⟩ : ∃ T, gkNext n t y = T := ⟨_, rfl⟩
    have hT1 := e1.symm.trans hT
    rw [hT]
    have HCALL2 : Hid (Calls Tryd.prog 147 #[.pointer (some ⟨q, 0, none⟩), .pointer (some ⟨p, 0, none⟩)] W fun e W' => e = .returned (.tuple #[]) ∧ Hid (GH w q p c n T.1 T.2 W')) := Lib.hid (by rw [← hT1]; exact HCALL.out.mono fun _ _ ⟨a, b⟩ => ⟨a, Lib.hid b⟩)
    clear HCALL e1 hT hT1 hk hC h0 h1 hX HOK
    go_enter Tryd.func29, Tryd.ntmps29
    go_wp2_with fail
    refine (ogdone_some _ q _ _ _ c4').mono ?_
    rintro e w1 ⟨rfl, rfl⟩
    go_wp2_with fail
    refine HCALL2.out.mono ?_
    rintro e w2 ⟨rfl, K2⟩
    have d4 := World.rowIs.cell K2.out.ta (i := 4) (by omega)
    clear c4'
    go_wp2_with fail
    refine (ogdone_any _ q T.1.k d4).mono ?_
    rintro e w3 ⟨rfl, rfl⟩
    go_wp2
    go_ret
    exact ⟨rfl, K2.out⟩

end Go.Proofs.YtkpffnihnhlghaaDoor
