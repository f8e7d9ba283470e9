/- The runs that take a block: in memory; each of their steps. -/
import Derived.Test.YtkpffnihnhlghaaDoorOBase
import Derived.Test.YtkpffnihnhlghaaDoorPMkRe
import Derived.Test.YtkpffnihnhlghaaDoorPMake
namespace Go.Proofs.YtkpffnihnhlghaaDoor
open Go.RowKit
/-- A run that takes a block: its class; the head that it saw; what is behind; the block that it has; its next step (0: none). -/
structure TK where
  C : Int
  X : Nat
  r : Int
  b : Int
  k : Nat
def nextV (q : Nat) : Nat → Value
  | 0 => .nilFunc
  | 1 => .func (.func 82) #[.pointer (some ⟨q, 0, none⟩)] #[]
  | 2 => .func (.func 122) #[.pointer (some ⟨q, 0, none⟩)] #[]
  | _ => .func (.func 146) #[.pointer (some ⟨q, 0, none⟩)] #[]
def takeC (x : Cfg) (q : Nat) (t : TK) : Nat → Value
  | 0 => .int .i64 t.C
  | 1 => .int .u64 (t.X : Int)
  | 2 => .int .i64 x.t
  | 3 => .int .i64 x.s
  | 4 => .int .i64 x.l
  | 5 => .int .i64 x.c
  | 6 => .int .i64 x.s0
  | 7 => .int .i64 x.n0
  | 8 => .int .i64 x.s1
  | 9 => .int .i64 x.n1
  | 10 => .int .i64 x.r
  | 11 => .int .i64 t.r
  | 12 => .int .i64 t.b
  | _ => nextV q t.k
def TakeAt (W : World) (q : Nat) (x : Cfg) (t : TK) : Prop := W.rowIs q 140 14 (takeC x q t)
theorem TakeAt.below {W W' : World} {q : Nat} {x : Cfg} {t : TK} (h : TakeAt W q x t) (hb : Below W.heap.size W W') : TakeAt W' q x t := World.rowIs.of_block h (hb.block _ (World.rowIs.lt h))
theorem TakeAt.set {W : World} {q : Nat} {x : Cfg} {t t' : TK} (h : TakeAt W q x t) (i : Nat) (v : Value) (e : ∀ j, j < 14 → (if j = i then v else takeC x q t j) = takeC x q t' j) : TakeAt (W.setCell ⟨q, i, none⟩ v) q x t' := (World.rowIs.set h i v).congr e
/-- The run, the arena; what has changed since. -/
structure TH (w : World) (q p c n : Nat) (x : Cfg) (t : TK) (y : St) (W : World) : Prop where
  ta : TakeAt W q x t
  ar : ArS W p c n y
  lim : Lim W
  onl : OnlS [q, p, c] w W
  qp : q ≠ p
  qc : q ≠ c
  lg : 1 < q ∧ 1 < p ∧ 1 < c
section
variable {w W W' : World} {q p c n : Nat} {x : Cfg} {t : TK} {y : St}
theorem TH.all (h : TH w q p c n x t y W) : W.cell? ⟨q, 0, none⟩ = some (.int .i64 t.C) ∧ W.cell? ⟨q, 1, none⟩ = some (.int .u64 (t.X : Int)) ∧ W.cell? ⟨q, 2, none⟩ = some (.int .i64 x.t) ∧ W.cell? ⟨q, 3, none⟩ = some (.int .i64 x.s) ∧ W.cell? ⟨q, 4, none⟩ = some (.int .i64 x.l) ∧ W.cell? ⟨q, 5, none⟩ = some (.int .i64 x.c) ∧ W.cell? ⟨q, 6, none⟩ = some (.int .i64 x.s0) ∧ W.cell? ⟨q, 7, none⟩ = some (.int .i64 x.n0) ∧ W.cell? ⟨q, 8, none⟩ = some (.int .i64 x.s1) ∧ W.cell? ⟨q, 9, none⟩ = some (.int .i64 x.n1) ∧ W.cell? ⟨q, 10, none⟩ = some (.int .i64 x.r) ∧ W.cell? ⟨q, 11, none⟩ = some (.int .i64 t.r) ∧ W.cell? ⟨q, 12, none⟩ = some (.int .i64 t.b) ∧ W.cell? ⟨q, 13, none⟩ = some (nextV q t.k) ∧ TH w q p c n x t y W :=
  ⟨World.rowIs.cell h.ta (i := 0) (by omega), World.rowIs.cell h.ta (i := 1) (by omega), World.rowIs.cell h.ta (i := 2) (by omega), World.rowIs.cell h.ta (i := 3) (by omega), World.rowIs.cell h.ta (i := 4) (by omega), World.rowIs.cell h.ta (i := 5) (by omega), World.rowIs.cell h.ta (i := 6) (by omega), World.rowIs.cell h.ta (i := 7) (by omega), World.rowIs.cell h.ta (i := 8) (by omega), World.rowIs.cell h.ta (i := 9) (by omega), World.rowIs.cell h.ta (i := 10) (by omega), World.rowIs.cell h.ta (i := 11) (by omega), World.rowIs.cell h.ta (i := 12) (by omega), World.rowIs.cell h.ta (i := 13) (by omega), h⟩
theorem TH.frozen (h : TH w q p c n x t y W) (j : Nat) : W.frozen? ⟨q, j, none⟩ = false := World.rowIs.frozen h.ta j
theorem TH.below (h : TH w q p c n x t y W) (hb : Below W.heap.size W W') : TH w q p c n x t y W' :=
  ⟨h.ta.below hb, Ar.below h.ar hb h.ar.obj.lt h.ar.row.lt, h.lim.below hb, h.onl.trans (OnlS.of_below hb), h.qp, h.qc, h.lg⟩
theorem TH.drew (h : TH w q p c n x t y W) : TH w q p c n x t y W.drew := h.below (Below.refl _ _).drew
theorem TH.set (h : TH w q p c n x t y W) (i : Nat) (v : Value) (t' : TK) (e : ∀ j, j < 14 → (if j = i then v else takeC x q t j) = takeC x q t' j) : TH w q p c n x t' y (W.setCell ⟨q, i, none⟩ v) :=
  ⟨h.ta.set i v e, Ar.setOther h.ar (fun e => h.qp e.symm) (fun e => h.qc e.symm) v, h.lim.onlS ((OnlS.refl [q] W).set (List.mem_singleton.2 rfl) v) (by intro k hk; rw [List.mem_singleton.1 hk]; exact h.lg.1), h.onl.set (by simp) v, h.qp, h.qc, h.lg⟩
theorem TH.arena (h : TH w q p c n x t y W) {y' : St} (hA : ArS W' p c n y') (hO : Only p c W W') : TH w q p c n x t y' W' :=
  have ho : OnlS [p, c] W W' := OnlS.of_only hO (by simp) (by simp)
  ⟨World.rowIs.of_block h.ta (hO.block _ (World.rowIs.lt h.ta) h.qp h.qc), hA, h.lim.onlS ho (by intro k hk; simp at hk; rcases hk with rfl | rfl; exact h.lg.2.1; exact h.lg.2.2), h.onl.trans (OnlS.of_only hO (by simp) (by simp)), h.qp, h.qc, h.lg⟩
end
theorem eq_nn (W : World) : (binOp .eql 138 .nilFunc .nilFunc).run Tryd.prog W = .ok (.bool true) W := by kernel_rfl
theorem eq_fn (fn : Fn) (first cap : Array Value) (W : World) : (binOp .eql 138 (.func fn first cap) .nilFunc).run Tryd.prog W = .ok (.bool false) W := by kernel_rfl
set_option maxRecDepth 100000 in
set_option maxHeartbeats 1000000 in
theorem otdone_none (W : World) (q : Nat) (c13 : W.cell? ⟨q, 13, none⟩ = some .nilFunc) : Calls Tryd.prog 26 #[.pointer (some ⟨q, 0, none⟩)] W fun e W' => e = .returned (.bool true) ∧ W = W' := by
  have hq := eq_nn
  go_enter Tryd.func26, Tryd.ntmps26
  go_wp2
  go_ret
  exact ⟨rfl, rfl⟩
set_option maxRecDepth 100000 in
set_option maxHeartbeats 1000000 in
theorem otdone_some (W : World) (q : Nat) (fn : Fn) (first cap : Array Value) (c13 : W.cell? ⟨q, 13, none⟩ = some (.func fn first cap)) : Calls Tryd.prog 26 #[.pointer (some ⟨q, 0, none⟩)] W fun e W' => e = .returned (.bool false) ∧ W = W' := by
  have hq := eq_fn
  go_enter Tryd.func26, Tryd.ntmps26
  go_wp2
  go_ret
  exact ⟨rfl, rfl⟩
theorem otdone_any (W : World) (q : Nat) (k : Nat) (c13 : W.cell? ⟨q, 13, none⟩ = some (nextV q k)) : Calls Tryd.prog 26 #[.pointer (some ⟨q, 0, none⟩)] W fun e W' => e = .returned (.bool (decide (k = 0))) ∧ W = W' :=
  match k, c13 with
  | 0, h => otdone_none W q h
  | 1, h => otdone_some W q _ _ _ h
  | 2, h => otdone_some W q _ _ _ h
  | k + 3, h => by rw [decide_eq_false (by omega)]; exact otdone_some W q _ _ _ h
set_option maxRecDepth 100000 in
theorem otdone_nil (W : World) : Calls Tryd.prog 26 #[.pointer none] W fun e W' => e = .returned (.bool true) ∧ W = W' := by
  go_enter Tryd.func26, Tryd.ntmps26
  go_wp2
  go_ret
  exact ⟨rfl, rfl⟩
set_option maxRecDepth 100000 in
theorem otblock_nil (W : World) : Calls Tryd.prog 27 #[.pointer none] W fun e W' => e = .returned (.int .i64 0) ∧ W = W' := by
  go_enter Tryd.func27, Tryd.ntmps27
  go_wp2
  go_ret
  exact ⟨rfl, rfl⟩
set_option maxRecDepth 100000 in
theorem otblock_any (W : World) (q : Nat) (b : Int) (c12 : W.cell? ⟨q, 12, none⟩ = some (.int .i64 b)) : Calls Tryd.prog 27 #[.pointer (some ⟨q, 0, none⟩)] W fun e W' => e = .returned (.int .i64 b) ∧ W = W' := by
  go_enter Tryd.func27, Tryd.ntmps27
  go_wp2
  go_ret
  exact ⟨rfl, rfl⟩
/-- Words are words. -/
def OkW (y : St) (n : Nat) : Prop := ∀ j, j < n → 0 ≤ y.f j ∧ y.f j < 18446744073709551616
theorem OkW.loaded {y : St} {n : Nat} (h : OkW y n) (i : Int) : 0 ≤ y.loaded n i ∧ y.loaded n i < 18446744073709551616 := by
  unfold St.loaded
  by_cases hi : inB n i = true
  · rw [if_pos hi]
    obtain ⟨m, rfl, hm⟩ := inB_true hi
    simpa using h m hm
  · rw [if_neg hi]; omega
set_option maxRecDepth 100000 in
set_option maxHeartbeats 4000000 in
theorem ff_any (w : World) (q p c n : Nat) (x : Cfg) (hr : Right x) (t : TK) (y : St) (hC : 0 ≤ t.C ∧ t.C ≤ 1) (h0 : 0 ≤ y.s) (h1 : y.s < 1000000) (X : Nat) (hX : y.loaded n (3 + t.C) = (X : Int)) (t' : TK) (ht' : t' = { t with X := X, k := if classC x ((X % 4294967296 : Nat) : Int) = t.C then 2 else 0 }) (W : World) (h : TH w q p c n x t y W) :
    Calls Tryd.prog 82 #[.pointer (some ⟨q, 0, none⟩), .pointer (some ⟨p, 0, none⟩)] W fun e W' => e = .returned (.tuple #[]) ∧ TH w q p c n x t' (y.load n (3 + t.C)) W' := by
  have hmk := mk_funcA
  obtain ⟨B, hB⟩ : ∃ B : Nat, X % 4294967296 = B := ⟨_, rfl⟩
  obtain ⟨C2, hC2⟩ : ∃ C2, classC x (B : Int) = C2 := ⟨_, rfl⟩
  rw [hB, hC2] at ht'
  have HFI : Hid (∀ W : World, W.cell? ⟨q, 1, none⟩ = some (.int .u64 (X : Int)) → Calls Tryd.prog 123 #[.pointer (some ⟨q, 0, none⟩)] W fun e W' => e = .returned (.int .i64 (B : Int)) ∧ W = W') := Lib.hid fun W h => by
    have k := first_any W q X h
    rw [hB] at k
    exact k
  have HCL : Hid (∀ W : World, Lim W → Calls Tryd.prog 83 #[(.agg #[.int .i64 x.t, .int .i64 x.s, .int .i64 x.l, .int .i64 x.c, .int .i64 x.s0, .int .i64 x.n0, .int .i64 x.s1, .int .i64 x.n1, .int .i64 x.r]), .int .i64 (B : Int)] W fun e W' => e = .returned (.int .i64 C2) ∧ Below W.heap.size W W') := Lib.hid fun W h => by
    have k := class_any x (B : Int) W h hr
    rw [hC2] at k
    exact k
  clear hB hC2
  have HT := Lib.hid ht'
  have K0 := Lib.hid h
  obtain ⟨c0, c1, c2, c3, c4, c5, c6, c7, c8, c9, c10, c11, c12, c13, -⟩ := h.all
  have f1 := h.frozen 1
  have hql := World.rowIs.lt h.ta
  have qp := h.qp
  have qc := h.qc
  clear h hr ht'
  go_enter Tryd.func82, Tryd.ntmps82
  go_wp2_with fail
  refine (look_any W q p c n y K0.out.ar h0 h1 t.C hC _ hql qp qc c0 c1 f1).mono ?_
  rintro e W2 ⟨W1, rfl, hA, hO, rfl⟩
  rw [hX]
  have K1 := Lib.hid ((K0.out.arena hA hO).set 1 (.int .u64 (X : Int)) { t with X := X } (by intro j hj; match j, hj with | 0, _ => rfl | 1, _ => rfl | 2, _ => rfl | 3, _ => rfl | 4, _ => rfl | 5, _ => rfl | 6, _ => rfl | 7, _ => rfl | 8, _ => rfl | 9, _ => rfl | 10, _ => rfl | 11, _ => rfl | 12, _ => rfl | 13, _ => rfl))
  clear hA hO c0 c1 c2 c3 c4 c5 c6 c7 c8 c9 c10 c11 c12 c13 f1 K0 hql
  generalize W1.setCell ⟨q, 1, none⟩ (.int .u64 (X : Int)) = W2 at K1 ⊢
  obtain ⟨t1, ht1⟩ : ∃ t1 : TK, t1 = { t with X := X } := ⟨_, rfl⟩
  rw [← ht1] at K1
  have e1 : t1.X = X := by rw [ht1]
  have e2 : t1.C = t.C := by rw [ht1]
  have HT1 := Lib.hid ht1
  clear ht1
  obtain ⟨c0, c1, c2, c3, c4, c5, c6, c7, c8, c9, c10, c11, c12, c13, -⟩ := K1.out.all
  have f13 := K1.out.frozen 13
  rw [e2] at c0
  rw [e1] at c1
  clear e1 e2
  go_upto_region 2 with (fail)
  have K2 := Lib.hid (K1.out.set 13 (.func (.func 122) #[.pointer (some ⟨q, 0, none⟩)] #[]) { t1 with k := 2 } (by intro j hj; match j, hj with | 0, _ => rfl | 1, _ => rfl | 2, _ => rfl | 3, _ => rfl | 4, _ => rfl | 5, _ => rfl | 6, _ => rfl | 7, _ => rfl | 8, _ => rfl | 9, _ => rfl | 10, _ => rfl | 11, _ => rfl | 12, _ => rfl | 13, _ => rfl))
  clear c0 c1 c2 c3 c4 c5 c6 c7 c8 c9 c10 c11 c12 c13 f13 K1
  generalize W2.setCell ⟨q, 13, none⟩ (.func (.func 122) #[.pointer (some ⟨q, 0, none⟩)] #[]) = W3 at K2 ⊢
  obtain ⟨t2, ht2⟩ : ∃ t2 : TK, t2 = { t1 with k := 2 } := ⟨_, rfl⟩
  rw [← ht2] at K2
  have e1 : t2.X = X := by rw [ht2, HT1.out]
  have e2 : t2.C = t.C := by rw [ht2, HT1.out]
  have HT2 := Lib.hid ht2
  have HE2 := Lib.hid (And.intro e2 e1)
  clear ht2
  obtain ⟨c0, c1, c2, c3, c4, c5, c6, c7, c8, c9, c10, c11, c12, c13, -⟩ := K2.out.drew.all
  rw [e2] at c0
  rw [e1] at c1
  clear e1 e2
  go_region_held3 (fun w' => w'.cell? ⟨q, 0, none⟩ = some (.int .i64 t.C) ∧ w'.cell? ⟨q, 1, none⟩ = some (.int .u64 (X : Int)) ∧ w'.cell? ⟨q, 2, none⟩ = some (.int .i64 x.t) ∧ w'.cell? ⟨q, 3, none⟩ = some (.int .i64 x.s) ∧ w'.cell? ⟨q, 4, none⟩ = some (.int .i64 x.l) ∧ w'.cell? ⟨q, 5, none⟩ = some (.int .i64 x.c) ∧ w'.cell? ⟨q, 6, none⟩ = some (.int .i64 x.s0) ∧ w'.cell? ⟨q, 7, none⟩ = some (.int .i64 x.n0) ∧ w'.cell? ⟨q, 8, none⟩ = some (.int .i64 x.s1) ∧ w'.cell? ⟨q, 9, none⟩ = some (.int .i64 x.n1) ∧ w'.cell? ⟨q, 10, none⟩ = some (.int .i64 x.r)) (first | exact ⟨c0, c1, c2, c3, c4, c5, c6, c7, c8, c9, c10⟩ | exact ⟨by assumption, by assumption, by assumption, by assumption, by assumption, by assumption, by assumption, by assumption, by assumption, by assumption, by assumption⟩) (first
    | (go_at_call 123; refine (HFI.out _ c1).mono ?_; rintro e w5 ⟨rfl, rfl⟩)
    | (go_at_call 83; refine (HCL.out _ K2.out.drew.lim).mono ?_; rintro e w5 ⟨rfl, hb⟩; have K5 := Lib.hid (K2.out.drew.below hb); obtain ⟨d0, d1, d2, d3, d4, d5, d6, d7, d8, d9, d10, d11, d12, d13, -⟩ := K5.out.all; rw [HE2.out.1] at d0; rw [HE2.out.2] at d1; clear hb))
  all_goals
    have f13 := K5.out.frozen 13
    by_cases hcc : C2 = t.C
    · have dcc : (C2 == t.C) = true := by simpa using hcc
      go_wp2
      go_end0
      refine ⟨rfl, ?_⟩
      rw [HT.out, if_pos hcc, show ({ t with X := X, k := 2 } : TK) = t2 by rw [HT2.out, HT1.out]]
      exact K5.out
    · have dcc : (C2 == t.C) = false := by simpa using hcc
      go_wp2
      go_end0
      refine ⟨rfl, ?_⟩
      rw [HT.out, if_neg hcc]
      exact K5.out.set 13 .nilFunc { t with X := X, k := 0 } (by rw [HT2.out, HT1.out]; intro j hj; match j, hj with | 0, _ => rfl | 1, _ => rfl | 2, _ => rfl | 3, _ => rfl | 4, _ => rfl | 5, _ => rfl | 6, _ => rfl | 7, _ => rfl | 8, _ => rfl | 9, _ => rfl | 10, _ => rfl | 11, _ => rfl | 12, _ => rfl | 13, _ => rfl)
set_option maxRecDepth 100000 in
set_option maxHeartbeats 4000000 in
theorem fr_any (w : World) (q p c n : Nat) (x : Cfg) (hr : Right x) (t : TK) (y : St) (h0 : 0 ≤ y.s) (h1 : y.s < 1000000) (i : Int) (hi : blockC x ((t.X % 4294967296 : Nat) : Int) = i) (R : Nat) (hRR : y.loaded n i = (R : Int)) (t' : TK) (ht' : t' = { t with r := ((R % 4294967296 : Nat) : Int), k := 3 }) (W : World) (h : TH w q p c n x t y W) :
    Calls Tryd.prog 122 #[.pointer (some ⟨q, 0, none⟩), .pointer (some ⟨p, 0, none⟩)] W fun e W' => e = .returned (.tuple #[]) ∧ TH w q p c n x t' (y.load n i) W' := by
  have hmk := mk_funcA
  obtain ⟨B, hB⟩ : ∃ B : Nat, t.X % 4294967296 = B := ⟨_, rfl⟩
  obtain ⟨r', hr'⟩ : ∃ r' : Int, ((R % 4294967296 : Nat) : Int) = r' := ⟨_, rfl⟩
  rw [hr'] at ht'
  rw [hB] at hi
  have HFI : Hid (∀ W : World, W.cell? ⟨q, 1, none⟩ = some (.int .u64 (t.X : Int)) → Calls Tryd.prog 123 #[.pointer (some ⟨q, 0, none⟩)] W fun e W' => e = .returned (.int .i64 (B : Int)) ∧ W = W') := Lib.hid fun W h => by
    have k := first_any W q t.X h
    rw [hB] at k
    exact k
  have HBK : Hid (∀ W : World, Lim W → Calls Tryd.prog 84 #[(.agg #[.int .i64 x.t, .int .i64 x.s, .int .i64 x.l, .int .i64 x.c, .int .i64 x.s0, .int .i64 x.n0, .int .i64 x.s1, .int .i64 x.n1, .int .i64 x.r]), .int .i64 (B : Int)] W fun e W' => e = .returned (.int .i64 i) ∧ Below W.heap.size W W') := Lib.hid fun W h => by
    have k := block_any x (B : Int) W h hr
    rw [hi] at k
    exact k
  have HHB : Hid (∀ W : World, Calls Tryd.prog 59 #[.int .u64 (R : Int)] W fun e W' => e = .returned (.int .i64 r') ∧ W = W') := Lib.hid fun W => by
    have k := hblock_any R W
    rw [hr'] at k
    exact k
  have HLD : Hid (∀ W : World, ArS W p c n y → Calls Tryd.prog 145 #[.pointer (some ⟨p, 0, none⟩), .int .i64 i] W fun e W' => e = .returned (.int .u64 (R : Int)) ∧ Hid (ArS W' p c n (y.load n i) ∧ Only p c W W')) := Lib.hid fun W h => by
    have k := load_any W p c n y h h0 h1 i
    rw [hRR] at k
    exact k.mono fun _ _ ⟨a, b, d⟩ => ⟨a, Lib.hid ⟨b, d⟩⟩
  clear hB hr' hi hRR h0 h1
  have HT := Lib.hid ht'
  have K0 := Lib.hid h.drew
  obtain ⟨c0, c1, c2, c3, c4, c5, c6, c7, c8, c9, c10, c11, c12, c13, -⟩ := h.drew.all
  clear h hr ht'
  go_enter Tryd.func122, Tryd.ntmps122
  go_upto_region 0 with (fail)
  go_region_held3 (fun w' => w'.cell? ⟨q, 1, none⟩ = some (.int .u64 (t.X : Int)) ∧ w'.cell? ⟨q, 2, none⟩ = some (.int .i64 x.t) ∧ w'.cell? ⟨q, 3, none⟩ = some (.int .i64 x.s) ∧ w'.cell? ⟨q, 4, none⟩ = some (.int .i64 x.l) ∧ w'.cell? ⟨q, 5, none⟩ = some (.int .i64 x.c) ∧ w'.cell? ⟨q, 6, none⟩ = some (.int .i64 x.s0) ∧ w'.cell? ⟨q, 7, none⟩ = some (.int .i64 x.n0) ∧ w'.cell? ⟨q, 8, none⟩ = some (.int .i64 x.s1) ∧ w'.cell? ⟨q, 9, none⟩ = some (.int .i64 x.n1) ∧ w'.cell? ⟨q, 10, none⟩ = some (.int .i64 x.r)) (first | exact ⟨c1, c2, c3, c4, c5, c6, c7, c8, c9, c10⟩ | exact ⟨by assumption, by assumption, by assumption, by assumption, by assumption, by assumption, by assumption, by assumption, by assumption, by assumption⟩ | exact ⟨World.rowIs.cell K7.out.ta (i := 1) (by omega), World.rowIs.cell K7.out.ta (i := 2) (by omega), World.rowIs.cell K7.out.ta (i := 3) (by omega), World.rowIs.cell K7.out.ta (i := 4) (by omega), World.rowIs.cell K7.out.ta (i := 5) (by omega), World.rowIs.cell K7.out.ta (i := 6) (by omega), World.rowIs.cell K7.out.ta (i := 7) (by omega), World.rowIs.cell K7.out.ta (i := 8) (by omega), World.rowIs.cell K7.out.ta (i := 9) (by omega), World.rowIs.cell K7.out.ta (i := 10) (by omega)⟩) (first
    | (go_at_call 123; refine (HFI.out _ c1).mono ?_; rintro e w5 ⟨rfl, rfl⟩)
    | (go_at_call 84; refine (HBK.out _ K0.out.lim).mono ?_; rintro e w5 ⟨rfl, hb⟩; have K5 := Lib.hid (K0.out.below hb); clear hb c0 c1 c2 c3 c4 c5 c6 c7 c8 c9 c10 c11 c12 c13; obtain ⟨d0, d1, d2, d3, d4, d5, d6, d7, d8, d9, d10, d11, d12, d13, -⟩ := K5.out.all)
    | (go_at_call 145; refine (HLD.out _ K5.out.ar).mono ?_; rintro e w6 ⟨rfl, hAO⟩; have K6 := Lib.hid (K5.out.arena hAO.out.1 hAO.out.2); clear d0 d1 d2 d3 d4 d5 d6 d7 d8 d9 d10 d11 d12 d13; obtain ⟨c0, c1, c2, c3, c4, c5, c6, c7, c8, c9, c10, c11, c12, c13, -⟩ := K6.out.all; have f11 := K6.out.frozen 11)
    | (go_at_call 59; refine (HHB.out _).mono ?_; rintro e w7 ⟨rfl, rfl⟩; have K7 := Lib.hid (K6.out.set 11 (.int .i64 r') { t with r := r' } (by intro j hj; match j, hj with | 0, _ => rfl | 1, _ => rfl | 2, _ => rfl | 3, _ => rfl | 4, _ => rfl | 5, _ => rfl | 6, _ => rfl | 7, _ => rfl | 8, _ => rfl | 9, _ => rfl | 10, _ => rfl | 11, _ => rfl | 12, _ => rfl | 13, _ => rfl))))
  all_goals
    clear c0 c1 c2 c3 c4 c5 c6 c7 c8 c9 c10 c11 c12 c13 f11 K6
    generalize w6.setCell ⟨q, 11, none⟩ (.int .i64 r') = w8 at K7 ⊢
    obtain ⟨c0, c1, c2, c3, c4, c5, c6, c7, c8, c9, c10, c11, c12, c13, -⟩ := K7.out.all
    have f13 := K7.out.frozen 13
    go_wp2
    go_end0
    refine ⟨rfl, ?_⟩
    rw [HT.out]
    exact K7.out.set 13 (nextV q 3) { t with r := r', k := 3 } (by intro j hj; match j, hj with | 0, _ => rfl | 1, _ => rfl | 2, _ => rfl | 3, _ => rfl | 4, _ => rfl | 5, _ => rfl | 6, _ => rfl | 7, _ => rfl | 8, _ => rfl | 9, _ => rfl | 10, _ => rfl | 11, _ => rfl | 12, _ => rfl | 13, _ => rfl)
set_option maxRecDepth 100000 in
set_option maxHeartbeats 4000000 in
theorem tf_any (w : World) (q p c n : Nat) (x : Cfg) (t : TK) (y : St) (hC : 0 ≤ t.C ∧ t.C ≤ 1) (h0 : 0 ≤ y.s) (h1 : y.s < 1000000) (hX : t.X < 18446744073709551616) (z : Int) (hz : ((t.X : Int) / 4294967296 + 1) % 4294967296 * 4294967296 + t.r % 4294967296 = z) (sw : Bool) (hsw : y.swapped n (3 + t.C) t.X = sw) (t' : TK) (ht' : t' = if sw then { t with b := ((t.X % 4294967296 : Nat) : Int), k := 0 } else { t with k := 1 }) (W : World) (h : TH w q p c n x t y W) :
    Calls Tryd.prog 146 #[.pointer (some ⟨q, 0, none⟩), .pointer (some ⟨p, 0, none⟩)] W fun e W' => e = .returned (.tuple #[]) ∧ TH w q p c n x t' (y.swap n (3 + t.C) t.X z) W' := by
  have hmk := mk_funcA
  obtain ⟨B, hB⟩ : ∃ B : Nat, t.X % 4294967296 = B := ⟨_, rfl⟩
  rw [hB] at ht'
  have HFI : Hid (∀ W : World, W.cell? ⟨q, 1, none⟩ = some (.int .u64 (t.X : Int)) → Calls Tryd.prog 123 #[.pointer (some ⟨q, 0, none⟩)] W fun e W' => e = .returned (.int .i64 (B : Int)) ∧ W = W') := Lib.hid fun W h => by
    have k := first_any W q t.X h
    rw [hB] at k
    exact k
  have HTN : Hid (∀ W : World, TH w q p c n x t y W → Calls Tryd.prog 156 #[.pointer (some ⟨q, 0, none⟩), .pointer (some ⟨p, 0, none⟩), .int .i64 t.r] W fun e W' => e = .returned (.bool sw) ∧ TH w q p c n x t (y.swap n (3 + t.C) t.X z) W') := Lib.hid fun W h => by
    obtain ⟨c0, c1, -⟩ := h.all
    exact (wturn_any W q p c n y h.ar h0 h1 t.C hC t.X hX t.r z (3 + t.C) sw rfl hsw hz (World.rowIs.lt h.ta) h.qp h.qc c0 c1).mono fun _ _ ⟨a, b, d⟩ => ⟨a, h.arena b d⟩
  clear hB hsw hz hX h0 h1
  have HT := Lib.hid ht'
  have K0 := Lib.hid h.drew
  obtain ⟨c0, c1, c2, c3, c4, c5, c6, c7, c8, c9, c10, c11, c12, c13, -⟩ := h.drew.all
  clear h ht'
  go_enter Tryd.func146, Tryd.ntmps146
  go_upto_region 0 with (fail)
  go_region_held3 (fun w' => w'.cell? ⟨q, 11, none⟩ = some (.int .i64 t.r)) (first | exact c11 | assumption)
    ((go_at_call 156; refine (HTN.out _ K0.out).mono ?_; rintro e w5 ⟨rfl, hK⟩; have K5 := Lib.hid hK; clear hK c0 c1 c2 c3 c4 c5 c6 c7 c8 c9 c10 c11 c12 c13; obtain ⟨c0, c1, c2, c3, c4, c5, c6, c7, c8, c9, c10, c11, c12, c13, -⟩ := K5.out.all; have fr := K5.out.frozen))
  all_goals
    cases sw
    · go_wp2
      (try simp only [Exit.inBlock, Exit.then])
      refine bodyPost_ret (results_none rfl _ _ _) rfl ?_
      refine ⟨rfl, ?_⟩
      rw [HT.out]
      exact K5.out.set 13 (nextV q 1) { t with k := 1 } (by intro j hj; match j, hj with | 0, _ => rfl | 1, _ => rfl | 2, _ => rfl | 3, _ => rfl | 4, _ => rfl | 5, _ => rfl | 6, _ => rfl | 7, _ => rfl | 8, _ => rfl | 9, _ => rfl | 10, _ => rfl | 11, _ => rfl | 12, _ => rfl | 13, _ => rfl)
    · go_wp2_with fail
      refine (HFI.out _ c1).mono ?_
      rintro e w6 ⟨rfl, rfl⟩
      go_wp2
      go_end0
      refine ⟨rfl, ?_⟩
      rw [HT.out]
      have K6 := K5.out.set 12 (.int .i64 (B : Int)) { t with b := (B : Int) } (by intro j hj; match j, hj with | 0, _ => rfl | 1, _ => rfl | 2, _ => rfl | 3, _ => rfl | 4, _ => rfl | 5, _ => rfl | 6, _ => rfl | 7, _ => rfl | 8, _ => rfl | 9, _ => rfl | 10, _ => rfl | 11, _ => rfl | 12, _ => rfl | 13, _ => rfl)
      exact K6.set 13 .nilFunc { t with b := (B : Int), k := 0 } (by intro j hj; match j, hj with | 0, _ => rfl | 1, _ => rfl | 2, _ => rfl | 3, _ => rfl | 4, _ => rfl | 5, _ => rfl | 6, _ => rfl | 7, _ => rfl | 8, _ => rfl | 9, _ => rfl | 10, _ => rfl | 11, _ => rfl | 12, _ => rfl | 13, _ => rfl)

end Go.Proofs.YtkpffnihnhlghaaDoor
