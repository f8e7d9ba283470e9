/- List of a right config's words. -/
import Derived.Test.YtkpffnihnhlghaaGreatDoorHIter
import Derived.Test.YtkpffnihnhlghaaGreatDoorCsOne
import Derived.Scope
import Derived.Sort.CutIn
import Derived.Stop.RegionWithIn
namespace Go.Proofs.YtkpffnihnhlghaaGreatDoor
open Go.RowKit Go.Shelf
attribute [local go_sem] Oper.semAt_some

set_option maxRecDepth 100000 in
theorem hlinks_any (x : Cfg) (Aw : Option Addr) (N cw : Nat) (cls : Int) (w : World) : Calls Tryz.prog 28 #[(.agg #[.int .i64 x.t, .int .i64 x.s, .int .i64 x.l, .int .i64 x.c, .int .i64 x.s0, .int .i64 x.n0, .int .i64 x.s1, .int .i64 x.n1, .int .i64 x.r]), .slice Aw N cw, .int .i64 cls] w fun e w' => e = .returned (.func (.func 40) #[] #[.pointer (some ⟨w.heap.size + 2, 0, none⟩), .pointer (some ⟨w.heap.size + 1, 0, none⟩), .pointer (some ⟨w.heap.size, 0, none⟩)]) ∧ w' = ((w.alloc (.cells #[.int .i64 x.t, .int .i64 x.s, .int .i64 x.l, .int .i64 x.c, .int .i64 x.s0, .int .i64 x.n0, .int .i64 x.s1, .int .i64 x.n1, .int .i64 x.r] 30)).alloc (.cells #[.slice Aw N cw] 32)).alloc (.cells #[.int .i64 cls] 3) := by
  have hmf : ∀ (fn : Fn) (first cap : Array Value) (w : World), (Instr.makeFunc fn first cap).run Tryz.prog w = .ok (.func fn first cap) w := fun _ _ _ _ => rfl
  go_enter Tryz.func28, Tryz.ntmps28
  go_wp2
  go_ret
  exact ⟨rfl, rfl⟩
/-- The boxes of List. -/
structure LH (w : World) (x : Cfg) (cls : Int) (v1 v2 : Value) (W : World) : Prop where
  cfg : CfgAt W w.heap.size x
  cl : Boxed W (w.heap.size + 1) 3 (.int .i64 cls)
  r1 : Boxed W (w.heap.size + 1 + 1) 44 v1
  r2 : Boxed W (w.heap.size + 1 + 1 + 1) 46 v2
  be : Below w.heap.size w W
section
variable {w : World} {x : Cfg} {cls : Int} {v1 v2 : Value} {W W' : World}
theorem LH.below (h : LH w x cls v1 v2 W) (hb : Below W.heap.size W W') : LH w x cls v1 v2 W' :=
  ⟨h.cfg.below hb, (hb.block _ h.cl.lt).trans h.cl, (hb.block _ h.r1.lt).trans h.r1, (hb.block _ h.r2.lt).trans h.r2, Below.step h.be hb h.be.size⟩
theorem LH.start (w : World) (x : Cfg) (cls : Int) : LH w x cls (.slice none 0 0) .nilIface ((((w.alloc (.cells #[.int .i64 x.t, .int .i64 x.s, .int .i64 x.l, .int .i64 x.c, .int .i64 x.s0, .int .i64 x.n0, .int .i64 x.s1, .int .i64 x.n1, .int .i64 x.r] 30)).alloc (.cells #[.int .i64 cls] 3)).alloc (.cells #[.slice none 0 0] 44)).alloc (.cells #[.nilIface] 46)) := by
  have h1 := Boxed.new (w.alloc (.cells #[.int .i64 x.t, .int .i64 x.s, .int .i64 x.l, .int .i64 x.c, .int .i64 x.s0, .int .i64 x.n0, .int .i64 x.s1, .int .i64 x.n1, .int .i64 x.r] 30)) 3 (.int .i64 cls)
  have h2 := Boxed.new ((w.alloc (.cells #[.int .i64 x.t, .int .i64 x.s, .int .i64 x.l, .int .i64 x.c, .int .i64 x.s0, .int .i64 x.n0, .int .i64 x.s1, .int .i64 x.n1, .int .i64 x.r] 30)).alloc (.cells #[.int .i64 cls] 3)) 44 (.slice none 0 0)
  have h3 := Boxed.new (((w.alloc (.cells #[.int .i64 x.t, .int .i64 x.s, .int .i64 x.l, .int .i64 x.c, .int .i64 x.s0, .int .i64 x.n0, .int .i64 x.s1, .int .i64 x.n1, .int .i64 x.r] 30)).alloc (.cells #[.int .i64 cls] 3)).alloc (.cells #[.slice none 0 0] 44)) 46 .nilIface
  simp only [World.size_alloc] at h1 h2 h3
  exact ⟨(((cfgAt_box w x).below ((Below.refl _ _).alloc (Nat.le_refl _) _)).below ((Below.refl _ _).alloc (Nat.le_refl _) _)).below ((Below.refl _ _).alloc (Nat.le_refl _) _), (h1.alloc _).alloc _, h2.alloc _, h3, by (repeat (first | with_reducible exact Below.refl _ _ | with_reducible refine Below.drew ?_ | (with_reducible refine Below.setCell ?_ ?side _; case side => exact (by first | (simp; done) | (simp; omega) | omega)) | (with_reducible refine Below.alloc ?_ ?side _; case side => exact (by first | (simp; done) | (simp; omega) | omega))))⟩
theorem LH.all (h : LH w x cls v1 v2 W) : W.cell? ⟨w.heap.size, 0, none⟩ = some (.int .i64 x.t) ∧ W.cell? ⟨w.heap.size, 1, none⟩ = some (.int .i64 x.s) ∧ W.cell? ⟨w.heap.size, 2, none⟩ = some (.int .i64 x.l) ∧ W.cell? ⟨w.heap.size, 3, none⟩ = some (.int .i64 x.c) ∧ W.cell? ⟨w.heap.size, 4, none⟩ = some (.int .i64 x.s0) ∧ W.cell? ⟨w.heap.size, 5, none⟩ = some (.int .i64 x.n0) ∧ W.cell? ⟨w.heap.size, 6, none⟩ = some (.int .i64 x.s1) ∧ W.cell? ⟨w.heap.size, 7, none⟩ = some (.int .i64 x.n1) ∧ W.cell? ⟨w.heap.size, 8, none⟩ = some (.int .i64 x.r) ∧ W.cell? ⟨w.heap.size + 1, 0, none⟩ = some (.int .i64 cls) ∧ W.cell? ⟨w.heap.size + 1 + 1, 0, none⟩ = some v1 ∧ W.frozen? ⟨w.heap.size + 1 + 1, 0, none⟩ = false ∧ W.cell? ⟨w.heap.size + 1 + 1 + 1, 0, none⟩ = some v2 ∧ W.frozen? ⟨w.heap.size + 1 + 1 + 1, 0, none⟩ = false ∧ w.heap.size + 1 + 1 + 1 < W.heap.size := by
  obtain ⟨c0, c1, c2, c3, c4, c5, c6, c7, c8⟩ := h.cfg.cells
  exact ⟨c0, c1, c2, c3, c4, c5, c6, c7, c8, h.cl.cell, h.r1.cell, h.r1.frozen, h.r2.cell, h.r2.frozen, h.r2.lt⟩
end
/-- What lay below n has not changed, but for B. -/
structure SameB (n B : Nat) (X Y : World) : Prop where
  size : X.heap.size ≤ Y.heap.size
  same : ∀ k, k < n → k ≠ B → Y.heap[k]? = X.heap[k]?
theorem SameB.trans {n B : Nat} {X Y Z : World} (h : SameB n B X Y) (k : SameB n B Y Z) : SameB n B X Z := ⟨Nat.le_trans h.size k.size, fun i h1 h2 => (k.same i h1 h2).trans (h.same i h1 h2)⟩
theorem own_turn {W W' : World} {B e s n : Nat} {v : Value} {xs : List Value} (h : W.ownsRow B e s v n xs) (hT : ∀ (k : Nat) (o : Obj), W.heap[k]? = some o → o.isCells = true → W'.heap[k]? = some o) : W'.ownsRow B e s v n xs := by
  rcases h with ⟨hl, (⟨hn, h0⟩ | ⟨g, cap, cur, e', b1, b2, b3⟩)⟩
  · exact ⟨hl, .inl ⟨hn, h0⟩⟩
  · exact ⟨hl, .inr ⟨_, _, cur, e', b1, hT _ _ b2 rfl, b3⟩⟩
theorem own_mono {W : World} {B B' e s n : Nat} {v : Value} {xs : List Value} (h : W.ownsRow B e s v n xs) (hB : B' ≤ B) : W.ownsRow B' e s v n xs := by
  rcases h with ⟨hl, (⟨hn, h0⟩ | ⟨g, cap, cur, e', b1, b2, b3⟩)⟩
  · exact ⟨hl, .inl ⟨hn, h0⟩⟩
  · exact ⟨hl, .inr ⟨_, _, cur, e', by omega, b2, b3⟩⟩
/-- How many blocks a class has. -/
def cntC (x : Cfg) (cls : Nat) : Int := if cls = 0 then x.n0 else x.n1
/-- Between two rounds. -/
structure IH (w W0 : World) (x : Cfg) (cls qb : Nat) (pre : List (Int × Int)) (W : World) : Prop where
  same : SameB W0.heap.size qb W0 W
  box : ∃ v, Boxed W qb 44 v ∧ W.ownsRow W0.heap.size 3 1 v pre.length (pre.map fun y => .int .i64 y.2)
  good : ∀ y ∈ pre, ¬ y.2 = 0 ∧ classC x y.2 = (cls : Int)
  len : (pre.length : Int) ≤ cntC x cls
  be : Below w.heap.size w W
/-- Where a round has left the loop. -/
def IXH (w W0 : World) (x : Cfg) (cls qb : Nat) (c : Code) (pre : List (Int × Int)) (W : World) : Prop := match c with
  | .exit id => id = 0 ∧ ∃ q y, pre = q ++ [y] ∧ y.2 = 0 ∧ IH w W0 x cls qb q W
  | .ret => ∃ q y E, pre = q ++ [y] ∧ (∀ z ∈ q, ¬ z.2 = 0 ∧ classC x z.2 = (cls : Int)) ∧ (q.length : Int) ≤ cntC x cls ∧ ¬ y.2 = 0 ∧ ((¬ classC x y.2 = (cls : Int) ∧ E = [(0, y.1), (10, 0)]) ∨ (classC x y.2 = (cls : Int) ∧ (q.length : Int) = cntC x cls ∧ E = [(0, y.1), (16, 0)])) ∧
      Boxed W (w.heap.size + 1 + 1) 44 (.slice none 0 0) ∧ Boxed W (w.heap.size + 1 + 1 + 1) 46 (Cs.enc E) ∧ Below w.heap.size w W
  | _ => False
theorem IH.turn {w W0 : World} {x : Cfg} {cls qb : Nat} {pre : List (Int × Int)} {X Y : World} (hq : qb < W0.heap.size) (hw : w.heap.size ≤ W0.heap.size) (h : IH w W0 x cls qb pre X) (hT : TurnH W0.heap.size X Y) : IH w W0 x cls qb pre Y := by
  obtain ⟨v, hv, ho⟩ := h.box
  exact ⟨h.same.trans ⟨hT.below.size, fun k h1 _ => hT.below.block k h1⟩, ⟨v, (hT.below.block _ hq).trans hv, own_turn ho hT.same⟩, h.good, h.len, h.be.trans (hT.below.mono hw)⟩
theorem IXH.turn {w W0 : World} {x : Cfg} {cls qb : Nat} (hq : qb < W0.heap.size) (hw : w.heap.size + 1 + 1 + 1 < W0.heap.size) (c : Code) (pre : List (Int × Int)) (X Y : World) (h : IXH w W0 x cls qb c pre X) (hT : TurnH W0.heap.size X Y) : IXH w W0 x cls qb c pre Y := by
  cases c with
  | exit id =>
    obtain ⟨h0, q, y, e, hy, hi⟩ := h
    exact ⟨h0, q, y, e, hy, hi.turn hq (by omega) hT⟩
  | ret =>
    obtain ⟨q, y, E, h1, h2, h3, h4, h5, h6, h7, h8⟩ := h
    exact ⟨q, y, E, h1, h2, h3, h4, h5, (hT.below.block _ (by omega)).trans h6, (hT.below.block _ (by omega)).trans h7, h8.trans (hT.below.mono (by omega))⟩
  | _ => exact h.elim
theorem LH.errs {w : World} {x : Cfg} {cls : Int} {v1 v2 : Value} {W : World} (h : LH w x cls v1 v2 W) (u1 u2 : Value) :
    Boxed ((W.setCell ⟨w.heap.size + 1 + 1, 0, none⟩ u1).setCell ⟨w.heap.size + 1 + 1 + 1, 0, none⟩ u2) (w.heap.size + 1 + 1) 44 u1 ∧ Boxed ((W.setCell ⟨w.heap.size + 1 + 1, 0, none⟩ u1).setCell ⟨w.heap.size + 1 + 1 + 1, 0, none⟩ u2) (w.heap.size + 1 + 1 + 1) 46 u2 ∧
    KeepN W ((W.setCell ⟨w.heap.size + 1 + 1, 0, none⟩ u1).setCell ⟨w.heap.size + 1 + 1 + 1, 0, none⟩ u2) ∧ Below w.heap.size w ((W.setCell ⟨w.heap.size + 1 + 1, 0, none⟩ u1).setCell ⟨w.heap.size + 1 + 1 + 1, 0, none⟩ u2) := by
  have a1 := h.r1.set u1
  have a2 : Boxed (W.setCell ⟨w.heap.size + 1 + 1, 0, none⟩ u1) (w.heap.size + 1 + 1 + 1) 46 v2 := (Below.heap_setCell W ⟨w.heap.size + 1 + 1, 0, none⟩ u1 (w.heap.size + 1 + 1 + 1) (by show w.heap.size + 1 + 1 + 1 ≠ w.heap.size + 1 + 1; omega)).trans h.r2
  refine ⟨(Below.heap_setCell _ ⟨w.heap.size + 1 + 1 + 1, 0, none⟩ u2 (w.heap.size + 1 + 1) (by show w.heap.size + 1 + 1 ≠ w.heap.size + 1 + 1 + 1; omega)).trans a1, a2.set u2, (KeepN.grown (grownBy_setCell' W _ u1) (fun r e => by cases e; exact ⟨_, h.r1, rfl⟩)).trans (KeepN.grown (grownBy_setCell' _ _ u2) (fun r e => by cases e; exact ⟨_, a2, rfl⟩)), ?_⟩
  exact (h.be.setCell (p := ⟨w.heap.size + 1 + 1, 0, none⟩) (by show w.heap.size ≤ w.heap.size + 1 + 1; omega) u1).setCell (p := ⟨w.heap.size + 1 + 1 + 1, 0, none⟩) (by show w.heap.size ≤ w.heap.size + 1 + 1 + 1; omega) u2
theorem own_form {W : World} {B e n : Nat} {v : Value} {xs : List Value} (h : W.ownsRow B e 1 v n xs) : ∃ A cap, v = .slice A n cap := by
  rcases h with ⟨hl, (⟨hn, h0⟩ | ⟨g, cap, cur, e', b1, b2, b3⟩)⟩
  · exact ⟨_, _, by rw [hn, h0]⟩
  · exact ⟨_, _, e'⟩
theorem infoI : (Tryz.prog.info? 3).map (fun i => (i.zero, i.size, i.bytes)) = some (some (.int .i64 0), 1, 8) := by kernel_rfl
theorem own_cells {W : World} {B e n : Nat} {v : Value} {xs : List Value} (h : W.ownsRow B e 1 v n xs) : ∀ r, v.ownBlock = some r → B ≤ r ∧ ∃ o : Obj, W.heap[r]? = some o ∧ o.isCells = true := by
  rcases h with ⟨hl, (⟨rfl, h0⟩ | ⟨g, cap, cur, rfl, b1, b2, b3⟩)⟩
  · intro r e; simp [Value.ownBlock] at e
  · intro r e
    obtain rfl : g = r := by simpa [Value.ownBlock] using e
    exact ⟨b1, _, b2, rfl⟩
theorem IH.appended {w W0 : World} {x : Cfg} {cls qb : Nat} {pre : List (Int × Int)} {W : World} (hq : qb < W0.heap.size) (hw : w.heap.size ≤ qb) (h : IH w W0 x cls qb pre W) {v v' : Value} {w5 : World} {tmp : Obj} {y1 y2 : Int}
    (hv : Boxed W qb 44 v) (ho : W.ownsRow W0.heap.size 3 1 v pre.length (pre.map fun y => .int .i64 y.2)) (hown' : w5.ownsRow W0.heap.size 3 1 v' (pre.length + 1) ((pre.map fun y => .int .i64 y.2) ++ [.int .i64 y2])) (hgrow : (W.alloc tmp).grownBy w5 v.ownBlock)
    (hy : ¬ y2 = 0) (hc : classC x y2 = (cls : Int)) (hl : (pre.length : Int) < cntC x cls) : Boxed w5 qb 44 v ∧ KeepN W (w5.setCell ⟨qb, 0, none⟩ v') ∧ IH w W0 x cls qb (pre ++ [(y1, y2)]) (w5.setCell ⟨qb, 0, none⟩ v') := by
  have hv1 : Boxed w5 qb 44 v := (hv.alloc tmp).kept hgrow (hv.not_row (by decide) ho)
  have hoc := own_cells (ho.alloc tmp)
  have hsz := h.same.size
  refine ⟨hv1, ((KeepN.below ((Below.refl _ W).alloc (Nat.le_refl _) tmp)).trans (KeepN.grown hgrow fun r e => (hoc r e).2)).trans (KeepN.grown (grownBy_setCell' w5 qb v') fun r e => by cases e; exact ⟨_, hv1, rfl⟩), ?_⟩
  refine ⟨⟨?_, fun k h1 h2 => ?_⟩, ⟨v', hv1.set v', ?_⟩, ?_, ?_, ?_⟩
  · have := hgrow.size
    simp at this ⊢
    omega
  · rw [Below.heap_setCell w5 ⟨qb, 0, none⟩ v' k h2]
    have hk : k < (W.alloc tmp).heap.size := by simp; omega
    rw [hgrow.block k hk (fun e => by have := (hoc k e.symm).1; omega), Below.heap_alloc W tmp k (by omega)]
    exact h.same.same k h1 h2
  · have e : (pre ++ [(y1, y2)]).length = pre.length + 1 := by simp
    have e2 : ((pre ++ [(y1, y2)]).map fun y => Value.int .i64 y.2) = (pre.map fun y => .int .i64 y.2) ++ [.int .i64 y2] := by simp
    rw [e, e2]
    exact hown'.kept (grownBy_setCell' w5 qb v') (.inr (hv1.not_row (by decide) hown').symm)
  · intro z hz
    rcases List.mem_append.1 hz with hz | hz
    · exact h.good z hz
    · rw [List.mem_singleton.1 hz]; exact ⟨hy, hc⟩
  · simp; omega
  · exact (((h.be.alloc (by have := h.be.size; omega) tmp).grown hgrow (by have := h.be.size; simp; omega) fun k e => by have := (hoc k e).1; omega).setCell (p := ⟨qb, 0, none⟩) hw v')
theorem LH.same {w : World} {x : Cfg} {cls : Int} {v1 v2 : Value} {W0 W : World} {qb : Nat} (h : LH w x cls v1 v2 W0) (hs : SameB W0.heap.size qb W0 W) (hb : Below w.heap.size w W) (hq : w.heap.size + 1 + 1 + 1 < qb) : LH w x cls v1 v2 W :=
  ⟨h.cfg.of_block (hs.same _ h.cfg.lt (by omega)), (hs.same _ h.cl.lt (by omega)).trans h.cl, (hs.same _ h.r1.lt (by omega)).trans h.r1, (hs.same _ h.r2.lt (by omega)).trans h.r2, hb⟩
theorem NeedH.same {x : Cfg} {cls b o N cw : Nat} {f : Nat → Nat} {qb : Nat} {w W0 W : World} (h : NeedH x cls b o N cw f (qb + 1 + 2) (qb + 1 + 1) (qb + 1) W0) (hs : SameB W0.heap.size qb W0 W) (hb : Below w.heap.size w W) (hL : Lim w) (hw : WH w b o N f) : NeedH x cls b o N cw f (qb + 1 + 2) (qb + 1 + 1) (qb + 1) W :=
  ⟨hL.below hb, (World.cell?_of_block (w := W0) (hs.same _ (World.block_lt_of_cell? W0 _ h.c1) (by show qb + 1 + 2 ≠ qb; omega))).trans h.c1, (World.cell?_of_block (w := W0) (hs.same _ (World.block_lt_of_cell? W0 _ h.c2) (by show qb + 1 + 1 ≠ qb; omega))).trans h.c2, h.c3.of_block (hs.same _ h.c3.lt (by omega)), hw.below hb⟩
/-- What List tells of a right config's words. -/
def ListR (x : Cfg) (f : Nat → Nat) (cls : Nat) (L : List Int) (E : List (Int × Int)) : Prop := ∃ k : Nat, (k : Int) ≤ cntC x cls ∧ (∀ i, i < k → ¬ blkH f (wdH x f cls i) = 0 ∧ classC x (blkH f (wdH x f cls i) : Nat) = (cls : Int)) ∧
  ((blkH f (wdH x f cls k) = 0 ∧ L = (List.range k).map (fun i => ((blkH f (wdH x f cls i) : Nat) : Int)) ∧ E = []) ∨
   (¬ blkH f (wdH x f cls k) = 0 ∧ ¬ classC x (blkH f (wdH x f cls k) : Nat) = (cls : Int) ∧ L = [] ∧ E = [(0, wdH x f cls k), (10, 0)]) ∨
   (¬ blkH f (wdH x f cls k) = 0 ∧ classC x (blkH f (wdH x f cls k) : Nat) = (cls : Int) ∧ (k : Int) = cntC x cls ∧ L = [] ∧ E = [(0, wdH x f cls k), (16, 0)]))
def ListP (x : Cfg) (f : Nat → Nat) (cls : Nat) (w : World) (e : Ending) (w' : World) : Prop := ∃ v L E, e = .returned (.tuple #[v, Cs.enc E]) ∧ ListR x f cls L E ∧ w'.ownsRow w.heap.size 3 1 v L.length (L.map (Value.int .i64)) ∧ Below w.heap.size w w'
theorem good_seq {x : Cfg} {f : Nat → Nat} {cls k : Nat} (h : ∀ y ∈ seqH x f cls k, ¬ y.2 = 0 ∧ classC x y.2 = (cls : Int)) (i : Nat) (hi : i < k) : ¬ blkH f (wdH x f cls i) = 0 ∧ classC x (blkH f (wdH x f cls i) : Nat) = (cls : Int) := by
  have h1 := h (wdH x f cls i, ((blkH f (wdH x f cls i) : Nat) : Int)) (by unfold seqH; exact List.mem_map.2 ⟨i, List.mem_range.2 hi, rfl⟩)
  exact ⟨by have := h1.1; simp at this; omega, h1.2⟩
theorem class_in {x : Cfg} {b : Int} {cls : Nat} (h : classC x b = (cls : Int)) : 1 ≤ b ∧ b ≤ x.n0 + x.n1 := by
  unfold classC at h
  by_cases g : b < 1 ∨ x.n0 + x.n1 < b
  · rw [if_pos g] at h; omega
  · omega
/-- Behind the turn of the block for the rounds' deferred calls. -/
theorem LH.out_ {w W0 W : World} {x : Cfg} {v1 v2 : Value} {D : Nat} (h1 : Boxed W (w.heap.size + 1 + 1) 44 v1) (h2 : Boxed W (w.heap.size + 1 + 1 + 1) 46 v2) (hb : Below w.heap.size w W) (hD : W0.heap.size ≤ D) (hw : w.heap.size + 1 + 1 + 1 < W0.heap.size) (hK : W.heap[D]? = some (.deferred (some []))) :
    (W.putObj D (.deferred none)).cell? ⟨w.heap.size + 1 + 1, 0, none⟩ = some v1 ∧ (W.putObj D (.deferred none)).cell? ⟨w.heap.size + 1 + 1 + 1, 0, none⟩ = some v2 ∧ Below w.heap.size w (W.putObj D (.deferred none)) := by
  have g1 : Boxed (W.putObj D (.deferred none)) (w.heap.size + 1 + 1) 44 v1 := (World.putObj_heap_other (by omega)).trans h1
  have g2 : Boxed (W.putObj D (.deferred none)) (w.heap.size + 1 + 1 + 1) 46 v2 := (World.putObj_heap_other (by omega)).trans h2
  exact ⟨g1.cell, g2.cell, hb.trans (belowK_b (w := W0) (by omega) W D _ _ hD hK rfl rfl)⟩
theorem never_out {x : Cfg} (hr : Right x) {f : Nat → Nat} {cls k : Nat} (h : ∀ i, i < k → ¬ blkH f (wdH x f cls i) = 0 ∧ classC x (blkH f (wdH x f cls i) : Nat) = (cls : Int)) : ¬ wdH x f cls k < 0 := by
  cases k with
  | zero => show ¬ 3 + (cls : Int) < 0; omega
  | succ k =>
    have h1 := class_in (h k (by omega)).2
    have h2 := blockC_bound hr h1.1 h1.2
    show ¬ blockC x _ < 0
    omega
set_option maxRecDepth 100000 in
set_option maxHeartbeats 2000000 in
theorem list_good (x : Cfg) (hr : Right x) (cls : Nat) (hc : cls ≤ 1) (b o N cw : Nat) (hN : sizeC x = (N : Int)) (f : Nat → Nat) (w : World) (hL : Lim w) (hw : WH w b o N f) : Calls Tryz.prog 10 #[(.agg #[.int .i64 x.t, .int .i64 x.s, .int .i64 x.l, .int .i64 x.c, .int .i64 x.s0, .int .i64 x.n0, .int .i64 x.s1, .int .i64 x.n1, .int .i64 x.r]), .slice (some ⟨b, o, none⟩) N cw, .int .i64 (cls : Int)] w (ListP x f cls w) := by
  have HL := Lib.hid hL
  have HW := Lib.hid hw
  have HRB := Lib.hid (rightB_true hr)
  have HR := Lib.hid hr
  have dc : decide ((2 : Int) ≤ (cls : Int)) = false := by simp; omega
  have dn : decide ((cls : Int) < 0) = false := by simp
  have dc' : decide (2 ≤ cls) = false := by simp; omega
  clear hL hw hr
  refine (callsIn_wide (n := 5)).1 ?_
  refine callsIn_of_wp_marks Tryz.func10 rfl trivial ?_ rfl
  simp only [Tryz.ntmps10, List.size_toArray, List.length_cons, List.length_nil, Nat.reduceAdd, Nat.reduceSub, Array.replicate_succ, Array.replicate_zero, List.push_toArray, List.append_toArray, List.nil_append, List.cons_append]
  have K0 := Lib.hid (LH.start w x (cls : Int))
  obtain ⟨c0, c1, c2, c3, c4, c5, c6, c7, c8, cc, p1, z1, p2, z2, hq⟩ := LH.all K0.out
  gi_wp2_with fail
  generalize (((w.alloc (.cells #[.int .i64 x.t, .int .i64 x.s, .int .i64 x.l, .int .i64 x.c, .int .i64 x.s0, .int .i64 x.n0, .int .i64 x.s1, .int .i64 x.n1, .int .i64 x.r] 30)).alloc (.cells #[.int .i64 (cls : Int)] 3)).alloc (.cells #[.slice none 0 0] 44)).alloc (.cells #[.nilIface] 46) = Wa at K0 c0 c1 c2 c3 c4 c5 c6 c7 c8 cc p1 z1 p2 z2 hq ⊢
  refine wpIn_wide.2 (wp_scope_straight ((wpIn_wide (n := 5)).1 ?_))
  gi_wp2_with fail
  refine ⟨trivial, ?_⟩
  refine (callsIn_wide.2 (check_yes x _ (HL.out.below K0.out.be) HRB.out)).mono ?_
  rintro e w1 ⟨rfl, hb⟩
  have K1 := Lib.hid (K0.out.below hb)
  clear K0 c0 c1 c2 c3 c4 c5 c6 c7 c8 cc p1 z1 p2 z2 hq hb
  obtain ⟨c0, c1, c2, c3, c4, c5, c6, c7, c8, cc, p1, z1, p2, z2, hq⟩ := LH.all K1.out
  gi_wp2_with fail
  refine ⟨trivial, ?_⟩
  refine (callsIn_wide.2 (size_yes x _ (HL.out.below K1.out.be) HR.out)).mono ?_
  rintro e w2 ⟨rfl, hb⟩
  rw [hN]
  have K2 := Lib.hid (K1.out.below hb)
  clear K1 c0 c1 c2 c3 c4 c5 c6 c7 c8 cc p1 z1 p2 z2 hq hb
  obtain ⟨c0, c1, c2, c3, c4, c5, c6, c7, c8, cc, p1, z1, p2, z2, hq⟩ := LH.all K2.out
  gi_wp2_with fail
  refine wpIn_label ?_
  have hbx := Boxed.new w2 44 (.slice none 0 0)
  have K3 := Lib.hid (K2.out.below (W' := w2.alloc (.cells #[.slice none 0 0] 44)) ((Below.refl _ _).alloc (Nat.le_refl _) _))
  have hq3 : (w2.alloc (.cells #[.slice none 0 0] 44)).heap.size = w2.heap.size + 1 := by simp
  generalize w2.alloc (.cells #[.slice none 0 0] 44) = w3 at hbx K3 hq3 ⊢
  have HBX := Lib.hid hbx
  clear K2 c0 c1 c2 c3 c4 c5 c6 c7 c8 cc p1 z1 p2 z2 hbx
  obtain ⟨c0, c1, c2, c3, c4, c5, c6, c7, c8, cc, p1, z1, p2, z2, -⟩ := LH.all K3.out
  gi_wp2_with fail
  refine ⟨trivial, ?_⟩
  refine (callsIn_wide.2 (hlinks_any x _ N cw (cls : Int) _)).mono ?_
  rintro e w4 ⟨rfl, rfl⟩
  gi_wp2_with fail
  have hnd : NeedH x cls b o N cw f (w2.heap.size + 1 + 2) (w2.heap.size + 1 + 1) (w2.heap.size + 1) (((w3.alloc (.cells #[.int .i64 x.t, .int .i64 x.s, .int .i64 x.l, .int .i64 x.c, .int .i64 x.s0, .int .i64 x.n0, .int .i64 x.s1, .int .i64 x.n1, .int .i64 x.r] 30)).alloc (.cells #[.slice (some ⟨b, o, none⟩) N cw] 32)).alloc (.cells #[.int .i64 (cls : Int)] 3)) := by
    have b1 := cfgAt_box w3 x
    have b2 := Boxed.new (w3.alloc (.cells #[.int .i64 x.t, .int .i64 x.s, .int .i64 x.l, .int .i64 x.c, .int .i64 x.s0, .int .i64 x.n0, .int .i64 x.s1, .int .i64 x.n1, .int .i64 x.r] 30)) 32 (.slice (some ⟨b, o, none⟩) N cw)
    have b3 := Boxed.new ((w3.alloc (.cells #[.int .i64 x.t, .int .i64 x.s, .int .i64 x.l, .int .i64 x.c, .int .i64 x.s0, .int .i64 x.n0, .int .i64 x.s1, .int .i64 x.n1, .int .i64 x.r] 30)).alloc (.cells #[.slice (some ⟨b, o, none⟩) N cw] 32)) 3 (.int .i64 (cls : Int))
    simp only [World.size_alloc, hq3] at b1 b2 b3
    have hbe : Below w.heap.size w (((w3.alloc (.cells #[.int .i64 x.t, .int .i64 x.s, .int .i64 x.l, .int .i64 x.c, .int .i64 x.s0, .int .i64 x.n0, .int .i64 x.s1, .int .i64 x.n1, .int .i64 x.r] 30)).alloc (.cells #[.slice (some ⟨b, o, none⟩) N cw] 32)).alloc (.cells #[.int .i64 (cls : Int)] 3)) := by
      have := K3.out.be.size
      exact ((K3.out.be.alloc (by omega) _).alloc (by simp; omega) _).alloc (by simp; omega) _
    exact ⟨HL.out.below hbe, b3.cell, (b2.alloc _).cell, (b1.below ((Below.refl _ _).alloc (Nat.le_refl _) _)).below ((Below.refl _ _).alloc (Nat.le_refl _) _), HW.out.below hbe⟩
  have K4 := Lib.hid (K3.out.below (W' := ((w3.alloc (.cells #[.int .i64 x.t, .int .i64 x.s, .int .i64 x.l, .int .i64 x.c, .int .i64 x.s0, .int .i64 x.n0, .int .i64 x.s1, .int .i64 x.n1, .int .i64 x.r] 30)).alloc (.cells #[.slice (some ⟨b, o, none⟩) N cw] 32)).alloc (.cells #[.int .i64 (cls : Int)] 3)) (((Below.refl _ _).alloc (Nat.le_refl _) _).alloc (by simp) _ |>.alloc (by simp; omega) _))
  have hbx4 := Lib.hid (((HBX.out.alloc (.cells #[.int .i64 x.t, .int .i64 x.s, .int .i64 x.l, .int .i64 x.c, .int .i64 x.s0, .int .i64 x.n0, .int .i64 x.s1, .int .i64 x.n1, .int .i64 x.r] 30)).alloc (.cells #[.slice (some ⟨b, o, none⟩) N cw] 32)).alloc (.cells #[.int .i64 (cls : Int)] 3))
  have ND := Lib.hid hnd
  have hq4 : (((w3.alloc (.cells #[.int .i64 x.t, .int .i64 x.s, .int .i64 x.l, .int .i64 x.c, .int .i64 x.s0, .int .i64 x.n0, .int .i64 x.s1, .int .i64 x.n1, .int .i64 x.r] 30)).alloc (.cells #[.slice (some ⟨b, o, none⟩) N cw] 32)).alloc (.cells #[.int .i64 (cls : Int)] 3)).heap.size = w2.heap.size + 4 := by simp [hq3]
  generalize ((w3.alloc (.cells #[.int .i64 x.t, .int .i64 x.s, .int .i64 x.l, .int .i64 x.c, .int .i64 x.s0, .int .i64 x.n0, .int .i64 x.s1, .int .i64 x.n1, .int .i64 x.r] 30)).alloc (.cells #[.slice (some ⟨b, o, none⟩) N cw] 32)).alloc (.cells #[.int .i64 (cls : Int)] 3) = W0 at K4 hbx4 ND hq4 ⊢
  generalize w2.heap.size = qb at hq hbx4 ND hq4 ⊢
  clear hnd K3 HBX hq3 c0 c1 c2 c3 c4 c5 c6 c7 c8 cc p1 z1 p2 z2
  have hcn : 0 ≤ cntC x cls ∧ cntC x cls ≤ 12 := by have := HR.out.b; unfold cntC; split <;> omega
  refine range_runs (encs := encH) (Need := NeedH x cls b o N cw f (qb + 1 + 2) (qb + 1 + 1) (qb + 1)) (M := (cntC x cls).toNat) (S := fun xs => ∃ k, xs = seqH x f cls k ∧ wdH x f cls k < 0) (Sp := fun xs => ∃ k, xs = seqH x f cls (k + 1)) (fun _ => rfl) rfl (enters_of Tryz.func40 (by kernel_rfl) rfl)
    (fun l W _ => linksH_any _ x HR.out cls hc b o N cw hN f (qb + 1 + 2) (qb + 1 + 1) (qb + 1) _ l W)
    (IH w W0 x cls qb) (IXH w W0 x cls qb) (fun s X Y h hT => h.turn (by omega) (by omega) hT) (fun c s X Y h hT => IXH.turn (by omega) (by omega) c s X Y h hT)
    (fun s X h => ⟨by have := h.len; omega, ND.out.same h.same h.be HL.out HW.out⟩) (fun s X h => h.same.size)
    ⟨⟨Nat.le_refl _, fun _ _ _ => rfl⟩, ⟨_, hbx4.out, World.ownsRow_nil _ _ _ _⟩, fun y hy => (by cases hy), hcn.1, K4.out.be⟩
    (fun y => { tmps := #[(.agg #[.int .i64 x.t, .int .i64 x.s, .int .i64 x.l, .int .i64 x.c, .int .i64 x.s0, .int .i64 x.n0, .int .i64 x.s1, .int .i64 x.n1, .int .i64 x.r]), .slice (some ⟨b, o, none⟩) N cw, .int .i64 (cls : Int), .pointer (some ⟨w.heap.size, 0, none⟩), undef, .pointer (some ⟨w.heap.size + 1, 0, none⟩), .pointer (some ⟨w.heap.size + 1 + 1, 0, none⟩), .pointer (some ⟨w.heap.size + 1 + 1 + 1, 0, none⟩), .nilIface, .pointer (some ⟨qb, 0, none⟩), .int .i64 y.1, .int .i64 y.2, (.agg #[.int .i64 x.t, .int .i64 x.s, .int .i64 x.l, .int .i64 x.c, .int .i64 x.s0, .int .i64 x.n0, .int .i64 x.s1, .int .i64 x.n1, .int .i64 x.r]), .nilIface, .nilIface, .bool false, undef, .int .i64 (cls : Int), .bool false, .bool false, .int .i64 (cls : Int), .bool false, .bool false, undef, .slice (some ⟨b, o, none⟩) N cw, .int .i64 (N : Int), (.agg #[.int .i64 x.t, .int .i64 x.s, .int .i64 x.l, .int .i64 x.c, .int .i64 x.s0, .int .i64 x.n0, .int .i64 x.s1, .int .i64 x.n1, .int .i64 x.r]), .int .i64 (N : Int), .bool false, undef, (.agg #[.int .i64 x.t, .int .i64 x.s, .int .i64 x.l, .int .i64 x.c, .int .i64 x.s0, .int .i64 x.n0, .int .i64 x.s1, .int .i64 x.n1, .int .i64 x.r]), .slice (some ⟨b, o, none⟩) N cw, .int .i64 (cls : Int), .func (.func 40) #[] #[.pointer (some ⟨qb + 1 + 2, 0, none⟩), .pointer (some ⟨qb + 1 + 1, 0, none⟩), .pointer (some ⟨qb + 1, 0, none⟩)], .int .i64 y.1, .int .i64 y.2, undef, undef, undef, undef, undef, undef, undef, undef, undef, undef, undef, undef, undef, undef, undef, undef, undef, undef, undef, undef, undef, undef, undef, undef, undef, undef, undef, undef, undef], defers := [] }) ?assign ?body ?done ?stop
  case assign =>
    intro l y W K hK
    unfold encH
    gi_wp2
    exact hK
  case body =>
    rintro l pre ⟨y1, y2⟩ W hI
    dsimp only
    have K := Lib.hid (LH.same K4.out hI.same hI.be (by omega))
    have HI := Lib.hid hI
    clear hI
    obtain ⟨c0, c1, c2, c3, c4, c5, c6, c7, c8, cc, p1, z1, p2, z2, hqW⟩ := LH.all K.out
    by_cases hy : y2 = 0
    · subst hy
      gi_wp2
      exact ⟨KeepN.refl _, rfl, pre, (y1, 0), rfl, rfl, HI.out⟩
    · have dy : (y2 == 0) = false := by simpa using hy
      have HCL := Lib.hid (class_any x y2 W.drew ((HL.out.below HI.out.be).below (Below.refl _ _).drew) HR.out)
      obtain ⟨C, hC⟩ : ∃ C, Hid (classC x y2 = C) := ⟨_, Lib.hid rfl⟩
      rw [hC.out] at HCL
      gi_upto_region 13 with (fail)
      gi_cut [39] from 36 (fun cv wc => cv = .bool (C != (cls : Int)) ∧ Hid (Below W.heap.size W wc))
      case first =>
        gi_region_with (refine ⟨trivial, ?_⟩; refine (CallsIn.inRound l (callsIn_wide.2 HCL.out)).mono ?_; rintro e w5 ⟨rfl, hb⟩; have HB5 := Lib.hid ((Below.refl _ _).drew.trans hb); have K5 := Lib.hid (K.out.below HB5.out); have cc5 := K5.out.cl.cell)
        all_goals
          gi_wp2
          gi_meet
          case rel => exact ⟨rfl, HB5⟩
      case rest =>
      obtain ⟨rfl, HB⟩ := hcut
      rename World => wA
      have HI6 := Lib.hid (HI.out.turn (by omega) (by omega) (TurnH.of_below HB.out HI.out.same.size))
      have K6 := Lib.hid (K.out.below HB.out)
      have HKN := Lib.hid (KeepN.below HB.out)
      clear HCL K HI HB c0 c1 c2 c3 c4 c5 c6 c7 c8 cc p1 z1 p2 z2 hqW
      obtain ⟨c0, c1, c2, c3, c4, c5, c6, c7, c8, cc, p1, z1, p2, z2, hqW⟩ := LH.all K6.out
      by_cases hcc : C = (cls : Int)
      · have dcc : (C != (cls : Int)) = false := by simp [hcc]
        rw [dcc]
        obtain ⟨v, hv, ho⟩ := HI6.out.box
        obtain ⟨Av, cap, rfl⟩ := own_form ho
        have hv0 := hv.cell
        have HCC := Lib.hid hcc
        have HO := Lib.hid ho
        have HV := Lib.hid hv
        clear hcc ho hv dcc
        gi_upto_region 15 with (fail)
        gi_cut [48] from 48 (fun cv wd => cv = .bool ((pre.length : Int) == cntC x cls) ∧ Hid (Below wA.heap.size wA wd))
        case first =>
          rcases (show cls = 0 ∨ cls = 1 by omega) with rfl | rfl
          --<R
          · gi_region
            all_goals
              gi_wp2
              gi_meet
              case rel => exact ⟨by first | rfl | simp [cntC], Lib.hid (Below.refl _ _).drew⟩
          · gi_region
            all_goals
              gi_wp2
              gi_meet
              case rel => exact ⟨by first | rfl | simp [cntC], Lib.hid (Below.refl _ _).drew⟩
          --R>
        case rest =>
        obtain ⟨rfl, HB⟩ := hcut
        have HI7 := Lib.hid (HI6.out.turn (by omega) (by omega) (TurnH.of_below HB.out HI6.out.same.size))
        have K7 := Lib.hid (K6.out.below HB.out)
        have HKN7 := Lib.hid (HKN.out.trans (KeepN.below HB.out))
        have HO7 := Lib.hid (own_turn HO.out fun k o hk hc => (HB.out.block _ (Array.getElem?_eq_some_iff.1 hk).1).trans hk)
        have HV7 : Hid (Boxed wc qb 44 (.slice Av pre.length cap)) := Lib.hid ((HB.out.block _ HV.out.lt).trans HV.out)
        clear HKN K6 HO HV HB HI6 c0 c1 c2 c3 c4 c5 c6 c7 c8 cc p1 z1 p2 z2 hqW hv0
        obtain ⟨c0, c1, c2, c3, c4, c5, c6, c7, c8, cc, p1, z1, p2, z2, hqW⟩ := LH.all K7.out
        have hlen := HI7.out.len
        by_cases hfull : (pre.length : Int) = cntC x cls
        · have dfu : ((pre.length : Int) == cntC x cls) = true := by simp [hfull]
          rw [dfu]
          have hnew := fun w => Cs.new_code 16 w rfl
          have hat := fun w => Cs.at_some y1 50 (.int .i64 16) w
          have henc : Cs.enc [(0, y1), (16, 0)] = .iface 91 (.agg #[.iface 50 (.int .i64 16), .int .i64 y1]) := by rw [Cs.enc_word, Cs.enc_code _ _ (by decide)]
          have HNEW := Lib.hid hnew
          have HAT := Lib.hid hat
          have HENC := Lib.hid henc
          have HFU := Lib.hid hfull
          clear hnew hat henc hfull dfu
          gi_wp2_with fail
          refine ⟨trivial, ?_⟩
          refine (CallsIn.inRound l (callsIn_wide.2 (HNEW.out _))).mono ?_
          rintro e w6 ⟨rfl, rfl⟩
          gi_wp2_with fail
          refine ⟨trivial, ?_⟩
          refine (CallsIn.inRound l (callsIn_wide.2 (HAT.out _))).mono ?_
          rintro e w6 ⟨rfl, rfl⟩
          gi_wp2_with fail
          obtain ⟨b1, b2, b3, b4⟩ := LH.errs K7.out (.slice none 0 0) (.iface 91 (.agg #[.iface 50 (.int .i64 16), .int .i64 y1]))
          exact ⟨HKN7.out.trans b3, pre, (y1, y2), [(0, y1), (16, 0)], rfl, HI7.out.good, HI7.out.len, hy, .inr ⟨by show classC x y2 = _; rw [hC.out]; exact HCC.out, HFU.out, rfl⟩, b1, by rw [HENC.out]; exact b2, b4⟩
        · have dfu : ((pre.length : Int) == cntC x cls) = false := by simp [hfull]
          rw [dfu]
          have hv0 := HV7.out.cell
          have hvf := HV7.out.frozen
          obtain ⟨i0, hi, hz0, hz1, hz2⟩ := info_parts infoI
          gi_wp2_with (gi_at_builtin; refine wpListIn_append_own _ rfl _ _ 44 rfl W0.heap.size 3 i0 (.int .i64 0) 1 8 Tryz.underlying44 hi hz0 hz1 hz2 rfl (by decide) _ _ _ rfl (HO7.out.alloc _) ⟨wc.heap.size, 0, none⟩ 1 1 [.int .i64 y2] rfl rfl (cell_one_new _ _ _) (by simp [Value.oneCell']) (by unfold maxLen; omega) (by omega) (by have := HI7.out.same.size; simp; omega) ?_; intro v' w5 hown5 hgrow _; obtain ⟨g', cap', rfl⟩ := ownsRow_succ hown5; have hap := IH.appended (y1 := y1) (by omega) (by omega) HI7.out HV7.out HO7.out hown5 hgrow hy (hC.out.trans HCC.out) (by omega); have hbx1 := hap.1.cell; have hbx2 := hap.1.frozen; have HAP := Lib.hid hap.2; clear hap hgrow hown5 hv0 hvf)
          exact ⟨HKN7.out.trans HAP.out.1, HAP.out.2⟩
      · have dcc : (C != (cls : Int)) = true := by simpa using hcc
        rw [dcc]
        have hnew := fun w => Cs.new_code 10 w rfl
        have hat := fun w => Cs.at_some y1 50 (.int .i64 10) w
        have henc : Cs.enc [(0, y1), (10, 0)] = .iface 91 (.agg #[.iface 50 (.int .i64 10), .int .i64 y1]) := by rw [Cs.enc_word, Cs.enc_code _ _ (by decide)]
        have HNEW := Lib.hid hnew
        have HAT := Lib.hid hat
        have HENC := Lib.hid henc
        clear hnew hat henc
        gi_wp2_with fail
        refine ⟨trivial, ?_⟩
        refine (CallsIn.inRound l (callsIn_wide.2 (HNEW.out _))).mono ?_
        rintro e w6 ⟨rfl, rfl⟩
        gi_wp2_with fail
        refine ⟨trivial, ?_⟩
        refine (CallsIn.inRound l (callsIn_wide.2 (HAT.out _))).mono ?_
        rintro e w6 ⟨rfl, rfl⟩
        gi_wp2_with fail
        obtain ⟨b1, b2, b3, b4⟩ := LH.errs K6.out (.slice none 0 0) (.iface 91 (.agg #[.iface 50 (.int .i64 10), .int .i64 y1]))
        exact ⟨HKN.out.trans b3, pre, (y1, y2), [(0, y1), (10, 0)], rfl, HI6.out.good, HI6.out.len, hy, .inl ⟨by show ¬ classC x y2 = _; rw [hC.out]; exact hcc, rfl⟩, b1, by rw [HENC.out]; exact b2, b4⟩
  case done =>
    rintro D xs W hD ⟨k, rfl, hneg⟩ hI hK
    exact absurd hneg (never_out HR.out (good_seq hI.good))
  case stop =>
    rintro D c pre W hD ⟨k, hpre⟩ hx hK
    rw [seqH_succ] at hpre
    cases c with
    | exit id =>
      obtain ⟨rfl, q, y, e, hy, hi⟩ := hx
      rw [e] at hpre
      obtain ⟨rfl, e1⟩ := List.append_inj' hpre (by simp)
      injection e1 with e1 _
      subst e1
      have K := Lib.hid (LH.same K4.out hi.same hi.be (by omega))
      obtain ⟨c0, c1, c2, c3, c4, c5, c6, c7, c8, cc, p1, z1, p2, z2, hqW⟩ := LH.all K.out
      obtain ⟨v, hv, ho⟩ := hi.box
      obtain ⟨Av, cap, rfl⟩ := own_form ho
      have hv0 := hv.cell
      have HI := Lib.hid hi
      have HO := Lib.hid ho
      have HKD := Lib.hid hK
      clear hi ho hv hK e hpre c0 c1 c2 c3 c4 c5 c6 c7 c8 cc
      dsimp only
      gi_wp2_with fail
      obtain ⟨b1, b2, b3, b4⟩ := LH.errs K.out (.slice Av (seqH x f cls k).length cap) .nilIface
      have b5 : ∀ {v : Value} {n : Nat} {xs : List Value}, W.ownsRow W0.heap.size 3 1 v n xs → ((W.setCell ⟨w.heap.size + 1 + 1, 0, none⟩ (.slice Av (seqH x f cls k).length cap)).setCell ⟨w.heap.size + 1 + 1 + 1, 0, none⟩ .nilIface).ownsRow W0.heap.size 3 1 v n xs := fun h => by
        have h2 := h.kept (grownBy_setCell' W (w.heap.size + 1 + 1) (.slice Av (seqH x f cls k).length cap)) (.inr (K.out.r1.not_row (by decide) h).symm)
        have r2 : Boxed (W.setCell ⟨w.heap.size + 1 + 1, 0, none⟩ (.slice Av (seqH x f cls k).length cap)) (w.heap.size + 1 + 1 + 1) 46 .nilIface := K.out.r2.other (by omega) _
        exact h2.kept (grownBy_setCell' _ (w.heap.size + 1 + 1 + 1) .nilIface) (.inr (r2.not_row (by decide) h2).symm)
      clear p1 z1 p2 z2 hqW hv0
      generalize (W.setCell ⟨w.heap.size + 1 + 1, 0, none⟩ (.slice Av (seqH x f cls k).length cap)).setCell ⟨w.heap.size + 1 + 1 + 1, 0, none⟩ .nilIface = W9 at b1 b2 b3 b4 b5 ⊢
      have hK9 := b3.same _ _ HKD.out rfl
      obtain ⟨g1, g2, g3⟩ := LH.out_ (x := x) b1 b2 b4 hD (by omega) hK9
      have ho9 : (W9.putObj D (.deferred none)).ownsRow W0.heap.size 3 1 (.slice Av (seqH x f cls k).length cap) (seqH x f cls k).length ((seqH x f cls k).map fun y => .int .i64 y.2) := ownsRow_putObj (b5 HO.out) _ hK9 rfl
      refine ⟨by simp, .inl ⟨_, _, rfl, run_takeDeferred (w := W9) hK9, ?_⟩⟩
      refine ⟨.tuple #[.slice Av (seqH x f cls k).length cap, .nilIface], by simp [results, Tryz.results10, go_sem, g1, g2], ?_⟩
      refine ⟨_, (List.range k).map (fun i => ((blkH f (wdH x f cls i) : Nat) : Int)), [], rfl, ⟨k, by have := HI.out.len; rw [seqH_len] at this; exact this, good_seq HI.out.good, .inl ⟨by have : ((blkH f (wdH x f cls k) : Nat) : Int) = 0 := hy; omega, rfl, rfl⟩⟩, ?_, g3⟩
      have e1 : ((List.range k).map (fun i => ((blkH f (wdH x f cls i) : Nat) : Int))).length = (seqH x f cls k).length := by rw [seqH_len]; simp
      have e2 : ((List.range k).map (fun i => ((blkH f (wdH x f cls i) : Nat) : Int))).map (Value.int .i64) = (seqH x f cls k).map fun y => Value.int .i64 y.2 := by simp [seqH]
      rw [e1, e2]
      exact own_mono ho9 (by omega)
    | ret =>
      obtain ⟨q, y, E, e, hg, hl, hy, hE, hb1, hb2, hbe⟩ := hx
      rw [e] at hpre
      obtain ⟨rfl, e1⟩ := List.append_inj' hpre (by simp)
      injection e1 with e1 _
      subst e1
      dsimp only
      gi_wp2_with fail
      obtain ⟨g1, g2, g3⟩ := LH.out_ (x := x) hb1 hb2 hbe hD (by omega) hK
      refine ⟨by simp, .inl ⟨_, _, rfl, run_takeDeferred (w := W) hK, ?_⟩⟩
      refine ⟨.tuple #[.slice none 0 0, Cs.enc E], by simp [results, Tryz.results10, go_sem, g1, g2], ?_⟩
      refine ⟨_, [], E, rfl, ⟨k, by rw [seqH_len] at hl; exact hl, good_seq hg, .inr ?_⟩, World.ownsRow_nil _ _ _ _, g3⟩
      have hy' : ¬ blkH f (wdH x f cls k) = 0 := fun h => hy (by show ((blkH f (wdH x f cls k) : Nat) : Int) = 0; omega)
      rcases hE with ⟨h1, h2⟩ | ⟨h1, h2, h3⟩
      · exact .inl ⟨hy', h1, rfl, h2⟩
      · exact .inr ⟨hy', h1, by rw [seqH_len] at h2; exact h2, rfl, h3⟩
    | _ => exact hx.elim

end Go.Proofs.YtkpffnihnhlghaaGreatDoor
