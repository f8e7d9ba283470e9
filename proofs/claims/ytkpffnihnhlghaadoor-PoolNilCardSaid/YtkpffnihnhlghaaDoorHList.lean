/- List of a right config's words. -/
import Derived.Test.YtkpffnihnhlghaaDoorHIter
import Derived.Test.YtkpffnihnhlghaaDoorCsOne
import Derived.Scope
import Derived.Sort.CutIn
import Derived.Stop.RegionWithIn
namespace Go.Proofs.YtkpffnihnhlghaaDoor
open Go.RowKit Go.Shelf
attribute [local go_sem] Oper.semAt_some

/-- The boxes of List. -/
structure LH (w : World) (x : Cfg) (cls : Int) (v1 v2 : Value) (W : World) : Prop where
  cfg : CfgAt W w.heap.size x
  cl : Boxed W (w.heap.size + 1) 3 (.int .i64 cls)
  r1 : Boxed W (w.heap.size + 1 + 1) 22 v1
  r2 : Boxed W (w.heap.size + 1 + 1 + 1) 43 v2
  be : Below w.heap.size w W
section
variable {w : World} {x : Cfg} {cls : Int} {v1 v2 : Value} {W W' : World}
theorem LH.below (h : LH w x cls v1 v2 W) (hb : Below W.heap.size W W') : LH w x cls v1 v2 W' :=
  ⟨h.cfg.below hb, (hb.block _ h.cl.lt).trans h.cl, (hb.block _ h.r1.lt).trans h.r1, (hb.block _ h.r2.lt).trans h.r2, Below.step h.be hb h.be.size⟩
theorem LH.start (w : World) (x : Cfg) (cls : Int) : LH w x cls (.slice none 0 0) .nilIface ((((w.alloc (.cells #[.int .i64 x.t, .int .i64 x.s, .int .i64 x.l, .int .i64 x.c, .int .i64 x.s0, .int .i64 x.n0, .int .i64 x.s1, .int .i64 x.n1, .int .i64 x.r] 60)).alloc (.cells #[.int .i64 cls] 3)).alloc (.cells #[.slice none 0 0] 22)).alloc (.cells #[.nilIface] 43)) := by
  have h1 := Boxed.new (w.alloc (.cells #[.int .i64 x.t, .int .i64 x.s, .int .i64 x.l, .int .i64 x.c, .int .i64 x.s0, .int .i64 x.n0, .int .i64 x.s1, .int .i64 x.n1, .int .i64 x.r] 60)) 3 (.int .i64 cls)
  have h2 := Boxed.new ((w.alloc (.cells #[.int .i64 x.t, .int .i64 x.s, .int .i64 x.l, .int .i64 x.c, .int .i64 x.s0, .int .i64 x.n0, .int .i64 x.s1, .int .i64 x.n1, .int .i64 x.r] 60)).alloc (.cells #[.int .i64 cls] 3)) 22 (.slice none 0 0)
  have h3 := Boxed.new (((w.alloc (.cells #[.int .i64 x.t, .int .i64 x.s, .int .i64 x.l, .int .i64 x.c, .int .i64 x.s0, .int .i64 x.n0, .int .i64 x.s1, .int .i64 x.n1, .int .i64 x.r] 60)).alloc (.cells #[.int .i64 cls] 3)).alloc (.cells #[.slice none 0 0] 22)) 43 .nilIface
  simp only [World.size_alloc] at h1 h2 h3
  exact ⟨(((cfgAt_box w x).below ((Below.refl _ _).alloc (Nat.le_refl _) _)).below ((Below.refl _ _).alloc (Nat.le_refl _) _)).below ((Below.refl _ _).alloc (Nat.le_refl _) _), (h1.alloc _).alloc _, h2.alloc _, h3, by (repeat (first | with_reducible exact Below.refl _ _ | with_reducible refine Below.drew ?_ | (with_reducible refine Below.setCell ?_ ?side _; case side => exact (by first | (simp; done) | (simp; omega) | omega)) | (with_reducible refine Below.alloc ?_ ?side _; case side => exact (by first | (simp; done) | (simp; omega) | omega))))⟩
theorem LH.all (h : LH w x cls v1 v2 W) : W.cell? ⟨w.heap.size, 0, none⟩ = some (.int .i64 x.t) ∧ W.cell? ⟨w.heap.size, 1, none⟩ = some (.int .i64 x.s) ∧ W.cell? ⟨w.heap.size, 2, none⟩ = some (.int .i64 x.l) ∧ W.cell? ⟨w.heap.size, 3, none⟩ = some (.int .i64 x.c) ∧ W.cell? ⟨w.heap.size, 4, none⟩ = some (.int .i64 x.s0) ∧ W.cell? ⟨w.heap.size, 5, none⟩ = some (.int .i64 x.n0) ∧ W.cell? ⟨w.heap.size, 6, none⟩ = some (.int .i64 x.s1) ∧ W.cell? ⟨w.heap.size, 7, none⟩ = some (.int .i64 x.n1) ∧ W.cell? ⟨w.heap.size, 8, none⟩ = some (.int .i64 x.r) ∧ W.cell? ⟨w.heap.size + 1, 0, none⟩ = some (.int .i64 cls) ∧ W.cell? ⟨w.heap.size + 1 + 1, 0, none⟩ = some v1 ∧ W.frozen? ⟨w.heap.size + 1 + 1, 0, none⟩ = false ∧ W.cell? ⟨w.heap.size + 1 + 1 + 1, 0, none⟩ = some v2 ∧ W.frozen? ⟨w.heap.size + 1 + 1 + 1, 0, none⟩ = false ∧ w.heap.size + 1 + 1 + 1 < W.heap.size := by
  obtain ⟨c0, c1, c2, c3, c4, c5, c6, c7, c8⟩ := h.cfg.cells
  exact ⟨c0, c1, c2, c3, c4, c5, c6, c7, c8, h.cl.cell, h.r1.cell, h.r1.frozen, h.r2.cell, h.r2.frozen, h.r2.lt⟩
end
/-- What lay below n has not changed, but for B. -/
structure SameB (n B : Nat) (X Y : World) : Prop where
  size : X.heap.size ≤ Y.heap.size
  same : ∀ k, k < n → k ≠ B → Y.heap[k]? = X.heap[k]?
theorem SameB.trans {n B : Nat} {X Y Z : World} (h : SameB n B X Y) (k : SameB n B Y Z) : SameB n B X Z := ⟨Nat.le_trans h.size k.size, fun i h1 h2 => (k.same i h1 h2).trans (h.same i h1 h2)⟩
theorem own_turn {W W' : World} {B e s n : Nat} {v : Value} {xs : List Value} (h : W.ownsRow B e s v n xs) (hT : ∀ (k : Nat) (o : Obj), W.heap[k]? = some o → o.isCells = true → W'.heap[k]? = some o) : W'.ownsRow B e s v n xs := by
  rcases h with ⟨hl, (⟨hn, h0⟩ | ⟨g, cap, cur, e', b1, b2, b3⟩)⟩
  · exact ⟨hl, .inl ⟨hn, h0⟩⟩
  · exact ⟨hl, .inr ⟨_, _, cur, e', b1, hT _ _ b2 rfl, b3⟩⟩
theorem own_mono {W : World} {B B' e s n : Nat} {v : Value} {xs : List Value} (h : W.ownsRow B e s v n xs) (hB : B' ≤ B) : W.ownsRow B' e s v n xs := by
  rcases h with ⟨hl, (⟨hn, h0⟩ | ⟨g, cap, cur, e', b1, b2, b3⟩)⟩
  · exact ⟨hl, .inl ⟨hn, h0⟩⟩
  · exact ⟨hl, .inr ⟨_, _, cur, e', by omega, b2, b3⟩⟩
/-- How many blocks a class has. -/
def cntC (x : Cfg) (cls : Nat) : Int := if cls = 0 then x.n0 else x.n1
/-- Between two rounds. -/
structure IH (w W0 : World) (x : Cfg) (cls qb : Nat) (pre : List (Int × Int)) (W : World) : Prop where
  same : SameB W0.heap.size qb W0 W
  box : ∃ v, Boxed W qb 22 v ∧ W.ownsRow W0.heap.size 3 1 v pre.length (pre.map fun y => .int .i64 y.2)
  good : ∀ y ∈ pre, ¬ y.2 = 0 ∧ classC x y.2 = (cls : Int)
  len : (pre.length : Int) ≤ cntC x cls
  be : Below w.heap.size w W
/-- Where a round has left the loop. -/
def IXH (w W0 : World) (x : Cfg) (cls qb : Nat) (c : Code) (pre : List (Int × Int)) (W : World) : Prop := match c with
  | .exit id => id = 0 ∧ ∃ q y, pre = q ++ [y] ∧ y.2 = 0 ∧ IH w W0 x cls qb q W
  | .ret => ∃ q y E, pre = q ++ [y] ∧ (∀ z ∈ q, ¬ z.2 = 0 ∧ classC x z.2 = (cls : Int)) ∧ (q.length : Int) ≤ cntC x cls ∧ ¬ y.2 = 0 ∧ ((¬ classC x y.2 = (cls : Int) ∧ E = [(0, y.1), (10, 0)]) ∨ (classC x y.2 = (cls : Int) ∧ (q.length : Int) = cntC x cls ∧ E = [(0, y.1), (16, 0)])) ∧
      Boxed W (w.heap.size + 1 + 1) 22 (.slice none 0 0) ∧ Boxed W (w.heap.size + 1 + 1 + 1) 43 (Cs.enc E) ∧ Below w.heap.size w W
  | _ => False
theorem IH.turn {w W0 : World} {x : Cfg} {cls qb : Nat} {pre : List (Int × Int)} {X Y : World} (hq : qb < W0.heap.size) (hw : w.heap.size ≤ W0.heap.size) (h : IH w W0 x cls qb pre X) (hT : TurnH W0.heap.size X Y) : IH w W0 x cls qb pre Y := by
  obtain ⟨v, hv, ho⟩ := h.box
  exact ⟨h.same.trans ⟨hT.below.size, fun k h1 _ => hT.below.block k h1⟩, ⟨v, (hT.below.block _ hq).trans hv, own_turn ho hT.same⟩, h.good, h.len, h.be.trans (hT.below.mono hw)⟩
theorem IXH.turn {w W0 : World} {x : Cfg} {cls qb : Nat} (hq : qb < W0.heap.size) (hw : w.heap.size + 1 + 1 + 1 < W0.heap.size) (c : Code) (pre : List (Int × Int)) (X Y : World) (h : IXH w W0 x cls qb c pre X) (hT : TurnH W0.heap.size X Y) : IXH w W0 x cls qb c pre Y := by
  cases c with
  | exit id =>
    obtain ⟨h0, q, y, e, hy, hi⟩ := h
    exact ⟨h0, q, y, e, hy, hi.turn hq (by omega) hT⟩
  | ret =>
    obtain ⟨q, y, E, h1, h2, h3, h4, h5, h6, h7, h8⟩ := h
    exact ⟨q, y, E, h1, h2, h3, h4, h5, (hT.below.block _ (by omega)).trans h6, (hT.below.block _ (by omega)).trans h7, h8.trans (hT.below.mono (by omega))⟩
  | _ => exact h.elim
theorem LH.errs {w : World} {x : Cfg} {cls : Int} {v1 v2 : Value} {W : World} (h : LH w x cls v1 v2 W) (u1 u2 : Value) :
    Boxed ((W.setCell ⟨w.heap.size + 1 + 1, 0, none⟩ u1).setCell ⟨w.heap.size + 1 + 1 + 1, 0, none⟩ u2) (w.heap.size + 1 + 1) 22 u1 ∧ Boxed ((W.setCell ⟨w.heap.size + 1 + 1, 0, none⟩ u1).setCell ⟨w.heap.size + 1 + 1 + 1, 0, none⟩ u2) (w.heap.size + 1 + 1 + 1) 43 u2 ∧
    KeepN W ((W.setCell ⟨w.heap.size + 1 + 1, 0, none⟩ u1).setCell ⟨w.heap.size + 1 + 1 + 1, 0, none⟩ u2) ∧ Below w.heap.size w ((W.setCell ⟨w.heap.size + 1 + 1, 0, none⟩ u1).setCell ⟨w.heap.size + 1 + 1 + 1, 0, none⟩ u2) := by
  have a1 := h.r1.set u1
  have a2 : Boxed (W.setCell ⟨w.heap.size + 1 + 1, 0, none⟩ u1) (w.heap.size + 1 + 1 + 1) 43 v2 := (Below.heap_setCell W ⟨w.heap.size + 1 + 1, 0, none⟩ u1 (w.heap.size + 1 + 1 + 1) (by show w.heap.size + 1 + 1 + 1 ≠ w.heap.size + 1 + 1; omega)).trans h.r2
  refine ⟨(Below.heap_setCell _ ⟨w.heap.size + 1 + 1 + 1, 0, none⟩ u2 (w.heap.size + 1 + 1) (by show w.heap.size + 1 + 1 ≠ w.heap.size + 1 + 1 + 1; omega)).trans a1, a2.set u2, (KeepN.grown (grownBy_setCell' W _ u1) (fun r e => by cases e; exact ⟨_, h.r1, rfl⟩)).trans (KeepN.grown (grownBy_setCell' _ _ u2) (fun r e => by cases e; exact ⟨_, a2, rfl⟩)), ?_⟩
  exact (h.be.setCell (p := ⟨w.heap.size + 1 + 1, 0, none⟩) (by show w.heap.size ≤ w.heap.size + 1 + 1; omega) u1).setCell (p := ⟨w.heap.size + 1 + 1 + 1, 0, none⟩) (by show w.heap.size ≤ w.heap.size + 1 + 1 + 1; omega) u2
theorem own_form {W : World} {B e n : Nat} {v : Value} {xs : List Value} (h : W.ownsRow B e 1 v n xs) : ∃ A cap, v = .slice A n cap := by
  rcases h with ⟨hl, (⟨hn, h0⟩ | ⟨g, cap, cur, e', b1, b2, b3⟩)⟩
  · exact ⟨_, _, by rw [hn, h0]⟩
  · exact ⟨_, _, e'⟩
theorem infoI : (Tryd.prog.info? 3).map (fun i => (i.zero, i.size, i.bytes)) = some (some (.int .i64 0), 1, 8) := by kernel_rfl
theorem own_cells {W : World} {B e n : Nat} {v : Value} {xs : List Value} (h : W.ownsRow B e 1 v n xs) : ∀ r, v.ownBlock = some r → B ≤ r ∧ ∃ o : Obj, W.heap[r]? = some o ∧ o.isCells = true := by
  rcases h with ⟨hl, (⟨rfl, h0⟩ | ⟨g, cap, cur, rfl, b1, b2, b3⟩)⟩
  · intro r e; simp [Value.ownBlock] at e
  · intro r e
    obtain rfl : g = r := by simpa [Value.ownBlock] using e
    exact ⟨b1, _, b2, rfl⟩
theorem IH.appended {w W0 : World} {x : Cfg} {cls qb : Nat} {pre : List (Int × Int)} {W : World} (hq : qb < W0.heap.size) (hw : w.heap.size ≤ qb) (h : IH w W0 x cls qb pre W) {v v' : Value} {w5 : World} {tmp : Obj} {y1 y2 : Int}
    (hv : Boxed W qb 22 v) (ho : W.ownsRow W0.heap.size 3 1 v pre.length (pre.map fun y => .int .i64 y.2)) (hown' : w5.ownsRow W0.heap.size 3 1 v' (pre.length + 1) ((pre.map fun y => .int .i64 y.2) ++ [.int .i64 y2])) (hgrow : (W.alloc tmp).grownBy w5 v.ownBlock)
    (hy : ¬ y2 = 0) (hc : classC x y2 = (cls : Int)) (hl : (pre.length : Int) < cntC x cls) : Boxed w5 qb 22 v ∧ KeepN W (w5.setCell ⟨qb, 0, none⟩ v') ∧ IH w W0 x cls qb (pre ++ [(y1, y2)]) (w5.setCell ⟨qb, 0, none⟩ v') := by
  have hv1 : Boxed w5 qb 22 v := (hv.alloc tmp).kept hgrow (hv.not_row (by decide) ho)
  have hoc := own_cells (ho.alloc tmp)
  have hsz := h.same.size
  refine ⟨hv1, ((KeepN.below ((Below.refl _ W).alloc (Nat.le_refl _) tmp)).trans (KeepN.grown hgrow fun r e => (hoc r e).2)).trans (KeepN.grown (grownBy_setCell' w5 qb v') fun r e => by cases e; exact ⟨_, hv1, rfl⟩), ?_⟩
  refine ⟨⟨?_, fun k h1 h2 => ?_⟩, ⟨v', hv1.set v', ?_⟩, ?_, ?_, ?_⟩
  · have := hgrow.size
    simp at this ⊢
    omega
  · rw [Below.heap_setCell w5 ⟨qb, 0, none⟩ v' k h2]
    have hk : k < (W.alloc tmp).heap.size := by simp; omega
    rw [hgrow.block k hk (fun e => by have := (hoc k e.symm).1; omega), Below.heap_alloc W tmp k (by omega)]
    exact h.same.same k h1 h2
  · have e : (pre ++ [(y1, y2)]).length = pre.length + 1 := by simp
    have e2 : ((pre ++ [(y1, y2)]).map fun y => Value.int .i64 y.2) = (pre.map fun y => .int .i64 y.2) ++ [.int .i64 y2] := by simp
    rw [e, e2]
    exact hown'.kept (grownBy_setCell' w5 qb v') (.inr (hv1.not_row (by decide) hown').symm)
  · intro z hz
    rcases List.mem_append.1 hz with hz | hz
    · exact h.good z hz
    · rw [List.mem_singleton.1 hz]; exact ⟨hy, hc⟩
  · simp; omega
  · exact (((h.be.alloc (by have := h.be.size; omega) tmp).grown hgrow (by have := h.be.size; simp; omega) fun k e => by have := (hoc k e).1; omega).setCell (p := ⟨qb, 0, none⟩) hw v')
theorem LH.same {w : World} {x : Cfg} {cls : Int} {v1 v2 : Value} {W0 W : World} {qb : Nat} (h : LH w x cls v1 v2 W0) (hs : SameB W0.heap.size qb W0 W) (hb : Below w.heap.size w W) (hq : w.heap.size + 1 + 1 + 1 < qb) : LH w x cls v1 v2 W :=
  ⟨h.cfg.of_block (hs.same _ h.cfg.lt (by omega)), (hs.same _ h.cl.lt (by omega)).trans h.cl, (hs.same _ h.r1.lt (by omega)).trans h.r1, (hs.same _ h.r2.lt (by omega)).trans h.r2, hb⟩
theorem NeedH.same {x : Cfg} {cls b o N cw : Nat} {f : Nat → Nat} {qb : Nat} {w W0 W : World} (h : NeedH x cls b o N cw f (qb + 1 + 2) (qb + 1 + 1) (qb + 1) W0) (hs : SameB W0.heap.size qb W0 W) (hb : Below w.heap.size w W) (hL : Lim w) (hw : WH w b o N f) : NeedH x cls b o N cw f (qb + 1 + 2) (qb + 1 + 1) (qb + 1) W :=
  ⟨hL.below hb, (World.cell?_of_block (w := W0) (hs.same _ (World.block_lt_of_cell? W0 _ h.c1) (by show qb + 1 + 2 ≠ qb; omega))).trans h.c1, (World.cell?_of_block (w := W0) (hs.same _ (World.block_lt_of_cell? W0 _ h.c2) (by show qb + 1 + 1 ≠ qb; omega))).trans h.c2, h.c3.of_block (hs.same _ h.c3.lt (by omega)), hw.below hb⟩
/-- What List tells of a right config's words. -/
def ListR (x : Cfg) (f : Nat → Nat) (cls : Nat) (L : List Int) (E : List (Int × Int)) : Prop := ∃ k : Nat, (k : Int) ≤ cntC x cls ∧ (∀ i, i < k → ¬ blkH f (wdH x f cls i) = 0 ∧ classC x (blkH f (wdH x f cls i) : Nat) = (cls : Int)) ∧
  ((blkH f (wdH x f cls k) = 0 ∧ L = (List.range k).map (fun i => ((blkH f (wdH x f cls i) : Nat) : Int)) ∧ E = []) ∨
   (¬ blkH f (wdH x f cls k) = 0 ∧ ¬ classC x (blkH f (wdH x f cls k) : Nat) = (cls : Int) ∧ L = [] ∧ E = [(0, wdH x f cls k), (10, 0)]) ∨
   (¬ blkH f (wdH x f cls k) = 0 ∧ classC x (blkH f (wdH x f cls k) : Nat) = (cls : Int) ∧ (k : Int) = cntC x cls ∧ L = [] ∧ E = [(0, wdH x f cls k), (16, 0)]))
def ListP (x : Cfg) (f : Nat → Nat) (cls : Nat) (w : World) (e : Ending) (w' : World) : Prop := ∃ v L E, e = .returned (.tuple #[v, Cs.enc E]) ∧ ListR x f cls L E ∧ w'.ownsRow w.heap.size 3 1 v L.length (L.map (Value.int .i64)) ∧ Below w.heap.size w w'
theorem good_seq {x : Cfg} {f : Nat → Nat} {cls k : Nat} (h : ∀ y ∈ seqH x f cls k, ¬ y.2 = 0 ∧ classC x y.2 = (cls : Int)) (i : Nat) (hi : i < k) : ¬ blkH f (wdH x f cls i) = 0 ∧ classC x (blkH f (wdH x f cls i) : Nat) = (cls : Int) := by
  have h1 := h (wdH x f cls i, ((blkH f (wdH x f cls i) : Nat) : Int)) (by unfold seqH; exact List.mem_map.2 ⟨i, List.mem_range.2 hi, rfl⟩)
  exact ⟨by have := h1.1; simp at this; omega, h1.2⟩
theorem class_in {x : Cfg} {b : Int} {cls : Nat} (h : classC x b = (cls : Int)) : 1 ≤ b ∧ b ≤ x.n0 + x.n1 := by
  unfold classC at h
  by_cases g : b < 1 ∨ x.n0 + x.n1 < b
  · rw [if_pos g] at h; omega
  · omega
/-- Behind the turn of the block for the rounds' deferred calls. -/
theorem LH.out_ {w W0 W : World} {x : Cfg} {v1 v2 : Value} {D : Nat} (h1 : Boxed W (w.heap.size + 1 + 1) 22 v1) (h2 : Boxed W (w.heap.size + 1 + 1 + 1) 43 v2) (hb : Below w.heap.size w W) (hD : W0.heap.size ≤ D) (hw : w.heap.size + 1 + 1 + 1 < W0.heap.size) (hK : W.heap[D]? = some (.deferred (some []))) :
    (W.putObj D (.deferred none)).cell? ⟨w.heap.size + 1 + 1, 0, none⟩ = some v1 ∧ (W.putObj D (.deferred none)).cell? ⟨w.heap.size + 1 + 1 + 1, 0, none⟩ = some v2 ∧ Below w.heap.size w (W.putObj D (.deferred none)) := by
  have g1 : Boxed (W.putObj D (.deferred none)) (w.heap.size + 1 + 1) 22 v1 := (World.putObj_heap_other (by omega)).trans h1
  have g2 : Boxed (W.putObj D (.deferred none)) (w.heap.size + 1 + 1 + 1) 43 v2 := (World.putObj_heap_other (by omega)).trans h2
  exact ⟨g1.cell, g2.cell, hb.trans (belowK_b (w := W0) (by omega) W D _ _ hD hK rfl rfl)⟩
theorem never_out {x : Cfg} (hr : Right x) {f : Nat → Nat} {cls k : Nat} (h : ∀ i, i < k → ¬ blkH f (wdH x f cls i) = 0 ∧ classC x (blkH f (wdH x f cls i) : Nat) = (cls : Int)) : ¬ wdH x f cls k < 0 := by
  cases k with
  | zero => show ¬ 3 + (cls : Int) < 0; omega
  | succ k =>
    have h1 := class_in (h k (by omega)).2
    have h2 := blockC_bound hr h1.1 h1.2
    show ¬ blockC x _ < 0
    omega

end Go.Proofs.YtkpffnihnhlghaaDoor
