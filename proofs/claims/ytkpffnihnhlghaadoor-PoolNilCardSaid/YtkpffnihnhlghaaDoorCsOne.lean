/- What New, Because and At of package cause make of a trouble's parts. -/
import Derived.Test.YtkpffnihnhlghaaDoorRows
import Derived.WalkKit
import Derived.WalkSpells
import Derived.WalkLawsBesides
import Derived.Lib.Hide
import Derived.RangeFuncNested
import Derived.Recover
import Derived.Stop.Asserts
import Derived.RangeFuncBound
import Derived.RangeFuncCalls
import Derived.RangeFuncLeaves
import Derived.Shelf.Abstract
import Derived.Shelf.RegionOpen
import Derived.OwnWalkIn
import Derived.TacticsInMore
import Derived.LoopNIn
import Derived.LoopIn
import Derived.Deep.LoopGhost
import Derived.Maps.AppendAt
import Derived.WalkSmall
import Derived.Lib.OwnKind
import Derived.Lib.AppendIntMem
import Derived.Lib.SmallJoins
namespace Go.Proofs.YtkpffnihnhlghaaDoor.Cs
open Go.RowKit


/-- A trouble's parts, the outermost one first: (c, n): the code c, or, if c is 0, the word n. -/
def enc : List (Int × Int) → Value
  | [] => .nilIface
  | (c, n) :: r => if c = 0 then .iface 234 (.agg #[enc r, .int .i64 n]) else
      if r.isEmpty then .iface 46 (.int .i64 c) else .iface 232 (.agg #[.int .i64 c, enc r])

set_option maxHeartbeats 400000 in
theorem new_nil (w : World) : Calls Tryd.prog 52 #[.int .i64 0] w fun e w' => e = .returned .nilIface ∧ w = w' := by
  go_enter Tryd.func52, Tryd.ntmps52
  go_wp2
  go_ret
  exact ⟨rfl, rfl⟩

set_option maxHeartbeats 400000 in
theorem new_code (c : Int) (w : World) (hc : (c == 0) = false) : Calls Tryd.prog 52 #[.int .i64 c] w fun e w' => e = .returned (.iface 46 (.int .i64 c)) ∧ w = w' := by
  go_enter Tryd.func52, Tryd.ntmps52
  go_wp2
  go_ret
  exact ⟨rfl, rfl⟩

set_option maxHeartbeats 400000 in
theorem at_nil (n : Int) (w : World) : Calls Tryd.prog 154 #[.nilIface, .int .i64 n] w fun e w' => e = .returned .nilIface ∧ w = w' := by
  go_enter Tryd.func154, Tryd.ntmps154
  go_wp2
  go_ret
  exact ⟨rfl, rfl⟩

set_option maxHeartbeats 400000 in
theorem at_some (n : Int) (t : TypeId) (u : Value) (w : World) : Calls Tryd.prog 154 #[.iface t u, .int .i64 n] w fun e w' => e = .returned (.iface 234 (.agg #[.iface t u, .int .i64 n])) ∧ w = w' := by
  go_enter Tryd.func154, Tryd.ntmps154
  go_wp2
  go_ret
  exact ⟨rfl, rfl⟩

def becauseP (c : Int) (p : List (Int × Int)) : List (Int × Int) := if c = 0 then p else (c, 0) :: p
def atP (p : List (Int × Int)) (n : Int) : List (Int × Int) := if p.isEmpty then [] else (0, n) :: p

theorem enc_word (n : Int) (r : List (Int × Int)) : enc ((0, n) :: r) = .iface 234 (.agg #[enc r, .int .i64 n]) := by simp [enc]
theorem enc_code (c n : Int) (h : ¬ c = 0) : enc [(c, n)] = .iface 46 (.int .i64 c) := by simp [enc, h]
theorem enc_over (c n : Int) (h : ¬ c = 0) (y : Int × Int) (r : List (Int × Int)) : enc ((c, n) :: y :: r) = .iface 232 (.agg #[.int .i64 c, enc (y :: r)]) := by rw [enc]; simp [h]

theorem enc_cons (x : Int × Int) (r : List (Int × Int)) : ∃ t u, enc (x :: r) = .iface t u := by
  obtain ⟨c, n⟩ := x
  by_cases h : c = 0
  · subst h; exact ⟨_, _, enc_word _ _⟩
  · cases r with
    | nil => exact ⟨_, _, enc_code _ _ h⟩
    | cons y r => exact ⟨_, _, enc_over _ _ h _ _⟩

theorem at_any (p : List (Int × Int)) (n : Int) (w : World) : Calls Tryd.prog 154 #[enc p, .int .i64 n] w fun e w' => e = .returned (enc (atP p n)) ∧ w = w' := by
  cases p with
  | nil => exact at_nil n w
  | cons x r =>
    obtain ⟨t, u, hx⟩ := enc_cons x r
    have := at_some n t u w
    rw [← hx, ← enc_word] at this
    exact this

end Go.Proofs.YtkpffnihnhlghaaDoor.Cs

namespace Go.Proofs.YtkpffnihnhlghaaDoor.Cs
open Go.RowKit


/-- A row of rows of errors, which links makes for itself. -/
def is93 : Obj → Bool
  | .cells _ t _ => t == 227
  | _ => false
/-- A row of rows, or a row, of errors. -/
def isRow : Obj → Bool
  | .cells _ t _ => t == 227 || t == 43
  | _ => false

/-- The links of a trouble: its parts from each of them on. -/
def chain : List (Int × Int) → List (List (Int × Int))
  | [] => []
  | x :: r => (x :: r) :: chain r

/-- What links may do between two rounds. -/
structure Turn (B : Nat) (W W' : World) : Prop where
  below : Below B W W'
  same : ∀ (k : Nat) (o : Obj), W.heap[k]? = some o → is93 o = false → W'.heap[k]? = some o
/-- What the loop's law and links may do, together. -/
structure TurnC (B : Nat) (W W' : World) : Prop where
  below : Below B W W'
  same : ∀ (k : Nat) (o : Obj), W.heap[k]? = some o → o.isCells = true → is93 o = false → W'.heap[k]? = some o
/-- What a round of the caller's must keep. -/
structure Keep (W W' : World) : Prop where
  size : W.heap.size ≤ W'.heap.size
  same : ∀ (k : Nat) (o : Obj), W.heap[k]? = some o → (o.isCells = false ∨ isRow o = true) → W'.heap[k]? = some o

theorem Turn.c {B : Nat} {W W' : World} (h : Turn B W W') : TurnC B W W' := ⟨h.below, fun k o hk _ h9 => h.same k o hk h9⟩
theorem Turn.refl (B : Nat) (W : World) : Turn B W W := ⟨Below.refl _ _, fun _ _ h _ => h⟩
theorem Turn.trans {B : Nat} {X Y Z : World} (h : Turn B X Y) (k : Turn B Y Z) : Turn B X Z := ⟨h.below.trans k.below, fun i o hi h9 => k.same i o (h.same i o hi h9) h9⟩
theorem Turn.mono {B B' : Nat} {X Y : World} (h : Turn B X Y) (hb : B' ≤ B) : Turn B' X Y := ⟨h.below.mono hb, h.same⟩
theorem Turn.alloc {B : Nat} (W : World) (hB : B ≤ W.heap.size) (o : Obj) : Turn B W (W.alloc o) :=
  ⟨(Below.refl B W).alloc hB o, fun k _ hk _ => (Below.heap_alloc W o k (Array.getElem?_eq_some_iff.1 hk).1).trans hk⟩
theorem Turn.drew {B : Nat} (W : World) : Turn B W W.drew := ⟨(Below.refl B W).drew, fun _ _ h _ => h⟩
theorem Turn.setCell {B : Nat} {W : World} {g : Nat} {cur : Array Value} {fz : Nat × Nat} (hB : B ≤ g) (hg : W.heap[g]? = some (.cells cur 227 fz)) (off : Nat) (v : Value) : Turn B W (W.setCell ⟨g, off, none⟩ v) :=
  ⟨(Below.refl B W).setCell (p := ⟨g, off, none⟩) hB v, fun k o hk h9 => by
    by_cases e : k = g
    · subst e; rw [hg] at hk; cases hk; simp [is93] at h9
    · exact (Below.heap_setCell W _ v k e).trans hk⟩
theorem Turn.grown {B : Nat} {W W' : World} {row : Option Nat} (hg : W.grownBy W' row) (hB : B ≤ W.heap.size) (hrow : ∀ r, row = some r → B ≤ r ∧ ∃ cur fz, W.heap[r]? = some (.cells cur 227 fz)) : Turn B W W' :=
  ⟨(Below.refl B W).grown hg hB (fun k e => (hrow k e).1), fun k o hk h9 => by
    refine (hg.block k (Array.getElem?_eq_some_iff.1 hk).1 ?_).trans hk
    intro e
    obtain ⟨_, cur, fz, hr⟩ := hrow k e.symm
    rw [hk] at hr; cases hr; simp [is93] at h9⟩

theorem Keep.refl (W : World) : Keep W W := ⟨Nat.le_refl _, fun _ _ h _ => h⟩
theorem Keep.trans {X Y Z : World} (h : Keep X Y) (k : Keep Y Z) : Keep X Z := ⟨Nat.le_trans h.size k.size, fun i o hi ho => k.same i o (h.same i o hi ho) ho⟩
theorem Keep.alloc (W : World) (o : Obj) : Keep W (W.alloc o) := ⟨by simp, fun k _ hk _ => (Below.heap_alloc W o k (Array.getElem?_eq_some_iff.1 hk).1).trans hk⟩
theorem Keep.drew (W : World) : Keep W W.drew := ⟨Nat.le_refl _, fun _ _ h _ => h⟩
theorem Keep.below {W W' : World} (h : Below W.heap.size W W') : Keep W W' := ⟨h.size, fun k _ hk _ => (h.block k (Array.getElem?_eq_some_iff.1 hk).1).trans hk⟩
theorem Keep.of_grownBy {W W' : World} {row : Option Nat} (hg : W.grownBy W' row) (hrow : ∀ r, row = some r → ∃ o : Obj, W.heap[r]? = some o ∧ o.isCells = true ∧ isRow o = false) : Keep W W' :=
  ⟨hg.size, fun k o hk ho => by
    refine (hg.block k (Array.getElem?_eq_some_iff.1 hk).1 ?_).trans hk
    intro e
    obtain ⟨o', ho', h1, h2⟩ := hrow k e.symm
    rw [hk] at ho'; cases ho'
    rcases ho with h | h
    · rw [h1] at h; cases h
    · rw [h2] at h; cases h⟩
theorem TurnC.putObj {B : Nat} {W : World} {l : Nat} {o : Obj} (o' : Obj) (hB : B ≤ l) (hl : W.heap[l]? = some o) (ho : o.isCells = false) : TurnC B W (W.putObj l o') :=
  ⟨(Below.refl B W).grown (grownBy_putObj' W l o') (by have := (Array.getElem?_eq_some_iff.1 hl).1; omega) (fun k e => by cases e; omega), fun k x hk hc _ =>
    (World.putObj_heap_other (fun e => by subst e; rw [hl] at hk; cases hk; rw [ho] at hc; cases hc)).trans hk⟩
theorem TurnC.alloc {B : Nat} (W : World) (hB : B ≤ W.heap.size) (o : Obj) : TurnC B W (W.alloc o) := (Turn.alloc W hB o).c
theorem TurnC.trans {B : Nat} {X Y Z : World} (h : TurnC B X Y) (k : TurnC B Y Z) : TurnC B X Z := ⟨h.below.trans k.below, fun i o hi hc h9 => k.same i o (h.same i o hi hc h9) hc h9⟩

/-- links' word, at the yield of loop l, over W: whatever the rounds do that they may, each link of t comes, in order. -/
def LinksStop (P : Program) (m : Nat) (t : List (Int × Int)) (l Bn : Nat) (W : World) : Prop :=
  ∀ (J Jx : List (List (Int × Int)) → World → Prop), (∀ s X Y, J s X → Turn W.heap.size X Y → J s Y) →
    (∀ pre q X, pre ++ chain q = chain t → q ≠ [] → J pre X → YieldAt Fence.wide (m - 1) P l #[enc q] X fun e X' =>
      (e = .returned (.bool true) ∧ J (pre ++ [q]) X' ∧ Keep X X') ∨ (e = .returned (.bool false) ∧ Jx (pre ++ [q]) X')) →
    J [] W →
    CallsIn Fence.wide m P 135 #[.func (.yield l) #[] #[], .pointer (some ⟨Bn, 0, none⟩)] W fun e W' =>
      (∃ v, e = .returned v) ∧ (J (chain t) W' ∨ ∃ pre, pre <+: chain t ∧ Jx pre W')

/-- How the body of a round may be left. -/
def bodyEnd (I : List (List (Int × Int)) → World → Prop) (Ix : List (List (Int × Int)) → World → Prop) (xs : List (List (Int × Int))) (W : World) : Exit → Act → World → Prop
  | .normal, _, W' => Keep W W' ∧ I xs W'
  | .ret, _, W' => Keep W W' ∧ Ix xs W'
  | _, _, _ => False

theorem range_links {P : Program} {n : Nat} {g : Operand} {ps : Array Tmp} {assign body : Code} {Q : Exit → Act → World → Prop} {a : Act} {w : World} {t : List (Int × Int)} {Bn : Nat}
    (hps : ps.size = 1) (hg : a.eval g = .func (.func 135) #[] #[.pointer (some ⟨Bn, 0, none⟩)]) (eg : ∀ args w, (callFunc 135 args).run P w = .ok (.enter 135 args) w)
    (hlinks : ∀ l W, Below w.heap.size w W → LinksStop P (n - 1) t l Bn W)
    (I Ix : List (List (Int × Int)) → World → Prop) (hI : ∀ s X Y, I s X → TurnC w.heap.size X Y → I s Y) (hIx : ∀ s X Y, Ix s X → TurnC w.heap.size X Y → Ix s Y) (h0 : I [] w) (a₁ : List (Int × Int) → Act)
    (hassign : ∀ (l : Nat) (q : List (Int × Int)) (W : World) (K : Act → World → Prop), K (a₁ q) W →
      assign.wpIn (Fence.wide.inRound l) (n - 1 - 1) P (Exit.then K (fun _ _ _ => False)) { tmps := (ps.zip #[enc q]).foldl (fun t (p, v) => t.setIfInBounds p v) a.tmps, defers := [] } W)
    (hbody : ∀ (l : Nat) (pre : List (List (Int × Int))) (q : List (Int × Int)) (W : World), pre ++ chain q = chain t → q ≠ [] → I pre W → body.wpIn (Fence.wide.inRound l) (n - 1 - 1) P (bodyEnd I Ix (pre ++ [q]) W) (a₁ q) W)
    (hdone : ∀ (D : Nat) (W : World), w.heap.size ≤ D → I (chain t) W → W.heap[D]? = some (.deferred (some [])) → Q .normal { a with defers := { target := .collected D, args := #[] } :: a.defers } W)
    (hstop : ∀ (D : Nat) (pre : List (List (Int × Int))) (W : World), w.heap.size ≤ D → pre <+: chain t → Ix pre W → W.heap[D]? = some (.deferred (some [])) → Code.ret.wpIn Fence.wide n P Q { a with defers := { target := .collected D, args := #[] } :: a.defers } W) :
    (Code.rangeFunc g ps assign body).wpIn Fence.wide n P Q a w := by
  refine wpIn_rangeFunc ?_
  intro fn hfn
  show ∃ l mark w₁ d w₁' f args w₂, (Instr.enterLoop fn a.tmps ps assign body none).run P w = .ok (l, mark) w₁ ∧ _
  obtain ⟨rec, hrec⟩ : ∃ rec : LoopState → Option Code → Loop, rec = fun st pe => { state := st, pending := pe, fn, tmps := a.tmps, params := ps, assign, body, defers := w.heap.size } := ⟨_, rfl⟩
  obtain ⟨W1, hW1⟩ : ∃ W1, (w.alloc (.deferred (some []))).alloc (.loop (rec .ready none)) = W1 := ⟨_, rfl⟩
  have hz1 : W1.heap.size = w.heap.size + 2 := by rw [← hW1]; simp
  have hL1 : W1.heap[w.heap.size + 1]? = some (.loop (rec .ready none)) := by
    rw [← hW1]; have := World.alloc_heap_new (w.alloc (.deferred (some []))) (.loop (rec .ready none)); rwa [World.size_alloc] at this
  have hK1 : W1.heap[w.heap.size]? = some (.deferred (some [])) := by
    rw [← hW1]; exact (Below.heap_alloc _ _ _ (by simp)).trans (World.alloc_heap_new w _)
  have hT1 : TurnC w.heap.size w W1 := by
    rw [← hW1]; exact (TurnC.alloc w (Nat.le_refl _) _).trans (TurnC.alloc _ (by simp) _)
  refine ⟨w.heap.size + 1, [{ target := .collected w.heap.size, args := #[] }], W1, { target := .fn (.func 135) #[.pointer (some ⟨Bn, 0, none⟩)], args := #[.func (.yield (w.heap.size + 1)) #[] #[]] }, W1, 135,
    #[.func (.yield (w.heap.size + 1)) #[] #[], .pointer (some ⟨Bn, 0, none⟩)], W1, ?_, ?_, ?_, ?_, ?_, ?_⟩
  · rw [← hW1, hrec]; exact run_enterLoop_outer _ _ _ _ _
  · simp only [resolve, hg]
    simp [go_sem]
  · intro f' _; trivial
  · simp [invoke, go_sem, eg]
  · intro h; cases h
  · have hlt1 : w.heap.size + 1 < W1.heap.size := by omega
    refine (hlinks (w.heap.size + 1) W1 hT1.below
      (fun pre W => I pre W ∧ W.heap[w.heap.size + 1]? = some (.loop (rec .ready none)) ∧ W.heap[w.heap.size]? = some (.deferred (some [])))
      (fun pre W => Ix pre W ∧ W.heap[w.heap.size + 1]? = some (.loop (rec .done (some .ret))) ∧ W.heap[w.heap.size]? = some (.deferred (some [])))
      (fun s X Y hs hT => ⟨hI s X Y hs.1 ((hT.mono (by omega)).c), hT.same _ _ hs.2.1 rfl, hT.same _ _ hs.2.2 rfl⟩)
      ?_ ⟨hI _ _ _ h0 hT1, hL1, hK1⟩).mono ?_
    · rintro pre q W hpre hq ⟨hi, hl, hk⟩
      have hlt : w.heap.size + 1 < W.heap.size := (Array.getElem?_eq_some_iff.1 hl).1
      have hy := run_yield (P := P) (args := #[enc q]) hl (by rw [hrec]; simp [hps])
      rw [hrec] at hy
      refine ⟨fn, _, assign, body, hy, roundIn_of_wpIn hfn (hassign _ q W _ ?_)⟩
      clear hy
      refine ⟨_, run_beginRound hl (by rw [hrec]), ?_⟩
      obtain ⟨W2, hW2⟩ : ∃ W2, W.putObj (w.heap.size + 1) (.loop { rec .ready none with state := .busy }) = W2 := ⟨_, rfl⟩
      have hl2 : W2.heap[w.heap.size + 1]? = some (.loop { rec .ready none with state := .busy }) := by rw [← hW2]; exact World.putObj_heap_same hlt
      have hk2 : W2.heap[w.heap.size]? = some (.deferred (some [])) := by rw [← hW2]; exact (World.putObj_heap_other (by omega)).trans hk
      have hi2 : I pre W2 := by rw [← hW2]; exact hI _ _ _ hi (TurnC.putObj _ (by omega) hl rfl)
      have hs2 : W2.heap.size = W.heap.size := by rw [← hW2]; simp
      have hkeep2 : ∀ k o, W.heap[k]? = some o → k ≠ w.heap.size + 1 → W2.heap[k]? = some o := fun k o hk hne => by rw [← hW2]; exact (World.putObj_heap_other hne).trans hk
      rw [hW2]
      refine wpIn_mono (hbody _ pre q W2 hpre hq hi2) ?_
      rintro e a3 W3 hp
      have fin : ∀ (jump : Option Code), Keep W2 W3 →
          (Instr.endRound (w.heap.size + 1) jump).run P W3 = .ok (.bool jump.isNone) (W3.putObj (w.heap.size + 1) (.loop (rec (if jump.isNone then .ready else .done) jump))) ∧
          W3.heap[w.heap.size + 1]? = some (.loop { rec .ready none with state := .busy }) ∧
          (W3.putObj (w.heap.size + 1) (.loop (rec (if jump.isNone then .ready else .done) jump))).heap[w.heap.size + 1]? = some (.loop (rec (if jump.isNone then .ready else .done) jump)) ∧
          (W3.putObj (w.heap.size + 1) (.loop (rec (if jump.isNone then .ready else .done) jump))).heap[w.heap.size]? = some (.deferred (some [])) := fun jump hk3 => by
        have hl3 := hk3.same _ _ hl2 (.inl rfl)
        have hr := run_endRound (P := P) jump hl3
        rw [hrec] at hr ⊢
        exact ⟨hr, by rw [hrec] at hl3; exact hl3, World.putObj_heap_same (Array.getElem?_eq_some_iff.1 hl3).1, (World.putObj_heap_other (by omega)).trans (hk3.same _ _ hk2 (.inl rfl))⟩
      cases e with
      | normal =>
        obtain ⟨hk3, hi3⟩ := hp
        obtain ⟨hr, hl3, hl4, hk4⟩ := fin none hk3
        refine ⟨_, _, hr, .inl ⟨rfl, ⟨hI _ _ _ hi3 (TurnC.putObj _ (by omega) hl3 rfl), hl4, hk4⟩, ?_⟩⟩
        refine ⟨by have := hk3.size; simp; omega, fun k o hk' ho => ?_⟩
        by_cases hkl : k = w.heap.size + 1
        · subst hkl
          rw [hl] at hk'; cases hk'
          exact hl4
        · exact (World.putObj_heap_other hkl).trans (hk3.same k o (hkeep2 k o hk' hkl) ho)
      | ret =>
        obtain ⟨hk3, hi3⟩ := hp
        obtain ⟨hr, hl3, hl4, hk4⟩ := fin (some .ret) hk3
        exact ⟨_, _, hr, .inr ⟨rfl, hIx _ _ _ hi3 (TurnC.putObj _ (by omega) hl3 rfl), hl4, hk4⟩⟩
      | exit id => exact hp.elim
      | goto t => exact hp.elim
      | panic ch => exact hp.elim
      | outgrown => exact hp.elim
    · rintro e W2 ⟨⟨v, rfl⟩, (⟨hi, hl, hk⟩ | ⟨pre, hp, hi, hl, hk⟩)⟩
      · exact ⟨none, _, by have := run_endLoop (P := P) hl (by rw [hrec]; simp); rw [hrec] at this; exact this, hdone _ _ (Nat.le_refl _) (hI _ _ _ hi (TurnC.putObj _ (by omega) hl rfl)) ((World.putObj_heap_other (by omega)).trans hk)⟩
      · exact ⟨some .ret, _, by have := run_endLoop (P := P) hl (by rw [hrec]; simp); rw [hrec] at this; exact this, hstop _ pre _ (Nat.le_refl _) hp (hIx _ _ _ hi (TurnC.putObj _ (by omega) hl rfl)) ((World.putObj_heap_other (by omega)).trans hk)⟩

end Go.Proofs.YtkpffnihnhlghaaDoor.Cs

namespace Go.Proofs.YtkpffnihnhlghaaDoor.Cs
open Go.RowKit


theorem as38_38 (v : Value) (x : TypeId) (w : World) : (Instr.typeAssert (.iface 46 v) x 46 true).run Tryd.prog w = .ok (.tuple #[v, .bool true]) w := by
  simp [Instr.typeAssert, run_underlying Tryd.underlying46]
theorem as62_62 (v : Value) (x : TypeId) (w : World) : (Instr.typeAssert (.iface 232 v) x 232 true).run Tryd.prog w = .ok (.tuple #[v, .bool true]) w := by
  simp [Instr.typeAssert, run_underlying Tryd.underlying232]
theorem as66_66 (v : Value) (x : TypeId) (w : World) : (Instr.typeAssert (.iface 234 v) x 234 true).run Tryd.prog w = .ok (.tuple #[v, .bool true]) w := by
  simp [Instr.typeAssert, run_underlying Tryd.underlying234]
theorem as62_38 (v : Value) (x : TypeId) (w : World) : (Instr.typeAssert (.iface 232 v) x 46 true).run Tryd.prog w = .ok (.tuple #[.int .i64 0, .bool false]) w := by
  simp [Instr.typeAssert, run_underlying Tryd.underlying46, Tryd.zeroValue46]
theorem as66_38 (v : Value) (x : TypeId) (w : World) : (Instr.typeAssert (.iface 234 v) x 46 true).run Tryd.prog w = .ok (.tuple #[.int .i64 0, .bool false]) w := by
  simp [Instr.typeAssert, run_underlying Tryd.underlying46, Tryd.zeroValue46]
theorem as38_62 (v : Value) (x : TypeId) (w : World) : (Instr.typeAssert (.iface 46 v) x 232 true).run Tryd.prog w = .ok (.tuple #[.agg #[.int .i64 0, .nilIface], .bool false]) w := by
  simp [Instr.typeAssert, run_underlying Tryd.underlying232, Tryd.zeroValue232]
theorem as66_62 (v : Value) (x : TypeId) (w : World) : (Instr.typeAssert (.iface 234 v) x 232 true).run Tryd.prog w = .ok (.tuple #[.agg #[.int .i64 0, .nilIface], .bool false]) w := by
  simp [Instr.typeAssert, run_underlying Tryd.underlying232, Tryd.zeroValue232]
theorem as38_66 (v : Value) (x : TypeId) (w : World) : (Instr.typeAssert (.iface 46 v) x 234 true).run Tryd.prog w = .ok (.tuple #[.agg #[.nilIface, .int .i64 0], .bool false]) w := by
  simp [Instr.typeAssert, run_underlying Tryd.underlying234, Tryd.zeroValue234]
theorem as62_66 (v : Value) (x : TypeId) (w : World) : (Instr.typeAssert (.iface 232 v) x 234 true).run Tryd.prog w = .ok (.tuple #[.agg #[.nilIface, .int .i64 0], .bool false]) w := by
  simp [Instr.typeAssert, run_underlying Tryd.underlying234, Tryd.zeroValue234]
theorem as38_107 (v : Value) (x : TypeId) (w : World) : (Instr.typeAssert (.iface 46 v) x 224 true).run Tryd.prog w = .ok (.tuple #[.nilIface, .bool false]) w :=
  run_typeAssert_lacksB Tryd.underlying224 (by kernel_rfl) (by kernel_rfl) v x w
theorem as38_109 (v : Value) (x : TypeId) (w : World) : (Instr.typeAssert (.iface 46 v) x 226 true).run Tryd.prog w = .ok (.tuple #[.nilIface, .bool false]) w :=
  run_typeAssert_lacksB Tryd.underlying226 (by kernel_rfl) (by kernel_rfl) v x w
theorem as62_107 (v : Value) (x : TypeId) (w : World) : (Instr.typeAssert (.iface 232 v) x 224 true).run Tryd.prog w = .ok (.tuple #[.iface 232 v, .bool true]) w :=
  run_typeAssert_hasB Tryd.underlying224 (by kernel_rfl) v x w
theorem as66_107 (v : Value) (x : TypeId) (w : World) : (Instr.typeAssert (.iface 234 v) x 224 true).run Tryd.prog w = .ok (.tuple #[.iface 234 v, .bool true]) w :=
  run_typeAssert_hasB Tryd.underlying224 (by kernel_rfl) v x w

attribute [go_sem] as38_38 as62_62 as66_66 as62_38 as66_38 as38_62 as66_62 as38_66 as62_66 as38_107 as38_109 as62_107 as66_107

theorem meth_over (x y : Value) (w : World) : (method 383 232 (.agg #[x, y]) "Unwrap").run Tryd.prog w = .ok (196, .agg #[x, y]) w := by kernel_rfl
theorem meth_at (x y : Value) (w : World) : (method 383 234 (.agg #[x, y]) "Unwrap").run Tryd.prog w = .ok (198, .agg #[x, y]) w := by kernel_rfl
attribute [go_sem] meth_over meth_at

set_option maxRecDepth 100000 in
set_option maxHeartbeats 400000 in
theorem stranger_code (v : Value) (w : World) : Calls Tryd.prog 103 #[.iface 46 v] w fun e w' => e = .returned (.bool false) ∧ w = w' := by
  go_enter Tryd.func103, Tryd.ntmps103
  go_wp2
  go_ret
  exact ⟨rfl, rfl⟩

set_option maxRecDepth 100000 in
set_option maxHeartbeats 400000 in
theorem stranger_over (v : Value) (w : World) : Calls Tryd.prog 103 #[.iface 232 v] w fun e w' => e = .returned (.bool false) ∧ w = w' := by
  go_enter Tryd.func103, Tryd.ntmps103
  go_wp2
  go_ret
  exact ⟨rfl, rfl⟩

set_option maxRecDepth 100000 in
set_option maxHeartbeats 400000 in
theorem stranger_at (v : Value) (w : World) : Calls Tryd.prog 103 #[.iface 234 v] w fun e w' => e = .returned (.bool false) ∧ w = w' := by
  go_enter Tryd.func103, Tryd.ntmps103
  go_wp2
  go_ret
  exact ⟨rfl, rfl⟩

set_option maxRecDepth 100000 in
set_option maxHeartbeats 400000 in
theorem deferred_recover (w : World) : CallsD Tryd.prog 152 #[] .returning w fun e u' w' => u' = .returning ∧ (e = .returned (.tuple #[]) ∧ w = w') := by
  refine callsD_of_wpS Tryd.func152 rfl fun c₀ cs hu => ?_
  apply wpS_region; simp [wpOpsS, go_sem, recoverD, hu, Tryd.ntmps152]
  cases c₀
  simp_all [bodyPostS, results, Tryd.results152]

set_option maxRecDepth 100000 in
set_option maxHeartbeats 400000 in
theorem wrapped_code (v : Value) (w : World) : Calls Tryd.prog 136 #[.iface 46 v] w fun e w' => e = .returned (.slice none 0 0) ∧ w = w' := by
  go_enter_defers Tryd.func136, Tryd.ntmps136
  go_wp2
  refine leaves_cons (f := 152) (args := #[]) (by simp) (by simp [go_sem]) ?_
  refine (deferred_recover _).mono ?_
  rintro e u' w'' ⟨rfl, rfl, rfl⟩
  exact ⟨_, results_tmp rfl _ _ _, rfl, rfl⟩

set_option maxRecDepth 100000 in
set_option maxHeartbeats 400000 in
theorem unwrap_over (c : Int) (t : TypeId) (u : Value) (w : World) : Calls Tryd.prog 196 #[.agg #[.int .i64 c, .iface t u]] w fun e w' => e = .returned (.iface t u) ∧ w' = w.alloc (.cells #[.int .i64 c, .iface t u] 232) := by
  go_enter Tryd.func196, Tryd.ntmps196
  go_wp2
  go_ret
  exact ⟨rfl, rfl⟩

set_option maxRecDepth 100000 in
set_option maxHeartbeats 400000 in
theorem wrapped_over (c : Int) (t : TypeId) (u : Value) (w : World) : Calls Tryd.prog 136 #[.iface 232 (.agg #[.int .i64 c, .iface t u])] w fun e w' => e = .returned (.slice (some ⟨w.heap.size + 1, 0, none⟩) 1 1) ∧ w' = (w.alloc (.cells #[.int .i64 c, .iface t u] 232)).alloc (.cells #[.iface t u] 43) := by
  go_enter_defers Tryd.func136, Tryd.ntmps136
  go_wp2_with (go_at_call 196; refine (unwrap_over _ _ _ _).mono ?_; rintro e w' ⟨rfl, rfl⟩)
  refine leaves_cons (f := 152) (args := #[]) (by simp) (by simp [go_sem]) ?_
  refine (deferred_recover _).mono ?_
  rintro e u' w'' ⟨rfl, rfl, rfl⟩
  exact ⟨_, results_tmp rfl _ _ _, rfl, rfl⟩

set_option maxRecDepth 100000 in
set_option maxHeartbeats 400000 in
theorem unwrap_at (n : Int) (t : TypeId) (u : Value) (w : World) : Calls Tryd.prog 198 #[.agg #[.iface t u, .int .i64 n]] w fun e w' => e = .returned (.iface t u) ∧ w' = w.alloc (.cells #[.iface t u, .int .i64 n] 234) := by
  go_enter Tryd.func198, Tryd.ntmps198
  go_wp2
  go_ret
  exact ⟨rfl, rfl⟩

set_option maxRecDepth 100000 in
set_option maxHeartbeats 400000 in
theorem wrapped_at (n : Int) (t : TypeId) (u : Value) (w : World) : Calls Tryd.prog 136 #[.iface 234 (.agg #[.iface t u, .int .i64 n])] w fun e w' => e = .returned (.slice (some ⟨w.heap.size + 1, 0, none⟩) 1 1) ∧ w' = (w.alloc (.cells #[.iface t u, .int .i64 n] 234)).alloc (.cells #[.iface t u] 43) := by
  go_enter_defers Tryd.func136, Tryd.ntmps136
  go_wp2_with (go_at_call 198; refine (unwrap_at _ _ _ _).mono ?_; rintro e w' ⟨rfl, rfl⟩)
  refine leaves_cons (f := 152) (args := #[]) (by simp) (by simp [go_sem]) ?_
  refine (deferred_recover _).mono ?_
  rintro e u' w'' ⟨rfl, rfl, rfl⟩
  exact ⟨_, results_tmp rfl _ _ _, rfl, rfl⟩

set_option maxRecDepth 100000 in
set_option maxHeartbeats 400000 in
theorem stranger_nil (w : World) : Calls Tryd.prog 103 #[.nilIface] w fun e w' => e = .returned (.bool true) ∧ w = w' := by
  have h1 : ∀ (x : TypeId) (w : World), (Instr.typeAssert .nilIface x 46 true).run Tryd.prog w = .ok (.tuple #[.int .i64 0, .bool false]) w := fun x w => by
    simp [Instr.typeAssert, run_underlying Tryd.underlying46, Tryd.zeroValue46]
  have h2 : ∀ (x : TypeId) (w : World), (Instr.typeAssert .nilIface x 232 true).run Tryd.prog w = .ok (.tuple #[.agg #[.int .i64 0, .nilIface], .bool false]) w := fun x w => by
    simp [Instr.typeAssert, run_underlying Tryd.underlying232, Tryd.zeroValue232]
  have h3 : ∀ (x : TypeId) (w : World), (Instr.typeAssert .nilIface x 234 true).run Tryd.prog w = .ok (.tuple #[.agg #[.nilIface, .int .i64 0], .bool false]) w := fun x w => by
    simp [Instr.typeAssert, run_underlying Tryd.underlying234, Tryd.zeroValue234]
  go_enter Tryd.func103, Tryd.ntmps103
  go_wp2
  go_ret
  exact ⟨rfl, rfl⟩

end Go.Proofs.YtkpffnihnhlghaaDoor.Cs

namespace Go.Proofs.YtkpffnihnhlghaaDoor.Cs
open Go.RowKit Go.Shelf


def Empty (x : Value) : Prop := ∃ a c, x = .slice a 0 c
def Last (q : List (Int × Int)) (x : Value) (W : World) : Prop := match q with
  | [] => Empty x
  | y :: r => ∃ h, x = .slice (some ⟨h, 0, none⟩) 1 1 ∧ W.heap[h]? = some (.cells #[enc (y :: r)] 43 (0, 0))
def Rest (B : Nat) (q : List (Int × Int)) (k : Nat) (v : Value) (W : World) : Prop :=
  ∃ g cap es x, es.length = k ∧ (∀ y ∈ es, Empty y) ∧ v = .slice (some ⟨g, 0, none⟩) (k + 1) cap ∧ W.ownsRow B 227 1 v (k + 1) (es ++ [x]) ∧ Last q x W
def Head (B : Nat) (t : List (Int × Int)) (J : List (List (Int × Int)) → World → Prop) (n : Nat) (v : Value) (W : World) : Prop :=
  (∃ pre q k, Rest B q k v W ∧ pre ++ chain q = chain t ∧ k + q.length ≤ t.length ∧ B ≤ W.heap.size ∧ J pre W ∧ n = 3 * q.length + k + 1) ∨ (∃ a c, v = .slice a 0 c ∧ J (chain t) W ∧ n = 0)

theorem heap_new (w : World) (o : Obj) : (w.alloc o).heap[w.heap.size]? = some o := World.alloc_heap_new w o

def Ok : List (Int × Int) → Prop
  | [] => True
  | (c, _) :: r => (c = 0 → r ≠ []) ∧ Ok r

theorem stranger_any (z : Int × Int) (q : List (Int × Int)) (w : World) : Calls Tryd.prog 103 #[enc (z :: q)] w fun e w' => e = .returned (.bool false) ∧ w = w' := by
  obtain ⟨c, n⟩ := z
  by_cases h : c = 0
  · subst h; rw [enc_word]; exact stranger_at _ _
  · cases q with
    | nil => rw [enc_code _ _ h]; exact stranger_code _ _
    | cons y r => rw [enc_over _ _ h]; exact stranger_over _ _

/-- What wrapped makes: the row of what a link wraps. -/
structure Wrapped (q : List (Int × Int)) (w : World) (row : Value) (w' : World) : Prop where
  form : ∃ a n c, row = .slice a n c
  last : Last q row w'
  below : Below w.heap.size w w'

theorem wrapped_any (z : Int × Int) (q : List (Int × Int)) (hz : z.1 = 0 → q ≠ []) (w : World) : Calls Tryd.prog 136 #[enc (z :: q)] w fun e w' => ∃ row, e = .returned row ∧ Wrapped q w row w' := by
  obtain ⟨c, n⟩ := z
  have two : ∀ (o : Obj) (y : Int × Int) (r : List (Int × Int)) (t : TypeId) (u : Value), enc (y :: r) = .iface t u → Wrapped (y :: r) w (.slice (some ⟨w.heap.size + 1, 0, none⟩) 1 1) ((w.alloc o).alloc (.cells #[.iface t u] 43)) := by
    intro o y r t u hy
    refine ⟨⟨_, _, _, rfl⟩, ⟨w.heap.size + 1, rfl, ?_⟩, ((Below.refl _ _).alloc (Nat.le_refl _) _).alloc (by simp) _⟩
    rw [hy]
    have := heap_new (w.alloc o) (.cells #[.iface t u] 43)
    rwa [World.size_alloc] at this
  by_cases h : c = 0
  · subst h
    cases q with
    | nil => exact absurd rfl (hz rfl)
    | cons y r =>
      obtain ⟨t, u, hy⟩ := enc_cons y r
      rw [enc_word, hy]
      refine (wrapped_at n t u w).mono ?_
      rintro e w' ⟨rfl, rfl⟩
      exact ⟨_, rfl, two _ _ _ _ _ hy⟩
  · cases q with
    | nil =>
      rw [enc_code _ _ h]
      refine (wrapped_code _ w).mono ?_
      rintro e w' ⟨rfl, rfl⟩
      exact ⟨_, rfl, ⟨_, _, _, rfl⟩, ⟨_, _, rfl⟩, Below.refl _ _⟩
    | cons y r =>
      obtain ⟨t, u, hy⟩ := enc_cons y r
      rw [enc_over _ _ h, hy]
      refine (wrapped_over c t u w).mono ?_
      rintro e w' ⟨rfl, rfl⟩
      exact ⟨_, rfl, two _ _ _ _ _ hy⟩

theorem chain_ok : ∀ (pre : List (List (Int × Int))) (t q : List (Int × Int)), Ok t → pre ++ chain q = chain t → Ok q
  | [], t, q, ht, h => by
    cases t with
    | nil => cases q with
      | nil => exact ht
      | cons y q => simp [chain] at h
    | cons x r => cases q with
      | nil => simp [chain] at h
      | cons y q =>
        simp [chain] at h
        obtain ⟨⟨rfl, rfl⟩, _⟩ := h
        exact ht
  | p :: pre, t, q, ht, h => by
    cases t with
    | nil => simp [chain] at h
    | cons x r =>
      simp [chain] at h
      exact chain_ok pre r q ht.2 h.2

theorem Turn.of_below {B : Nat} {X Y : World} (h : Below X.heap.size X Y) (hB : B ≤ X.heap.size) : Turn B X Y :=
  ⟨h.mono hB, fun k _ hk _ => (h.block k (Array.getElem?_eq_some_iff.1 hk).1).trans hk⟩

theorem Last.turn {q : List (Int × Int)} {x : Value} {B : Nat} {X Y : World} (h : Last q x X) (hT : Turn B X Y) : Last q x Y := by
  cases q with
  | nil => exact h
  | cons y r =>
    obtain ⟨b, rfl, hb⟩ := h
    exact ⟨b, rfl, hT.same _ _ hb rfl⟩

theorem info93 : (Tryd.prog.info? 227).map (fun i => (i.zero, i.size, i.bytes)) = some (some (.slice none 0 0), 1, 24) := by kernel_rfl

theorem owns_cap {w : World} {B e n cap g : Nat} {xs : List Value} (h : w.ownsRow B e 1 (.slice (some ⟨g, 0, none⟩) n cap) n xs) : n ≤ cap := by
  rcases h.2 with ⟨h', _⟩ | ⟨g', cap', cur, h', _, hg, h1, _⟩
  · simp at h'
  · cases h'; exact h1

theorem least_lt {p q : Nat → Prop} {n' n0 : Nat} (hq : leastOf q = n0) (hp : p n') (hlt : n' < n0) : leastOf p < leastOf q := by
  have := (leastOf_spec ⟨n', hp⟩).2 n' hp; omega

theorem rest_start (w : World) (B : Nat) (hB : B ≤ w.heap.size) (y : Int × Int) (r : List (Int × Int)) (v : Value) (hv : enc (y :: r) = v) :
    Rest B (y :: r) 0 (.slice (some ⟨w.heap.size + 1, 0, none⟩) 1 1) ((w.alloc (.cells #[v] 43)).alloc (.cells #[.slice (some ⟨w.heap.size, 0, none⟩) 1 1] 227)) := by
  subst hv
  refine ⟨w.heap.size + 1, 1, [], _, rfl, by simp, rfl, ⟨by simp, .inr ⟨_, _, #[_], rfl, by omega, ?_, by omega, by unfold maxLen; omega, rfl, rfl⟩⟩, w.heap.size, rfl, ?_⟩
  · have := heap_new (w.alloc (.cells #[enc (y :: r)] 43)) (.cells #[.slice (some ⟨w.heap.size, 0, none⟩) 1 1] 227)
    rwa [World.size_alloc] at this
  · exact (Below.heap_alloc _ _ _ (by simp)).trans (heap_new w _)

theorem rest_pop {B k g cap : Nat} {W : World} {es : List Value} {x : Value} (hes : es.length = k + 1) (he : ∀ y ∈ es, Empty y) (ho : W.ownsRow B 227 1 (.slice (some ⟨g, 0, none⟩) (k + 1 + 1) cap) (k + 1 + 1) (es ++ [x])) :
    Rest B [] k (.slice (some ⟨g, 0, none⟩) (k + 1) cap) W := by
  obtain ⟨fs, y, rfl⟩ : ∃ fs y, es = fs ++ [y] := by
    rcases List.eq_nil_or_concat es with h | ⟨fs, y, h⟩
    · subst h; simp at hes
    · exact ⟨fs, y, by simpa using h⟩
  simp at hes
  exact ⟨g, cap, fs, y, hes, fun z hz => he z (by simp [hz]), rfl, ownsRow_pop (by simp [hes]) ho, he y (by simp)⟩

set_option maxRecDepth 100000 in
set_option maxHeartbeats 1000000 in
theorem links_cons (m : Nat) (x : Int × Int) (r : List (Int × Int)) (hok : Ok (x :: r)) (hr : r.length ≤ 1000) (l Bn : Nat) (W : World) (hBn : Boxed W Bn 43 (enc (x :: r))) : LinksStop Tryd.prog m (x :: r) l Bn W := by
  intro J Jx hJ hY h0
  have Hok := Lib.hid hok; clear hok
  obtain ⟨t', u', hx⟩ := enc_cons x r
  have hb := hBn.cell
  rw [hx] at hb
  refine callsIn_of_wp Tryd.func135 rfl trivial ?_ rfl
  simp only [Tryd.ntmps135, List.size_toArray, List.length_cons, List.length_nil, Nat.reduceAdd, Nat.reduceSub, Array.replicate_succ, Array.replicate_zero, List.push_toArray, List.append_toArray, List.nil_append, List.cons_append]
  have HX := Lib.hid hx; clear hx
  gi_wp2
  gi_loopw [3, 4] (fun s v wr => s = .int .i64 0 ∧ ∃ n, Head W.heap.size (x :: r) J n v wr) (fun _ v wr => leastOf (fun n => Head W.heap.size (x :: r) J n v wr))
  case atStart =>
    refine ⟨rfl, _, .inl ⟨[], x :: r, 0, rest_start W _ (Nat.le_refl _) x r _ HX.out, rfl, by simp, by simp; omega, ?_, rfl⟩⟩
    exact hJ _ _ _ h0 ((Turn.alloc W (Nat.le_refl _) _).trans (Turn.alloc _ (by simp) _))
  case round =>
    obtain ⟨rfl, hn⟩ := hrel
    have hs := (leastOf_spec hn).1
    generalize hN : leastOf (fun n => Head W.heap.size (x :: r) J n u4 wr) = n0 at hs
    have HN := Lib.hid hN; clear hN hn hb
    rcases hs with ⟨pre, q, k, hR, hpre, hkt, hBw, hJp, hn0⟩ | ⟨a, c, rfl, hJe, hn0⟩
    · have Hpre := Lib.hid hpre; clear hpre
      have Hn0 := Lib.hid hn0; clear hn0
      simp only [List.length_cons] at hkt
      obtain ⟨g, cap, es, y, hes, hem, rfl, hown, hlast⟩ := hR
      have Hes := Lib.hid hes; clear hes
      have hcell : wr.cell? ⟨g, k, none⟩ = some y := by
        rw [hown.cellAt k (by omega)]; simp [← Hes.out]
      have hfz := hown.frozenAt k
      have hcap := owns_cap hown
      cases q with
      | nil =>
        obtain ⟨a, c, rfl⟩ := hlast
        have hkk : k ≤ 1001 := by omega
        have hch : pre = chain (x :: r) := by have := Hpre.out; simpa [chain] using this
        have hnew : Head W.heap.size (x :: r) J k (.slice (some ⟨g, 0, none⟩) k cap) wr := by
          cases k with
          | zero => exact .inr ⟨_, _, rfl, by rw [← hch]; exact hJp, rfl⟩
          | succ k => exact .inl ⟨pre, [], k, rest_pop Hes.out hem hown, by simpa [chain] using hch, by simp; omega, hBw, hJp, by simp⟩
        have Hnew := Lib.hid hnew
        have hlt : k < n0 := by have := Hn0.out; simp at this; omega
        clear hnew hch hkt hem hown hJp
        gi_wp2
        go_roundw
        case rel => exact ⟨rfl, _, Hnew.out⟩
        case measure => exact least_lt HN.out Hnew.out hlt
      | cons z q =>
        obtain ⟨h, rfl, hh⟩ := hlast
        obtain ⟨T, u, hz⟩ := enc_cons z q
        have hst := stranger_any z q
        have hwr := wrapped_any z q (chain_ok _ _ _ Hok.out Hpre.out).1
        rw [hz] at hst hwr hh
        have hch : wr.cell? ⟨h, 0, none⟩ = some (.iface T u) := by simp [World.cell?, hh]
        have Hst := Lib.hid hst; clear hst
        have Hwr := Lib.hid hwr; clear hwr
        have Hh := Lib.hid hh; clear hh
        have Hz := Lib.hid hz; clear hz
        have HY := Lib.hid hY; clear hY
        have HJ := Lib.hid hJ; clear hJ
        have Hown := Lib.hid hown; clear hown
        have Hem := Lib.hid hem; clear hem
        obtain ⟨hBg, cur, fz, hg⟩ : W.heap.size ≤ g ∧ ∃ cur fz, wr.heap[g]? = some (.cells cur 227 fz) := ⟨(Hown.out.lt g rfl).1, Lib.ownsRow_kind Hown.out g rfl⟩
        obtain ⟨X0, hX0⟩ : ∃ X0, wr.setCell ⟨g, k, none⟩ (.slice (some ⟨h, 0, none⟩) 0 0) = X0 := ⟨_, rfl⟩
        have hJX : J pre X0 := by rw [← hX0]; exact HJ.out _ _ _ hJp (Turn.setCell hBg hg _ _)
        have hown0 := (Hown.out.stored k (.slice (some ⟨h, 0, none⟩) 0 0)).1
        rw [hX0] at hown0
        have hset : (es ++ [Value.slice (some ⟨h, 0, none⟩) 1 1]).set k (.slice (some ⟨h, 0, none⟩) 0 0) = es ++ [Value.slice (some ⟨h, 0, none⟩) 0 0] := by
          have := Hes.out; subst this; simp
        rw [hset] at hown0
        have hszX : X0.heap.size = wr.heap.size := by rw [← hX0]; simp
        obtain ⟨fn, tmps, assign, body, hy, hR⟩ := HY.out pre (z :: q) X0 Hpre.out (by simp) hJX
        rw [Hz.out] at hy
        have HR := Lib.hid hR; clear hR
        have Hown0 := Lib.hid hown0; clear hown0 hset
        have Hg := Lib.hid hg; clear hg
        have HX0 := Lib.hid hX0; clear hJX
        have HszX := Lib.hid hszX; clear hszX
        gi_wp2_with fail
        refine ⟨trivial, (fun h => by cases h), ?_⟩
        refine (callsIn_wide.2 (Hst.out _)).mono ?_
        rintro e w' ⟨rfl, rfl⟩
        clear hX0
        gi_wp2
        refine ⟨(fun h => by cases h), ?_⟩
        refine HR.out.mono ?_
        rintro e W3 (⟨rfl, hJ3, hk3⟩ | ⟨rfl, hJx3⟩)
        · clear hy
          have HJ3 := Lib.hid hJ3; clear hJ3
          gi_wp2_with fail
          refine ⟨trivial, (fun h => by cases h), ?_⟩
          refine (callsIn_wide.2 (Hwr.out _)).mono ?_
          rintro e w4 ⟨row, rfl, hwd⟩
          obtain ⟨ra, rn, rc, rfl⟩ := hwd.form
          have hown3 : W3.ownsRow W.heap.size 227 1 (.slice (some ⟨g, 0, none⟩) (k + 1) cap) (k + 1) (es ++ [Value.slice (some ⟨h, 0, none⟩) 0 0]) := by
            obtain ⟨c3, f3, hg3⟩ := Lib.ownsRow_kind Hown0.out g rfl
            have h3 := hk3.same g _ hg3 (.inr (by simp [isRow]))
            rcases Hown0.out with ⟨hl, (⟨hn, _⟩ | ⟨g', cap', cur', e', b1, b2, b3⟩)⟩
            · cases hn
            · cases e'
              exact ⟨hl, .inr ⟨_, _, cur', rfl, b1, by rw [h3, ← hg3]; exact b2, b3⟩⟩
          have hown4 : w4.ownsRow W.heap.size 227 1 (.slice (some ⟨g, 0, none⟩) (k + 1) cap) (k + 1) (es ++ [Value.slice (some ⟨h, 0, none⟩) 0 0]) :=
            hown3.kept (row := none) ⟨hwd.below.os, hwd.below.tape, hwd.below.output, hwd.below.size, fun k hk _ => hwd.below.block k hk⟩ (.inr (by simp [Value.ownBlock]))
          have hsz4 : W.heap.size ≤ w4.heap.size := by
            have h1 := hwd.below.size; have h2 := hk3.size; have h3 := HszX.out; omega
          obtain ⟨i0, hi, hz0, hz1, hz2⟩ := info_parts info93
          have Hown4 := Lib.hid hown4; clear hown4 hown3
          have Hwd := Lib.hid hwd; clear hwd
          gi_wp2_with (gi_at_builtin; refine wpListIn_append_own _ rfl _ _ 229 rfl W.heap.size 227 i0 (.slice none 0 0) 1 24 Tryd.underlying229 hi hz0 hz1 hz2 rfl (by decide) _ _ _ rfl (Hown4.out.alloc _) ⟨w4.heap.size, 0, none⟩ 1 1 [.slice ra rn rc] rfl rfl (cell_one_new _ _ _) (by simp [Value.oneCell']) (by unfold maxLen; omega) (by omega) (by simp; omega) ?_; intro v' w5 hown5 hgrow _; obtain ⟨g', cap', rfl⟩ := ownsRow_succ hown5)
          clear hi hz0 hz1 hz2
          have hT : Turn W.heap.size W3 w5 := by
            have hz3 : W.heap.size ≤ W3.heap.size := by have h2 := hk3.size; have h3 := HszX.out; omega
            refine ((Turn.of_below Hwd.out.below hz3).trans (Turn.alloc w4 hsz4 _)).trans (Turn.grown hgrow (by simp; omega) fun b hb => ?_)
            cases hb
            obtain ⟨c4, f4, hg4⟩ := Lib.ownsRow_kind (Hown4.out.alloc _) g rfl
            exact ⟨hBg, c4, f4, hg4⟩
          have hT4 : Turn W.heap.size w4 w5 := by
            refine (Turn.alloc w4 hsz4 _).trans (Turn.grown hgrow (by simp; omega) fun b hb => ?_)
            cases hb
            obtain ⟨c4, f4, hg4⟩ := Lib.ownsRow_kind (Hown4.out.alloc _) g rfl
            exact ⟨hBg, c4, f4, hg4⟩
          have hnew : Head W.heap.size (x :: r) J (3 * q.length + (k + 1) + 1) (.slice (some ⟨g', 0, none⟩) (k + 1 + 1) cap') w5 := by
            refine .inl ⟨pre ++ [z :: q], q, k + 1, ⟨g', cap', es ++ [.slice (some ⟨h, 0, none⟩) 0 0], .slice ra rn rc, by simp [Hes.out], ?_, rfl, hown5, Hwd.out.last.turn hT4⟩, ?_, ?_, ?_, HJ.out _ _ _ HJ3.out hT, rfl⟩
            · intro y hy
              rcases List.mem_append.1 hy with hy | hy
              · exact Hem.out y hy
              · rw [List.mem_singleton.1 hy]; exact ⟨_, _, rfl⟩
            · rw [← Hpre.out]; simp [chain]
            · simp only [List.length_cons] at hkt ⊢; omega
            · have := hT4.below.size; omega
          exact ⟨⟨rfl, _, hnew⟩, least_lt HN.out hnew (by have := Hn0.out; simp only [List.length_cons] at this; omega)⟩
        · clear hy
          have HJx3 := Lib.hid hJx3; clear hJx3
          gi_wp2
          refine bodyPost_ret (results_none rfl _ _ _) rfl ?_
          exact ⟨⟨_, rfl⟩, .inr ⟨pre ++ [z :: q], by rw [← Hpre.out]; simp [chain], HJx3.out⟩⟩
    · gi_wp2
      go_end0
      exact ⟨⟨_, rfl⟩, .inl hJe⟩

end Go.Proofs.YtkpffnihnhlghaaDoor.Cs

namespace Go.Proofs.YtkpffnihnhlghaaDoor.Cs
open Go.RowKit Go.Shelf


def lenV : Value → Nat
  | .slice _ n _ => n
  | _ => 0

def NilAt (g : Nat) (w1 w2 : World) (s v : Value) (wr : World) : Prop :=
  (s = .int .i64 0 ∧ v = .slice (some ⟨g, 0, none⟩) 1 1 ∧ wr = w1) ∨
  (s = .int .i64 1 ∧ v = .slice (some ⟨g, 0, none⟩) 1 1 ∧ wr = w2) ∨
  (s = .int .i64 1 ∧ v = .slice (some ⟨g, 0, none⟩) 0 1 ∧ wr = w2)

set_option maxRecDepth 100000 in
set_option maxHeartbeats 1000000 in
theorem links_nil (m : Nat) (l Bn : Nat) (W : World) (hBn : Boxed W Bn 43 .nilIface) : LinksStop Tryd.prog m [] l Bn W := by
  intro J Jx hJ hY h0
  have hb := hBn.cell
  clear hY
  have hT1 : Turn W.heap.size W ((W.alloc (.cells #[.nilIface] 43)).alloc (.cells #[.slice (some ⟨W.heap.size, 0, none⟩) 1 1] 227)) :=
    (Turn.alloc W (Nat.le_refl _) _).trans (Turn.alloc _ (by simp) _)
  have hT2 : Turn W.heap.size W ((W.alloc (.cells #[.nilIface] 43)).alloc (.cells #[.slice (some ⟨W.heap.size, 0, none⟩) 0 0] 227)) :=
    (Turn.alloc W (Nat.le_refl _) _).trans (Turn.alloc _ (by simp) _)
  have hJ2 := hJ _ _ _ h0 hT2
  have HJ2 := Lib.hid hJ2; clear hJ2 hT1 hT2 hJ h0
  have hst := stranger_nil
  have Hst := Lib.hid hst; clear hst
  refine callsIn_of_wp Tryd.func135 rfl trivial ?_ rfl
  simp only [Tryd.ntmps135, List.size_toArray, List.length_cons, List.length_nil, Nat.reduceAdd, Nat.reduceSub, Array.replicate_succ, Array.replicate_zero, List.push_toArray, List.append_toArray, List.nil_append, List.cons_append]
  gi_wp2
  gi_loopw [3, 4] (fun s v wr => NilAt (W.heap.size + 1) ((W.alloc (.cells #[.nilIface] 43)).alloc (.cells #[.slice (some ⟨W.heap.size, 0, none⟩) 1 1] 227)) ((W.alloc (.cells #[.nilIface] 43)).alloc (.cells #[.slice (some ⟨W.heap.size, 0, none⟩) 0 0] 227)) s v wr) (fun s v _ => 2 * (1 - (intOf s).toNat) + lenV v)
  case atStart => exact .inl ⟨rfl, rfl, rfl⟩
  case round =>
    rcases hrel with ⟨rfl, rfl, rfl⟩ | ⟨rfl, rfl, rfl⟩ | ⟨rfl, rfl, rfl⟩
    · gi_wp2_with fail
      refine ⟨trivial, (fun h => by cases h), ?_⟩
      refine (callsIn_wide.2 (Hst.out _)).mono ?_
      rintro e w' ⟨rfl, rfl⟩
      gi_wp2
      go_roundw
      case rel => exact .inr (.inl ⟨rfl, rfl, rfl⟩)
      case measure => simp [intOf, lenV]
    · gi_wp2
      go_roundw
      case rel => exact .inr (.inr ⟨rfl, rfl, rfl⟩)
      case measure => simp [intOf, lenV]
    · gi_wp2
      go_end0
      exact ⟨⟨_, rfl⟩, .inl HJ2.out⟩

theorem links_any (m : Nat) (t : List (Int × Int)) (hok : Ok t) (ht : t.length ≤ 1001) (l Bn : Nat) (W : World) (hBn : Boxed W Bn 43 (enc t)) : LinksStop Tryd.prog m t l Bn W := by
  cases t with
  | nil => exact links_nil m l Bn W hBn
  | cons x r => exact links_cons m x r hok (by simp at ht; omega) l Bn W hBn

theorem mk_func (fn : Fn) (first cap : Array Value) (w : World) : (Instr.makeFunc fn first cap).run Tryd.prog w = .ok (.func fn first cap) w := rfl

set_option maxHeartbeats 400000 in
theorem links_made_nil (w : World) : Calls Tryd.prog 102 #[.nilIface] w fun e w' => e = .returned (.func (.func 135) #[] #[.pointer (some ⟨w.heap.size, 0, none⟩)]) ∧ w' = w.alloc (.cells #[.nilIface] 43) := by
  have hmf := mk_func
  go_enter Tryd.func102, Tryd.ntmps102
  go_wp2
  go_ret
  exact ⟨rfl, rfl⟩

set_option maxHeartbeats 400000 in
theorem links_made_some (t : TypeId) (u : Value) (w : World) : Calls Tryd.prog 102 #[.iface t u] w fun e w' => e = .returned (.func (.func 135) #[] #[.pointer (some ⟨w.heap.size, 0, none⟩)]) ∧ w' = w.alloc (.cells #[.iface t u] 43) := by
  have hmf := mk_func
  go_enter Tryd.func102, Tryd.ntmps102
  go_wp2
  go_ret
  exact ⟨rfl, rfl⟩

theorem links_made (t : List (Int × Int)) (w : World) : Calls Tryd.prog 102 #[enc t] w fun e w' => e = .returned (.func (.func 135) #[] #[.pointer (some ⟨w.heap.size, 0, none⟩)]) ∧ w' = w.alloc (.cells #[enc t] 43) := by
  cases t with
  | nil => exact links_made_nil w
  | cons x r =>
    obtain ⟨t, u, h⟩ := enc_cons x r
    rw [h]
    exact links_made_some t u w

end Go.Proofs.YtkpffnihnhlghaaDoor.Cs

namespace Go.Proofs.YtkpffnihnhlghaaDoor.Cs
open Go.RowKit Go.Shelf
def In64 (n : Int) : Prop := -9223372036854775808 ≤ n ∧ n ≤ 9223372036854775807
theorem chain_inj : ∀ {a b : List (Int × Int)}, chain a = chain b → a = b
  | [], [], _ => rfl
  | [], _ :: _, h => by simp [chain] at h
  | _ :: _, [], h => by simp [chain] at h
  | x :: a, y :: b, h => by simp [chain] at h; simp [h.1]

theorem heap_cells_turn {B : Nat} {X Y : World} (hT : TurnC B X Y) {k : Nat} {cs : Array Value} {t : TypeId} {fz : Nat × Nat} (h : X.heap[k]? = some (.cells cs t fz)) (ht : (t == 227) = false) : Y.heap[k]? = some (.cells cs t fz) :=
  hT.same k _ h rfl (by simp [is93, ht])

theorem boxed_turn {B b : Nat} {t : TypeId} {v : Value} {X Y : World} (h : Boxed X b t v) (hT : TurnC B X Y) (ht : (t == 227) = false) : Boxed Y b t v := heap_cells_turn hT h ht
theorem boxed_below {b : Nat} {t : TypeId} {v : Value} {X Y : World} (h : Boxed X b t v) (hb : Below X.heap.size X Y) : Boxed Y b t v := (hb.block b h.lt).trans h

end Go.Proofs.YtkpffnihnhlghaaDoor.Cs

namespace Go.Proofs.YtkpffnihnhlghaaDoor.Cs
open Go.RowKit Go.Shelf
/-- A trouble's codes. -/
def codesP : List (Int × Int) → List Int
  | [] => []
  | (c, _) :: r => if c = 0 then codesP r else c :: codesP r
theorem codesP_word (n : Int) (r : List (Int × Int)) : codesP ((0, n) :: r) = codesP r := by simp [codesP]
theorem codesP_code (c n : Int) (h : ¬ c = 0) (r : List (Int × Int)) : codesP ((c, n) :: r) = c :: codesP r := by simp [codesP, h]

end Go.Proofs.YtkpffnihnhlghaaDoor.Cs

namespace Go.Proofs.YtkpffnihnhlghaaDoor.Cs
open Go.RowKit Go.Shelf

attribute [local go_sem] Oper.semAt_some

/-- The innermost word, behind what was there. -/
def wordFrom : Int × Bool → List (Int × Int) → Int × Bool
  | a, [] => a
  | a, (c, n) :: r => if c = 0 then wordFrom (n, true) r else wordFrom a r
theorem wordFrom_word (a : Int × Bool) (n : Int) (r : List (Int × Int)) : wordFrom a ((0, n) :: r) = wordFrom (n, true) r := by simp [wordFrom]
theorem wordFrom_code (a : Int × Bool) (c n : Int) (h : ¬ c = 0) (r : List (Int × Int)) : wordFrom a ((c, n) :: r) = wordFrom a r := by simp [wordFrom, h]

structure WordAt (t : List (Int × Int)) (w : World) (pre : List (List (Int × Int))) (n : Int) (b : Bool) (W : World) : Prop where
  box1 : Boxed W w.heap.size 3 (.int .i64 n)
  box2 : Boxed W (w.heap.size + 1) 4 (.bool b)
  told : ∀ q, pre ++ chain q = chain t → wordFrom (0, false) t = wordFrom (n, b) q
  below : Below w.heap.size w W
def WordI (t : List (Int × Int)) (w : World) (pre : List (List (Int × Int))) (W : World) : Prop := ∃ n b, WordAt t w pre n b W

theorem wordI_turn {t : List (Int × Int)} {w : World} {B : Nat} (hB : w.heap.size ≤ B) (s : List (List (Int × Int))) (X Y : World) (h : WordI t w s X) (hT : TurnC B X Y) : WordI t w s Y := by
  obtain ⟨n, b, h⟩ := h
  exact ⟨n, b, boxed_turn h.box1 hT rfl, boxed_turn h.box2 hT rfl, h.told, h.below.trans (hT.below.mono hB)⟩

theorem told_tail_word {t q : List (Int × Int)} {x : Int × Int} {pre : List (List (Int × Int))} {a b : Int × Bool} (hpre : pre ++ chain (x :: q) = chain t) (h : wordFrom (0, false) t = wordFrom a (x :: q)) (hs : wordFrom a (x :: q) = wordFrom b q) :
    ∀ q', (pre ++ [x :: q]) ++ chain q' = chain t → wordFrom (0, false) t = wordFrom b q' := by
  intro q' hq'
  have e : q' = q := by
    have h1 : pre ++ chain (x :: q) = (pre ++ [x :: q]) ++ chain q := by simp [chain]
    rw [← hpre, h1] at hq'
    exact chain_inj (List.append_cancel_left hq')
  subst e
  rw [h, hs]

theorem keep_box {W : World} {b : Nat} {t : TypeId} {v : Value} (h : Boxed W b t v) (ht : (t == 227 || t == 43) = false) (u : Value) : Keep W (W.setCell ⟨b, 0, none⟩ u) :=
  Keep.of_grownBy (grownBy_setCell' W b u) (fun r e => by cases e; exact ⟨_, h, rfl, by simpa [isRow] using ht⟩)

end Go.Proofs.YtkpffnihnhlghaaDoor.Cs
