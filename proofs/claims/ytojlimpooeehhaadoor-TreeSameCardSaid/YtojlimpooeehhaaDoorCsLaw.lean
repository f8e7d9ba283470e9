/- A loop over links: what a caller's loop owes, and what it gets. -/
import Derived.Test.YtojlimpooeehhaaDoorCsMake
import Derived.RangeFuncNested
namespace Go.Proofs.YtojlimpooeehhaaDoor.Cs
open Go.RowKit


/-- A row of rows of errors, which links makes for itself. -/
def is93 : Obj → Bool
  | .cells _ t _ => t == 150
  | _ => false
/-- A row of rows, or a row, of errors. -/
def isRow : Obj → Bool
  | .cells _ t _ => t == 150 || t == 53
  | _ => false

/-- The links of a trouble: its parts from each of them on. -/
def chain : List (Int × Int) → List (List (Int × Int))
  | [] => []
  | x :: r => (x :: r) :: chain r

/-- What links may do between two rounds. -/
structure Turn (B : Nat) (W W' : World) : Prop where
  below : Below B W W'
  same : ∀ (k : Nat) (o : Obj), W.heap[k]? = some o → is93 o = false → W'.heap[k]? = some o
/-- What the loop's law and links may do, together. -/
structure TurnC (B : Nat) (W W' : World) : Prop where
  below : Below B W W'
  same : ∀ (k : Nat) (o : Obj), W.heap[k]? = some o → o.isCells = true → is93 o = false → W'.heap[k]? = some o
/-- What a round of the caller's must keep. -/
structure Keep (W W' : World) : Prop where
  size : W.heap.size ≤ W'.heap.size
  same : ∀ (k : Nat) (o : Obj), W.heap[k]? = some o → (o.isCells = false ∨ isRow o = true) → W'.heap[k]? = some o

theorem Turn.c {B : Nat} {W W' : World} (h : Turn B W W') : TurnC B W W' := ⟨h.below, fun k o hk _ h9 => h.same k o hk h9⟩
theorem Turn.refl (B : Nat) (W : World) : Turn B W W := ⟨Below.refl _ _, fun _ _ h _ => h⟩
theorem Turn.trans {B : Nat} {X Y Z : World} (h : Turn B X Y) (k : Turn B Y Z) : Turn B X Z := ⟨h.below.trans k.below, fun i o hi h9 => k.same i o (h.same i o hi h9) h9⟩
theorem Turn.mono {B B' : Nat} {X Y : World} (h : Turn B X Y) (hb : B' ≤ B) : Turn B' X Y := ⟨h.below.mono hb, h.same⟩
theorem Turn.alloc {B : Nat} (W : World) (hB : B ≤ W.heap.size) (o : Obj) : Turn B W (W.alloc o) :=
  ⟨(Below.refl B W).alloc hB o, fun k _ hk _ => (Below.heap_alloc W o k (Array.getElem?_eq_some_iff.1 hk).1).trans hk⟩
theorem Turn.drew {B : Nat} (W : World) : Turn B W W.drew := ⟨(Below.refl B W).drew, fun _ _ h _ => h⟩
theorem Turn.setCell {B : Nat} {W : World} {g : Nat} {cur : Array Value} {fz : Nat × Nat} (hB : B ≤ g) (hg : W.heap[g]? = some (.cells cur 150 fz)) (off : Nat) (v : Value) : Turn B W (W.setCell ⟨g, off, none⟩ v) :=
  ⟨(Below.refl B W).setCell (p := ⟨g, off, none⟩) hB v, fun k o hk h9 => by
    by_cases e : k = g
    · subst e; rw [hg] at hk; cases hk; simp [is93] at h9
    · exact (Below.heap_setCell W _ v k e).trans hk⟩
theorem Turn.grown {B : Nat} {W W' : World} {row : Option Nat} (hg : W.grownBy W' row) (hB : B ≤ W.heap.size) (hrow : ∀ r, row = some r → B ≤ r ∧ ∃ cur fz, W.heap[r]? = some (.cells cur 150 fz)) : Turn B W W' :=
  ⟨(Below.refl B W).grown hg hB (fun k e => (hrow k e).1), fun k o hk h9 => by
    refine (hg.block k (Array.getElem?_eq_some_iff.1 hk).1 ?_).trans hk
    intro e
    obtain ⟨_, cur, fz, hr⟩ := hrow k e.symm
    rw [hk] at hr; cases hr; simp [is93] at h9⟩

theorem Keep.refl (W : World) : Keep W W := ⟨Nat.le_refl _, fun _ _ h _ => h⟩
theorem Keep.trans {X Y Z : World} (h : Keep X Y) (k : Keep Y Z) : Keep X Z := ⟨Nat.le_trans h.size k.size, fun i o hi ho => k.same i o (h.same i o hi ho) ho⟩
theorem Keep.alloc (W : World) (o : Obj) : Keep W (W.alloc o) := ⟨by simp, fun k _ hk _ => (Below.heap_alloc W o k (Array.getElem?_eq_some_iff.1 hk).1).trans hk⟩
theorem Keep.drew (W : World) : Keep W W.drew := ⟨Nat.le_refl _, fun _ _ h _ => h⟩
theorem Keep.below {W W' : World} (h : Below W.heap.size W W') : Keep W W' := ⟨h.size, fun k _ hk _ => (h.block k (Array.getElem?_eq_some_iff.1 hk).1).trans hk⟩
theorem Keep.of_grownBy {W W' : World} {row : Option Nat} (hg : W.grownBy W' row) (hrow : ∀ r, row = some r → ∃ o : Obj, W.heap[r]? = some o ∧ o.isCells = true ∧ isRow o = false) : Keep W W' :=
  ⟨hg.size, fun k o hk ho => by
    refine (hg.block k (Array.getElem?_eq_some_iff.1 hk).1 ?_).trans hk
    intro e
    obtain ⟨o', ho', h1, h2⟩ := hrow k e.symm
    rw [hk] at ho'; cases ho'
    rcases ho with h | h
    · rw [h1] at h; cases h
    · rw [h2] at h; cases h⟩
theorem TurnC.putObj {B : Nat} {W : World} {l : Nat} {o : Obj} (o' : Obj) (hB : B ≤ l) (hl : W.heap[l]? = some o) (ho : o.isCells = false) : TurnC B W (W.putObj l o') :=
  ⟨(Below.refl B W).grown (grownBy_putObj' W l o') (by have := (Array.getElem?_eq_some_iff.1 hl).1; omega) (fun k e => by cases e; omega), fun k x hk hc _ =>
    (World.putObj_heap_other (fun e => by subst e; rw [hl] at hk; cases hk; rw [ho] at hc; cases hc)).trans hk⟩
theorem TurnC.alloc {B : Nat} (W : World) (hB : B ≤ W.heap.size) (o : Obj) : TurnC B W (W.alloc o) := (Turn.alloc W hB o).c
theorem TurnC.trans {B : Nat} {X Y Z : World} (h : TurnC B X Y) (k : TurnC B Y Z) : TurnC B X Z := ⟨h.below.trans k.below, fun i o hi hc h9 => k.same i o (h.same i o hi hc h9) hc h9⟩

/-- links' word, at the yield of loop l, over W: whatever the rounds do that they may, each link of t comes, in order. -/
def LinksStop (P : Program) (m : Nat) (t : List (Int × Int)) (l Bn : Nat) (W : World) : Prop :=
  ∀ (J Jx : List (List (Int × Int)) → World → Prop), (∀ s X Y, J s X → Turn W.heap.size X Y → J s Y) →
    (∀ pre q X, pre ++ chain q = chain t → q ≠ [] → J pre X → YieldAt Fence.wide (m - 1) P l #[enc q] X fun e X' =>
      (e = .returned (.bool true) ∧ J (pre ++ [q]) X' ∧ Keep X X') ∨ (e = .returned (.bool false) ∧ Jx (pre ++ [q]) X')) →
    J [] W →
    CallsIn Fence.wide m P 97 #[.func (.yield l) #[] #[], .pointer (some ⟨Bn, 0, none⟩)] W fun e W' =>
      (∃ v, e = .returned v) ∧ (J (chain t) W' ∨ ∃ pre, pre <+: chain t ∧ Jx pre W')

/-- How the body of a round may be left. -/
def bodyEnd (I : List (List (Int × Int)) → World → Prop) (Ix : List (List (Int × Int)) → World → Prop) (xs : List (List (Int × Int))) (W : World) : Exit → Act → World → Prop
  | .normal, _, W' => Keep W W' ∧ I xs W'
  | .ret, _, W' => Keep W W' ∧ Ix xs W'
  | _, _, _ => False

theorem range_links {P : Program} {n : Nat} {g : Operand} {ps : Array Tmp} {assign body : Code} {Q : Exit → Act → World → Prop} {a : Act} {w : World} {t : List (Int × Int)} {Bn : Nat}
    (hps : ps.size = 1) (hg : a.eval g = .func (.func 97) #[] #[.pointer (some ⟨Bn, 0, none⟩)]) (eg : ∀ args w, (callFunc 97 args).run P w = .ok (.enter 97 args) w)
    (hlinks : ∀ l W, Below w.heap.size w W → LinksStop P (n - 1) t l Bn W)
    (I Ix : List (List (Int × Int)) → World → Prop) (hI : ∀ s X Y, I s X → TurnC w.heap.size X Y → I s Y) (hIx : ∀ s X Y, Ix s X → TurnC w.heap.size X Y → Ix s Y) (h0 : I [] w) (a₁ : List (Int × Int) → Act)
    (hassign : ∀ (l : Nat) (q : List (Int × Int)) (W : World) (K : Act → World → Prop), K (a₁ q) W →
      assign.wpIn (Fence.wide.inRound l) (n - 1 - 1) P (Exit.then K (fun _ _ _ => False)) { tmps := (ps.zip #[enc q]).foldl (fun t (p, v) => t.setIfInBounds p v) a.tmps, defers := [] } W)
    (hbody : ∀ (l : Nat) (pre : List (List (Int × Int))) (q : List (Int × Int)) (W : World), pre ++ chain q = chain t → q ≠ [] → I pre W → body.wpIn (Fence.wide.inRound l) (n - 1 - 1) P (bodyEnd I Ix (pre ++ [q]) W) (a₁ q) W)
    (hdone : ∀ (D : Nat) (W : World), w.heap.size ≤ D → I (chain t) W → W.heap[D]? = some (.deferred (some [])) → Q .normal { a with defers := { target := .collected D, args := #[] } :: a.defers } W)
    (hstop : ∀ (D : Nat) (pre : List (List (Int × Int))) (W : World), w.heap.size ≤ D → pre <+: chain t → Ix pre W → W.heap[D]? = some (.deferred (some [])) → Code.ret.wpIn Fence.wide n P Q { a with defers := { target := .collected D, args := #[] } :: a.defers } W) :
    (Code.rangeFunc g ps assign body).wpIn Fence.wide n P Q a w := by
  refine wpIn_rangeFunc ?_
  intro fn hfn
  show ∃ l mark w₁ d w₁' f args w₂, (Instr.enterLoop fn a.tmps ps assign body none).run P w = .ok (l, mark) w₁ ∧ _
  obtain ⟨rec, hrec⟩ : ∃ rec : LoopState → Option Code → Loop, rec = fun st pe => { state := st, pending := pe, fn, tmps := a.tmps, params := ps, assign, body, defers := w.heap.size } := ⟨_, rfl⟩
  obtain ⟨W1, hW1⟩ : ∃ W1, (w.alloc (.deferred (some []))).alloc (.loop (rec .ready none)) = W1 := ⟨_, rfl⟩
  have hz1 : W1.heap.size = w.heap.size + 2 := by rw [← hW1]; simp
  have hL1 : W1.heap[w.heap.size + 1]? = some (.loop (rec .ready none)) := by
    rw [← hW1]; have := World.alloc_heap_new (w.alloc (.deferred (some []))) (.loop (rec .ready none)); rwa [World.size_alloc] at this
  have hK1 : W1.heap[w.heap.size]? = some (.deferred (some [])) := by
    rw [← hW1]; exact (Below.heap_alloc _ _ _ (by simp)).trans (World.alloc_heap_new w _)
  have hT1 : TurnC w.heap.size w W1 := by
    rw [← hW1]; exact (TurnC.alloc w (Nat.le_refl _) _).trans (TurnC.alloc _ (by simp) _)
  refine ⟨w.heap.size + 1, [{ target := .collected w.heap.size, args := #[] }], W1, { target := .fn (.func 97) #[.pointer (some ⟨Bn, 0, none⟩)], args := #[.func (.yield (w.heap.size + 1)) #[] #[]] }, W1, 97,
    #[.func (.yield (w.heap.size + 1)) #[] #[], .pointer (some ⟨Bn, 0, none⟩)], W1, ?_, ?_, ?_, ?_, ?_, ?_⟩
  · rw [← hW1, hrec]; exact run_enterLoop_outer _ _ _ _ _
  · simp only [resolve, hg]
    simp [go_sem]
  · intro f' _; trivial
  · simp [invoke, go_sem, eg]
  · intro h; cases h
  · have hlt1 : w.heap.size + 1 < W1.heap.size := by omega
    refine (hlinks (w.heap.size + 1) W1 hT1.below
      (fun pre W => I pre W ∧ W.heap[w.heap.size + 1]? = some (.loop (rec .ready none)) ∧ W.heap[w.heap.size]? = some (.deferred (some [])))
      (fun pre W => Ix pre W ∧ W.heap[w.heap.size + 1]? = some (.loop (rec .done (some .ret))) ∧ W.heap[w.heap.size]? = some (.deferred (some [])))
      (fun s X Y hs hT => ⟨hI s X Y hs.1 ((hT.mono (by omega)).c), hT.same _ _ hs.2.1 rfl, hT.same _ _ hs.2.2 rfl⟩)
      ?_ ⟨hI _ _ _ h0 hT1, hL1, hK1⟩).mono ?_
    · rintro pre q W hpre hq ⟨hi, hl, hk⟩
      have hlt : w.heap.size + 1 < W.heap.size := (Array.getElem?_eq_some_iff.1 hl).1
      have hy := run_yield (P := P) (args := #[enc q]) hl (by rw [hrec]; simp [hps])
      rw [hrec] at hy
      refine ⟨fn, _, assign, body, hy, roundIn_of_wpIn hfn (hassign _ q W _ ?_)⟩
      clear hy
      refine ⟨_, run_beginRound hl (by rw [hrec]), ?_⟩
      obtain ⟨W2, hW2⟩ : ∃ W2, W.putObj (w.heap.size + 1) (.loop { rec .ready none with state := .busy }) = W2 := ⟨_, rfl⟩
      have hl2 : W2.heap[w.heap.size + 1]? = some (.loop { rec .ready none with state := .busy }) := by rw [← hW2]; exact World.putObj_heap_same hlt
      have hk2 : W2.heap[w.heap.size]? = some (.deferred (some [])) := by rw [← hW2]; exact (World.putObj_heap_other (by omega)).trans hk
      have hi2 : I pre W2 := by rw [← hW2]; exact hI _ _ _ hi (TurnC.putObj _ (by omega) hl rfl)
      have hs2 : W2.heap.size = W.heap.size := by rw [← hW2]; simp
      have hkeep2 : ∀ k o, W.heap[k]? = some o → k ≠ w.heap.size + 1 → W2.heap[k]? = some o := fun k o hk hne => by rw [← hW2]; exact (World.putObj_heap_other hne).trans hk
      rw [hW2]
      refine wpIn_mono (hbody _ pre q W2 hpre hq hi2) ?_
      rintro e a3 W3 hp
      have fin : ∀ (jump : Option Code), Keep W2 W3 →
          (Instr.endRound (w.heap.size + 1) jump).run P W3 = .ok (.bool jump.isNone) (W3.putObj (w.heap.size + 1) (.loop (rec (if jump.isNone then .ready else .done) jump))) ∧
          W3.heap[w.heap.size + 1]? = some (.loop { rec .ready none with state := .busy }) ∧
          (W3.putObj (w.heap.size + 1) (.loop (rec (if jump.isNone then .ready else .done) jump))).heap[w.heap.size + 1]? = some (.loop (rec (if jump.isNone then .ready else .done) jump)) ∧
          (W3.putObj (w.heap.size + 1) (.loop (rec (if jump.isNone then .ready else .done) jump))).heap[w.heap.size]? = some (.deferred (some [])) := fun jump hk3 => by
        have hl3 := hk3.same _ _ hl2 (.inl rfl)
        have hr := run_endRound (P := P) jump hl3
        rw [hrec] at hr ⊢
        exact ⟨hr, by rw [hrec] at hl3; exact hl3, World.putObj_heap_same (Array.getElem?_eq_some_iff.1 hl3).1, (World.putObj_heap_other (by omega)).trans (hk3.same _ _ hk2 (.inl rfl))⟩
      cases e with
      | normal =>
        obtain ⟨hk3, hi3⟩ := hp
        obtain ⟨hr, hl3, hl4, hk4⟩ := fin none hk3
        refine ⟨_, _, hr, .inl ⟨rfl, ⟨hI _ _ _ hi3 (TurnC.putObj _ (by omega) hl3 rfl), hl4, hk4⟩, ?_⟩⟩
        refine ⟨by have := hk3.size; simp; omega, fun k o hk' ho => ?_⟩
        by_cases hkl : k = w.heap.size + 1
        · subst hkl
          rw [hl] at hk'; cases hk'
          exact hl4
        · exact (World.putObj_heap_other hkl).trans (hk3.same k o (hkeep2 k o hk' hkl) ho)
      | ret =>
        obtain ⟨hk3, hi3⟩ := hp
        obtain ⟨hr, hl3, hl4, hk4⟩ := fin (some .ret) hk3
        exact ⟨_, _, hr, .inr ⟨rfl, hIx _ _ _ hi3 (TurnC.putObj _ (by omega) hl3 rfl), hl4, hk4⟩⟩
      | exit id => exact hp.elim
      | goto t => exact hp.elim
      | panic ch => exact hp.elim
      | outgrown => exact hp.elim
    · rintro e W2 ⟨⟨v, rfl⟩, (⟨hi, hl, hk⟩ | ⟨pre, hp, hi, hl, hk⟩)⟩
      · exact ⟨none, _, by have := run_endLoop (P := P) hl (by rw [hrec]; simp); rw [hrec] at this; exact this, hdone _ _ (Nat.le_refl _) (hI _ _ _ hi (TurnC.putObj _ (by omega) hl rfl)) ((World.putObj_heap_other (by omega)).trans hk)⟩
      · exact ⟨some .ret, _, by have := run_endLoop (P := P) hl (by rw [hrec]; simp); rw [hrec] at this; exact this, hstop _ pre _ (Nat.le_refl _) hp (hIx _ _ _ hi (TurnC.putObj _ (by omega) hl rfl)) ((World.putObj_heap_other (by omega)).trans hk)⟩

end Go.Proofs.YtojlimpooeehhaaDoor.Cs
