/- What Text's loop leans on: texts, bounds, the builder kept. -/
import Derived.Test.YtplkeakkjkkfmaaDoorNil
import Derived.Test.YtplkeakkjkkfmaaDoorBuild
import Derived.Test.YtplkeakkjkkfmaaDoorErrno
import Derived.Test.YtplkeakkjkkfmaaDoorShelf
import Derived.Lib.AppendIntMem
import Derived.Lib.SmallJoins
namespace Go.Proofs.YtplkeakkjkkfmaaDoor
open Go.RowKit Go.Shelf

/-- The table of strconv's, as it is laid. -/
def Tab (w : World) : Prop := Lib.TabIs Tryd.prog w "internal/strconv.uint64pow10" .u64 Lib.pow10Tab
theorem Tab.below {w w' : World} (h : Tab w) (hb : Below w.heap.size w w') : Tab w' := Lib.tabBelow_of_tabIs h w' hb

/-- ' because '. -/
def becauseWord : List UInt8 := [32, 98, 101, 99, 97, 117, 115, 101, 32]
/-- 'word '. -/
def wordWord : List UInt8 := [119, 111, 114, 100, 32]
/-- ': '. -/
def colonWord : List UInt8 := [58, 32]
/-- A trouble's text. -/
def text : List (Int × Int) → List UInt8
  | [] => []
  | (c, n) :: r => if c = 0 then wordWord ++ Lib.itoa n ++ colonWord ++ text r else if r.isEmpty then codeText c else codeText c ++ becauseWord ++ text r

theorem text_word (n : Int) (r : List (Int × Int)) : text ((0, n) :: r) = wordWord ++ Lib.itoa n ++ colonWord ++ text r := by simp [text]
theorem text_code (c n : Int) (h : ¬ c = 0) : text [(c, n)] = codeText c := by simp [text, h]
theorem text_over (c n : Int) (h : ¬ c = 0) (y : Int × Int) (r : List (Int × Int)) : text ((c, n) :: y :: r) = codeText c ++ becauseWord ++ text (y :: r) := by
  rw [text]; simp [h]

def In64 (n : Int) : Prop := -9223372036854775808 ≤ n ∧ n ≤ 9223372036854775807
def Fit (t : List (Int × Int)) : Prop := ∀ p ∈ t, In64 p.1 ∧ In64 p.2

theorem chain_fit : ∀ (pre : List (List (Int × Int))) (t q : List (Int × Int)), Fit t → pre ++ chain q = chain t → Fit q
  | [], t, q, ht, h => by
    cases t with
    | nil => cases q with
      | nil => exact ht
      | cons y q => simp [chain] at h
    | cons x r => cases q with
      | nil => simp [chain] at h
      | cons y q =>
        simp [chain] at h
        obtain ⟨⟨rfl, rfl⟩, _⟩ := h
        exact ht
  | p :: pre, t, q, ht, h => by
    cases t with
    | nil => simp [chain] at h
    | cons x r =>
      simp [chain] at h
      exact chain_fit pre r q (fun p hp => ht p (by simp [hp])) h.2

theorem chain_length : ∀ t : List (Int × Int), (chain t).length = t.length
  | [] => rfl
  | x :: r => by simp [chain, chain_length r]
theorem chain_inj : ∀ {a b : List (Int × Int)}, chain a = chain b → a = b
  | [], [], _ => rfl
  | [], _ :: _, h => by simp [chain] at h
  | _ :: _, [], h => by simp [chain] at h
  | x :: a, y :: b, h => by simp [chain] at h; simp [h.1]

theorem codeText_len (c : Int) (h : In64 c) : (codeText c).length ≤ 37 := by
  have := Lib.itoa_length_le c h.1 h.2
  simp [codeText, errWord]; omega

theorem heap_cells_turn {B : Nat} {X Y : World} (hT : TurnC B X Y) {k : Nat} {cs : Array Value} {t : TypeId} {fz : Nat × Nat} (h : X.heap[k]? = some (.cells cs t fz)) (ht : (t == 93) = false) : Y.heap[k]? = some (.cells cs t fz) :=
  hT.same k _ h rfl (by simp [is93, ht])

theorem builder_same {T e : TypeId} {B b : Nat} {bs : List Value} {X Y : World} (h : Lib.IsBuilderF T e B b bs X) (hs : ∀ (k : Nat) (cs : Array Value) (t : TypeId) (fz : Nat × Nat), X.heap[k]? = some (Obj.cells cs t fz) → t = T ∨ t = e → Y.heap[k]? = some (Obj.cells cs t fz)) : Lib.IsBuilderF T e B b bs Y := by
  have one : ∀ p, Lib.BuilderAtF T e B b p bs X → Lib.BuilderAtF T e B b p bs Y := by
    rintro p ⟨hB, v, hb, hown, hne⟩
    refine ⟨hB, v, hs _ _ _ _ hb (.inl rfl), ⟨hown.1, ?_⟩, hne⟩
    rcases hown.2 with h1 | ⟨g, cap, cur, fz, hv, hbg, hg, rest⟩
    · exact .inl h1
    · exact .inr ⟨g, cap, cur, fz, hv, hbg, hs _ _ _ _ hg (.inr rfl), rest⟩
  exact h.elim (fun x => .inl (one _ x)) (fun x => .inr (one _ x))

theorem builder_turn {B B' b : Nat} {bs : List Value} {X Y : World} (h : Lib.IsBuilderF 72 5 B b bs X) (hT : TurnC B' X Y) : Lib.IsBuilderF 72 5 B b bs Y :=
  builder_same h (fun _ _ _ _ hk ht => heap_cells_turn hT hk (by rcases ht with rfl | rfl <;> rfl))
theorem builder_below {B b : Nat} {bs : List Value} {X Y : World} (h : Lib.IsBuilderF 72 5 B b bs X) (hb : Below X.heap.size X Y) : Lib.IsBuilderF 72 5 B b bs Y :=
  builder_same h (fun k _ _ _ hk _ => (hb.block k (Array.getElem?_eq_some_iff.1 hk).1).trans hk)
theorem boxed_turn {B b : Nat} {t : TypeId} {v : Value} {X Y : World} (h : Boxed X b t v) (hT : TurnC B X Y) (ht : (t == 93) = false) : Boxed Y b t v := heap_cells_turn hT h ht
theorem boxed_below {b : Nat} {t : TypeId} {v : Value} {X Y : World} (h : Boxed X b t v) (hb : Below X.heap.size X Y) : Boxed Y b t v := (hb.block b h.lt).trans h
theorem builder_block {B b : Nat} {bs : List Value} {X : World} (h : Lib.IsBuilderF 72 5 B b bs X) : ∃ cs, X.heap[b]? = some (.cells cs 72 (0, 0)) := by
  rcases h with ⟨_, v, hb, _⟩ | ⟨_, v, hb, _⟩ <;> exact ⟨_, hb⟩

/-- A write keeps what is no cells, and all rows of errors. -/
theorem Keep.others {b : Nat} {W W' : World} {cs : Array Value} {fz : Nat × Nat} (hz : W.heap.size ≤ W'.heap.size) (h : Lib.OthersKept 5 (some b) W W') (hb : W.heap[b]? = some (.cells cs 72 fz)) : Keep W W' := by
  refine ⟨hz, fun k o hk ho => h k o hk ?_ ?_⟩
  · intro e; cases e
    rw [hb] at hk; cases hk
    rcases ho with h | h <;> simp [Obj.isCells, isRow] at h
  · rintro c f rfl
    rcases ho with h | h <;> simp [Obj.isCells, isRow] at h
theorem boxed_others {b k : Nat} {t : TypeId} {v : Value} {W W' : World} (h : Boxed W k t v) (ho : Lib.OthersKept 5 (some b) W W') (hk : k ≠ b) (ht : t ≠ 5) : Boxed W' k t v :=
  ho k _ h (fun e => hk (by cases e; rfl)) (fun c fz e => by cases e; exact ht rfl)

theorem meth_error (v : Value) (w : World) : (method 260 38 v "Error").run Tryd.prog w = .ok (32, v) w := by kernel_rfl
attribute [go_sem] meth_error

set_option maxHeartbeats 400000 in
theorem said_recover (w : World) : CallsD Tryd.prog 50 #[] .returning w fun e u' w' => u' = .returning ∧ (e = .returned (.tuple #[]) ∧ w = w') := by
  refine callsD_of_wpS Tryd.func50 rfl fun c₀ cs hu => ?_
  apply wpS_region; simp [wpOpsS, go_sem, recoverD, hu, Tryd.ntmps50]
  cases c₀
  simp_all [bodyPostS, results, Tryd.results50]

set_option maxRecDepth 100000 in
set_option maxHeartbeats 400000 in
theorem said_code (c : Int) (h : In64 c) (w : World) : Calls Tryd.prog 34 #[.iface 38 (.int .i64 c)] w fun e w' => e = .returned (.string ⟨(codeText c).toArray⟩) ∧ Below w.heap.size w w' := by
  go_enter_defers Tryd.func34, Tryd.ntmps34
  go_wp2_with (go_at_call 32; refine (error_any _ h.1 h.2 _).mono ?_; rintro e w' ⟨rfl, hb⟩)
  refine leaves_cons (f := 50) (args := #[]) (by simp) (by simp [go_sem]) ?_
  refine (said_recover _).mono ?_
  rintro e u' w'' ⟨rfl, rfl, rfl⟩
  exact ⟨_, results_tmp rfl _ _ _, rfl, hb⟩

theorem itoa_any (n : Int) (h : In64 n) (w : World) (ht : Tab w) : Calls Tryd.prog 33 #[.int .i64 n] w fun e w' => e = .returned (.string ⟨(Lib.itoa n).toArray⟩) ∧ Below w.heap.size w w' := by
  refine (Tryd.strconv_Itoa n h.1 h.2 w ht).mono ?_
  rintro e w' ⟨rfl, k, os, rfl⟩
  exact ⟨rfl, Lib.below_grow _ w (Nat.le_refl _) k os⟩

end Go.Proofs.YtplkeakkjkkfmaaDoor
