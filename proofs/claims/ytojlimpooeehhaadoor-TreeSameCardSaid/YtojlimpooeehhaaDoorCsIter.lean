/- links' own loop: each link of a trouble comes, in order. -/
import Derived.Test.YtojlimpooeehhaaDoorCsLaw
import Derived.Test.YtojlimpooeehhaaDoorCsWrap
import Derived.RangeFuncNested
import Derived.RangeFuncBound
import Derived.RangeFuncCalls
import Derived.RangeFuncLeaves
import Derived.Shelf.Abstract
import Derived.Shelf.RegionOpen
import Derived.OwnWalkIn
import Derived.TacticsInMore
import Derived.LoopNIn
import Derived.LoopIn
import Derived.Deep.LoopGhost
import Derived.Maps.AppendAt
import Derived.WalkSmall
import Derived.Lib.OwnKind
namespace Go.Proofs.YtojlimpooeehhaaDoor.Cs
open Go.RowKit Go.Shelf


def Empty (x : Value) : Prop := ∃ a c, x = .slice a 0 c
def Last (q : List (Int × Int)) (x : Value) (W : World) : Prop := match q with
  | [] => Empty x
  | y :: r => ∃ h, x = .slice (some ⟨h, 0, none⟩) 1 1 ∧ W.heap[h]? = some (.cells #[enc (y :: r)] 53 (0, 0))
def Rest (B : Nat) (q : List (Int × Int)) (k : Nat) (v : Value) (W : World) : Prop :=
  ∃ g cap es x, es.length = k ∧ (∀ y ∈ es, Empty y) ∧ v = .slice (some ⟨g, 0, none⟩) (k + 1) cap ∧ W.ownsRow B 150 1 v (k + 1) (es ++ [x]) ∧ Last q x W
def Head (B : Nat) (t : List (Int × Int)) (J : List (List (Int × Int)) → World → Prop) (n : Nat) (v : Value) (W : World) : Prop :=
  (∃ pre q k, Rest B q k v W ∧ pre ++ chain q = chain t ∧ k + q.length ≤ t.length ∧ B ≤ W.heap.size ∧ J pre W ∧ n = 3 * q.length + k + 1) ∨ (∃ a c, v = .slice a 0 c ∧ J (chain t) W ∧ n = 0)

theorem heap_new (w : World) (o : Obj) : (w.alloc o).heap[w.heap.size]? = some o := World.alloc_heap_new w o

def Ok : List (Int × Int) → Prop
  | [] => True
  | (c, _) :: r => (c = 0 → r ≠ []) ∧ Ok r

theorem stranger_any (z : Int × Int) (q : List (Int × Int)) (w : World) : Calls Tryd.prog 74 #[enc (z :: q)] w fun e w' => e = .returned (.bool false) ∧ w = w' := by
  obtain ⟨c, n⟩ := z
  by_cases h : c = 0
  · subst h; rw [enc_word]; exact stranger_at _ _
  · cases q with
    | nil => rw [enc_code _ _ h]; exact stranger_code _ _
    | cons y r => rw [enc_over _ _ h]; exact stranger_over _ _

/-- What wrapped makes: the row of what a link wraps. -/
structure Wrapped (q : List (Int × Int)) (w : World) (row : Value) (w' : World) : Prop where
  form : ∃ a n c, row = .slice a n c
  last : Last q row w'
  below : Below w.heap.size w w'

theorem wrapped_any (z : Int × Int) (q : List (Int × Int)) (hz : z.1 = 0 → q ≠ []) (w : World) : Calls Tryd.prog 98 #[enc (z :: q)] w fun e w' => ∃ row, e = .returned row ∧ Wrapped q w row w' := by
  obtain ⟨c, n⟩ := z
  have two : ∀ (o : Obj) (y : Int × Int) (r : List (Int × Int)) (t : TypeId) (u : Value), enc (y :: r) = .iface t u → Wrapped (y :: r) w (.slice (some ⟨w.heap.size + 1, 0, none⟩) 1 1) ((w.alloc o).alloc (.cells #[.iface t u] 53)) := by
    intro o y r t u hy
    refine ⟨⟨_, _, _, rfl⟩, ⟨w.heap.size + 1, rfl, ?_⟩, ((Below.refl _ _).alloc (Nat.le_refl _) _).alloc (by simp) _⟩
    rw [hy]
    have := heap_new (w.alloc o) (.cells #[.iface t u] 53)
    rwa [World.size_alloc] at this
  by_cases h : c = 0
  · subst h
    cases q with
    | nil => exact absurd rfl (hz rfl)
    | cons y r =>
      obtain ⟨t, u, hy⟩ := enc_cons y r
      rw [enc_word, hy]
      refine (wrapped_at n t u w).mono ?_
      rintro e w' ⟨rfl, rfl⟩
      exact ⟨_, rfl, two _ _ _ _ _ hy⟩
  · cases q with
    | nil =>
      rw [enc_code _ _ h]
      refine (wrapped_code _ w).mono ?_
      rintro e w' ⟨rfl, rfl⟩
      exact ⟨_, rfl, ⟨_, _, _, rfl⟩, ⟨_, _, rfl⟩, Below.refl _ _⟩
    | cons y r =>
      obtain ⟨t, u, hy⟩ := enc_cons y r
      rw [enc_over _ _ h, hy]
      refine (wrapped_over c t u w).mono ?_
      rintro e w' ⟨rfl, rfl⟩
      exact ⟨_, rfl, two _ _ _ _ _ hy⟩

theorem chain_ok : ∀ (pre : List (List (Int × Int))) (t q : List (Int × Int)), Ok t → pre ++ chain q = chain t → Ok q
  | [], t, q, ht, h => by
    cases t with
    | nil => cases q with
      | nil => exact ht
      | cons y q => simp [chain] at h
    | cons x r => cases q with
      | nil => simp [chain] at h
      | cons y q =>
        simp [chain] at h
        obtain ⟨⟨rfl, rfl⟩, _⟩ := h
        exact ht
  | p :: pre, t, q, ht, h => by
    cases t with
    | nil => simp [chain] at h
    | cons x r =>
      simp [chain] at h
      exact chain_ok pre r q ht.2 h.2

theorem Turn.of_below {B : Nat} {X Y : World} (h : Below X.heap.size X Y) (hB : B ≤ X.heap.size) : Turn B X Y :=
  ⟨h.mono hB, fun k _ hk _ => (h.block k (Array.getElem?_eq_some_iff.1 hk).1).trans hk⟩

theorem Last.turn {q : List (Int × Int)} {x : Value} {B : Nat} {X Y : World} (h : Last q x X) (hT : Turn B X Y) : Last q x Y := by
  cases q with
  | nil => exact h
  | cons y r =>
    obtain ⟨b, rfl, hb⟩ := h
    exact ⟨b, rfl, hT.same _ _ hb rfl⟩

theorem info93 : (Tryd.prog.info? 150).map (fun i => (i.zero, i.size, i.bytes)) = some (some (.slice none 0 0), 1, 24) := by kernel_rfl

theorem owns_cap {w : World} {B e n cap g : Nat} {xs : List Value} (h : w.ownsRow B e 1 (.slice (some ⟨g, 0, none⟩) n cap) n xs) : n ≤ cap := by
  rcases h.2 with ⟨h', _⟩ | ⟨g', cap', cur, h', _, hg, h1, _⟩
  · simp at h'
  · cases h'; exact h1

theorem least_lt {p q : Nat → Prop} {n' n0 : Nat} (hq : leastOf q = n0) (hp : p n') (hlt : n' < n0) : leastOf p < leastOf q := by
  have := (leastOf_spec ⟨n', hp⟩).2 n' hp; omega

theorem rest_start (w : World) (B : Nat) (hB : B ≤ w.heap.size) (y : Int × Int) (r : List (Int × Int)) (v : Value) (hv : enc (y :: r) = v) :
    Rest B (y :: r) 0 (.slice (some ⟨w.heap.size + 1, 0, none⟩) 1 1) ((w.alloc (.cells #[v] 53)).alloc (.cells #[.slice (some ⟨w.heap.size, 0, none⟩) 1 1] 150)) := by
  subst hv
  refine ⟨w.heap.size + 1, 1, [], _, rfl, by simp, rfl, ⟨by simp, .inr ⟨_, _, #[_], rfl, by omega, ?_, by omega, by unfold maxLen; omega, rfl, rfl⟩⟩, w.heap.size, rfl, ?_⟩
  · have := heap_new (w.alloc (.cells #[enc (y :: r)] 53)) (.cells #[.slice (some ⟨w.heap.size, 0, none⟩) 1 1] 150)
    rwa [World.size_alloc] at this
  · exact (Below.heap_alloc _ _ _ (by simp)).trans (heap_new w _)

theorem rest_pop {B k g cap : Nat} {W : World} {es : List Value} {x : Value} (hes : es.length = k + 1) (he : ∀ y ∈ es, Empty y) (ho : W.ownsRow B 150 1 (.slice (some ⟨g, 0, none⟩) (k + 1 + 1) cap) (k + 1 + 1) (es ++ [x])) :
    Rest B [] k (.slice (some ⟨g, 0, none⟩) (k + 1) cap) W := by
  obtain ⟨fs, y, rfl⟩ : ∃ fs y, es = fs ++ [y] := by
    rcases List.eq_nil_or_concat es with h | ⟨fs, y, h⟩
    · subst h; simp at hes
    · exact ⟨fs, y, by simpa using h⟩
  simp at hes
  exact ⟨g, cap, fs, y, hes, fun z hz => he z (by simp [hz]), rfl, ownsRow_pop (by simp [hes]) ho, he y (by simp)⟩

set_option maxRecDepth 100000 in
set_option maxHeartbeats 1000000 in
theorem links_cons (m : Nat) (x : Int × Int) (r : List (Int × Int)) (hok : Ok (x :: r)) (hr : r.length ≤ 1000) (l Bn : Nat) (W : World) (hBn : Boxed W Bn 53 (enc (x :: r))) : LinksStop Tryd.prog m (x :: r) l Bn W := by
  intro J Jx hJ hY h0
  have Hok := Lib.hid hok; clear hok
  obtain ⟨t', u', hx⟩ := enc_cons x r
  have hb := hBn.cell
  rw [hx] at hb
  refine callsIn_of_wp Tryd.func97 rfl trivial ?_ rfl
  simp only [Tryd.ntmps97, List.size_toArray, List.length_cons, List.length_nil, Nat.reduceAdd, Nat.reduceSub, Array.replicate_succ, Array.replicate_zero, List.push_toArray, List.append_toArray, List.nil_append, List.cons_append]
  have HX := Lib.hid hx; clear hx
  gi_wp2
  gi_loopw [3, 4] (fun s v wr => s = .int .i64 0 ∧ ∃ n, Head W.heap.size (x :: r) J n v wr) (fun _ v wr => leastOf (fun n => Head W.heap.size (x :: r) J n v wr))
  case atStart =>
    refine ⟨rfl, _, .inl ⟨[], x :: r, 0, rest_start W _ (Nat.le_refl _) x r _ HX.out, rfl, by simp, by simp; omega, ?_, rfl⟩⟩
    exact hJ _ _ _ h0 ((Turn.alloc W (Nat.le_refl _) _).trans (Turn.alloc _ (by simp) _))
  case round =>
    obtain ⟨rfl, hn⟩ := hrel
    have hs := (leastOf_spec hn).1
    generalize hN : leastOf (fun n => Head W.heap.size (x :: r) J n u4 wr) = n0 at hs
    have HN := Lib.hid hN; clear hN hn hb
    rcases hs with ⟨pre, q, k, hR, hpre, hkt, hBw, hJp, hn0⟩ | ⟨a, c, rfl, hJe, hn0⟩
    · have Hpre := Lib.hid hpre; clear hpre
      have Hn0 := Lib.hid hn0; clear hn0
      simp only [List.length_cons] at hkt
      obtain ⟨g, cap, es, y, hes, hem, rfl, hown, hlast⟩ := hR
      have Hes := Lib.hid hes; clear hes
      have hcell : wr.cell? ⟨g, k, none⟩ = some y := by
        rw [hown.cellAt k (by omega)]; simp [← Hes.out]
      have hfz := hown.frozenAt k
      have hcap := owns_cap hown
      cases q with
      | nil =>
        obtain ⟨a, c, rfl⟩ := hlast
        have hkk : k ≤ 1001 := by omega
        have hch : pre = chain (x :: r) := by have := Hpre.out; simpa [chain] using this
        have hnew : Head W.heap.size (x :: r) J k (.slice (some ⟨g, 0, none⟩) k cap) wr := by
          cases k with
          | zero => exact .inr ⟨_, _, rfl, by rw [← hch]; exact hJp, rfl⟩
          | succ k => exact .inl ⟨pre, [], k, rest_pop Hes.out hem hown, by simpa [chain] using hch, by simp; omega, hBw, hJp, by simp⟩
        have Hnew := Lib.hid hnew
        have hlt : k < n0 := by have := Hn0.out; simp at this; omega
        clear hnew hch hkt hem hown hJp
        gi_wp2
        go_roundw
        case rel => exact ⟨rfl, _, Hnew.out⟩
        case measure => exact least_lt HN.out Hnew.out hlt
      | cons z q =>
        obtain ⟨h, rfl, hh⟩ := hlast
        obtain ⟨T, u, hz⟩ := enc_cons z q
        have hst := stranger_any z q
        have hwr := wrapped_any z q (chain_ok _ _ _ Hok.out Hpre.out).1
        rw [hz] at hst hwr hh
        have hch : wr.cell? ⟨h, 0, none⟩ = some (.iface T u) := by simp [World.cell?, hh]
        have Hst := Lib.hid hst; clear hst
        have Hwr := Lib.hid hwr; clear hwr
        have Hh := Lib.hid hh; clear hh
        have Hz := Lib.hid hz; clear hz
        have HY := Lib.hid hY; clear hY
        have HJ := Lib.hid hJ; clear hJ
        have Hown := Lib.hid hown; clear hown
        have Hem := Lib.hid hem; clear hem
        obtain ⟨hBg, cur, fz, hg⟩ : W.heap.size ≤ g ∧ ∃ cur fz, wr.heap[g]? = some (.cells cur 150 fz) := ⟨(Hown.out.lt g rfl).1, Lib.ownsRow_kind Hown.out g rfl⟩
        obtain ⟨X0, hX0⟩ : ∃ X0, wr.setCell ⟨g, k, none⟩ (.slice (some ⟨h, 0, none⟩) 0 0) = X0 := ⟨_, rfl⟩
        have hJX : J pre X0 := by rw [← hX0]; exact HJ.out _ _ _ hJp (Turn.setCell hBg hg _ _)
        have hown0 := (Hown.out.stored k (.slice (some ⟨h, 0, none⟩) 0 0)).1
        rw [hX0] at hown0
        have hset : (es ++ [Value.slice (some ⟨h, 0, none⟩) 1 1]).set k (.slice (some ⟨h, 0, none⟩) 0 0) = es ++ [Value.slice (some ⟨h, 0, none⟩) 0 0] := by
          have := Hes.out; subst this; simp
        rw [hset] at hown0
        have hszX : X0.heap.size = wr.heap.size := by rw [← hX0]; simp
        obtain ⟨fn, tmps, assign, body, hy, hR⟩ := HY.out pre (z :: q) X0 Hpre.out (by simp) hJX
        rw [Hz.out] at hy
        have HR := Lib.hid hR; clear hR
        have Hown0 := Lib.hid hown0; clear hown0 hset
        have Hg := Lib.hid hg; clear hg
        have HX0 := Lib.hid hX0; clear hJX
        have HszX := Lib.hid hszX; clear hszX
        gi_wp2_with fail
        refine ⟨trivial, (fun h => by cases h), ?_⟩
        refine (callsIn_wide.2 (Hst.out _)).mono ?_
        rintro e w' ⟨rfl, rfl⟩
        clear hX0
        gi_wp2
        refine ⟨(fun h => by cases h), ?_⟩
        refine HR.out.mono ?_
        rintro e W3 (⟨rfl, hJ3, hk3⟩ | ⟨rfl, hJx3⟩)
        · clear hy
          have HJ3 := Lib.hid hJ3; clear hJ3
          gi_wp2_with fail
          refine ⟨trivial, (fun h => by cases h), ?_⟩
          refine (callsIn_wide.2 (Hwr.out _)).mono ?_
          rintro e w4 ⟨row, rfl, hwd⟩
          obtain ⟨ra, rn, rc, rfl⟩ := hwd.form
          have hown3 : W3.ownsRow W.heap.size 150 1 (.slice (some ⟨g, 0, none⟩) (k + 1) cap) (k + 1) (es ++ [Value.slice (some ⟨h, 0, none⟩) 0 0]) := by
            obtain ⟨c3, f3, hg3⟩ := Lib.ownsRow_kind Hown0.out g rfl
            have h3 := hk3.same g _ hg3 (.inr (by simp [isRow]))
            rcases Hown0.out with ⟨hl, (⟨hn, _⟩ | ⟨g', cap', cur', e', b1, b2, b3⟩)⟩
            · cases hn
            · cases e'
              exact ⟨hl, .inr ⟨_, _, cur', rfl, b1, by rw [h3, ← hg3]; exact b2, b3⟩⟩
          have hown4 : w4.ownsRow W.heap.size 150 1 (.slice (some ⟨g, 0, none⟩) (k + 1) cap) (k + 1) (es ++ [Value.slice (some ⟨h, 0, none⟩) 0 0]) :=
            hown3.kept (row := none) ⟨hwd.below.os, hwd.below.tape, hwd.below.output, hwd.below.size, fun k hk _ => hwd.below.block k hk⟩ (.inr (by simp [Value.ownBlock]))
          have hsz4 : W.heap.size ≤ w4.heap.size := by
            have h1 := hwd.below.size; have h2 := hk3.size; have h3 := HszX.out; omega
          obtain ⟨i0, hi, hz0, hz1, hz2⟩ := info_parts info93
          have Hown4 := Lib.hid hown4; clear hown4 hown3
          have Hwd := Lib.hid hwd; clear hwd
          gi_wp2_with (gi_at_builtin; refine wpListIn_append_own _ rfl _ _ 152 rfl W.heap.size 150 i0 (.slice none 0 0) 1 24 Tryd.underlying152 hi hz0 hz1 hz2 rfl (by decide) _ _ _ rfl (Hown4.out.alloc _) ⟨w4.heap.size, 0, none⟩ 1 1 [.slice ra rn rc] rfl rfl (cell_one_new _ _ _) (by simp [Value.oneCell']) (by unfold maxLen; omega) (by omega) (by simp; omega) ?_; intro v' w5 hown5 hgrow _; obtain ⟨g', cap', rfl⟩ := ownsRow_succ hown5)
          clear hi hz0 hz1 hz2
          have hT : Turn W.heap.size W3 w5 := by
            have hz3 : W.heap.size ≤ W3.heap.size := by have h2 := hk3.size; have h3 := HszX.out; omega
            refine ((Turn.of_below Hwd.out.below hz3).trans (Turn.alloc w4 hsz4 _)).trans (Turn.grown hgrow (by simp; omega) fun b hb => ?_)
            cases hb
            obtain ⟨c4, f4, hg4⟩ := Lib.ownsRow_kind (Hown4.out.alloc _) g rfl
            exact ⟨hBg, c4, f4, hg4⟩
          have hT4 : Turn W.heap.size w4 w5 := by
            refine (Turn.alloc w4 hsz4 _).trans (Turn.grown hgrow (by simp; omega) fun b hb => ?_)
            cases hb
            obtain ⟨c4, f4, hg4⟩ := Lib.ownsRow_kind (Hown4.out.alloc _) g rfl
            exact ⟨hBg, c4, f4, hg4⟩
          have hnew : Head W.heap.size (x :: r) J (3 * q.length + (k + 1) + 1) (.slice (some ⟨g', 0, none⟩) (k + 1 + 1) cap') w5 := by
            refine .inl ⟨pre ++ [z :: q], q, k + 1, ⟨g', cap', es ++ [.slice (some ⟨h, 0, none⟩) 0 0], .slice ra rn rc, by simp [Hes.out], ?_, rfl, hown5, Hwd.out.last.turn hT4⟩, ?_, ?_, ?_, HJ.out _ _ _ HJ3.out hT, rfl⟩
            · intro y hy
              rcases List.mem_append.1 hy with hy | hy
              · exact Hem.out y hy
              · rw [List.mem_singleton.1 hy]; exact ⟨_, _, rfl⟩
            · rw [← Hpre.out]; simp [chain]
            · simp only [List.length_cons] at hkt ⊢; omega
            · have := hT4.below.size; omega
          exact ⟨⟨rfl, _, hnew⟩, least_lt HN.out hnew (by have := Hn0.out; simp only [List.length_cons] at this; omega)⟩
        · clear hy
          have HJx3 := Lib.hid hJx3; clear hJx3
          gi_wp2
          refine bodyPost_ret (results_none rfl _ _ _) rfl ?_
          exact ⟨⟨_, rfl⟩, .inr ⟨pre ++ [z :: q], by rw [← Hpre.out]; simp [chain], HJx3.out⟩⟩
    · gi_wp2
      go_end0
      exact ⟨⟨_, rfl⟩, .inl hJe⟩

end Go.Proofs.YtojlimpooeehhaaDoor.Cs
