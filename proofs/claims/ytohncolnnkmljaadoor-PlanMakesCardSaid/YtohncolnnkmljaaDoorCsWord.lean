/- What Word tells of a trouble: its innermost word. -/
import Derived.Test.YtohncolnnkmljaaDoorCsCodes
namespace Go.Proofs.YtohncolnnkmljaaDoor.Cs
open Go.RowKit Go.Shelf

attribute [local go_sem] Oper.semAt_some

/-- The innermost word, behind what was there. -/
def wordFrom : Int × Bool → List (Int × Int) → Int × Bool
  | a, [] => a
  | a, (c, n) :: r => if c = 0 then wordFrom (n, true) r else wordFrom a r
theorem wordFrom_word (a : Int × Bool) (n : Int) (r : List (Int × Int)) : wordFrom a ((0, n) :: r) = wordFrom (n, true) r := by simp [wordFrom]
theorem wordFrom_code (a : Int × Bool) (c n : Int) (h : ¬ c = 0) (r : List (Int × Int)) : wordFrom a ((c, n) :: r) = wordFrom a r := by simp [wordFrom, h]

structure WordAt (t : List (Int × Int)) (w : World) (pre : List (List (Int × Int))) (n : Int) (b : Bool) (W : World) : Prop where
  box1 : Boxed W w.heap.size 3 (.int .i64 n)
  box2 : Boxed W (w.heap.size + 1) 4 (.bool b)
  told : ∀ q, pre ++ chain q = chain t → wordFrom (0, false) t = wordFrom (n, b) q
  below : Below w.heap.size w W
def WordI (t : List (Int × Int)) (w : World) (pre : List (List (Int × Int))) (W : World) : Prop := ∃ n b, WordAt t w pre n b W

theorem wordI_turn {t : List (Int × Int)} {w : World} {B : Nat} (hB : w.heap.size ≤ B) (s : List (List (Int × Int))) (X Y : World) (h : WordI t w s X) (hT : TurnC B X Y) : WordI t w s Y := by
  obtain ⟨n, b, h⟩ := h
  exact ⟨n, b, boxed_turn h.box1 hT rfl, boxed_turn h.box2 hT rfl, h.told, h.below.trans (hT.below.mono hB)⟩

theorem told_tail_word {t q : List (Int × Int)} {x : Int × Int} {pre : List (List (Int × Int))} {a b : Int × Bool} (hpre : pre ++ chain (x :: q) = chain t) (h : wordFrom (0, false) t = wordFrom a (x :: q)) (hs : wordFrom a (x :: q) = wordFrom b q) :
    ∀ q', (pre ++ [x :: q]) ++ chain q' = chain t → wordFrom (0, false) t = wordFrom b q' := by
  intro q' hq'
  have e : q' = q := by
    have h1 : pre ++ chain (x :: q) = (pre ++ [x :: q]) ++ chain q := by simp [chain]
    rw [← hpre, h1] at hq'
    exact chain_inj (List.append_cancel_left hq')
  subst e
  rw [h, hs]

theorem keep_box {W : World} {b : Nat} {t : TypeId} {v : Value} (h : Boxed W b t v) (ht : (t == 135 || t == 49) = false) (u : Value) : Keep W (W.setCell ⟨b, 0, none⟩ u) :=
  Keep.of_grownBy (grownBy_setCell' W b u) (fun r e => by cases e; exact ⟨_, h, rfl, by simpa [isRow] using ht⟩)

set_option maxRecDepth 100000 in
set_option maxHeartbeats 2000000 in
theorem word_any (t : List (Int × Int)) (hok : Ok t) (ht : t.length ≤ 1000) (w : World) :
    Calls Tryd.prog 37 #[enc t] w fun e w' => e = .returned (.tuple #[.int .i64 (wordFrom (0, false) t).1, .bool (wordFrom (0, false) t).2]) ∧ Below w.heap.size w w' := by
  refine (callsIn_wide (n := 3)).1 ?_
  refine callsIn_of_wp_marks Tryd.func37 rfl trivial ?_ rfl
  simp only [Tryd.ntmps37, List.size_toArray, List.length_cons, List.length_nil, Nat.reduceAdd, Nat.reduceSub, Array.replicate_succ, Array.replicate_zero, List.push_toArray, List.append_toArray, List.nil_append, List.cons_append]
  have Hok := Lib.hid hok; clear hok
  gi_wp2_with fail
  refine ⟨trivial, ?_⟩
  refine (callsIn_wide.2 (links_made t _)).mono ?_
  rintro e w' ⟨rfl, rfl⟩
  gi_wp2_with fail
  obtain ⟨W0, hW0⟩ : ∃ W0, ((w.alloc (.cells #[.int .i64 0] 3)).alloc (.cells #[.bool false] 4)).alloc (.cells #[enc t] 49) = W0 := ⟨_, rfl⟩
  have hz0 : W0.heap.size = w.heap.size + 3 := by rw [← hW0]; simp
  have hbox1 : Boxed W0 w.heap.size 3 (.int .i64 0) := by rw [← hW0]; exact ((Boxed.new w 3 _).alloc _).alloc _
  have hbox2 : Boxed W0 (w.heap.size + 1) 4 (.bool false) := by
    rw [← hW0]
    have := (Boxed.new (w.alloc (.cells #[.int .i64 0] 3)) 4 (.bool false)).alloc (.cells #[enc t] 49)
    simpa using this
  have hBn : Boxed W0 (w.heap.size + 1 + 1) 49 (enc t) := by
    rw [← hW0]
    have := Boxed.new ((w.alloc (.cells #[.int .i64 0] 3)).alloc (.cells #[.bool false] 4)) 49 (enc t)
    simpa using this
  have hbl : Below w.heap.size w W0 := by rw [← hW0]; exact (((Below.refl _ w).alloc (Nat.le_refl _) _).alloc (by simp) _).alloc (by simp; omega) _
  rw [hW0]
  have hstart : WordI t w [] W0 := ⟨0, false, hbox1, hbox2, fun q hq => by have := chain_inj (a := q) (b := t) (by simpa using hq); rw [this], hbl⟩
  have Hstart := Lib.hid hstart
  clear hstart hbox1 hbox2 hW0
  have hB0 : w.heap.size ≤ W0.heap.size := by omega
  refine range_links (t := t) (Bn := w.heap.size + 1 + 1) rfl rfl (enters_of Tryd.func82 (by kernel_rfl) rfl)
    (fun l W hb => links_any _ t Hok.out (by omega) l _ W (boxed_below hBn hb))
    (WordI t w) (fun _ _ => False) (wordI_turn hB0) (fun _ _ _ h _ => h) Hstart.out
    (fun q => { tmps := #[enc t, undef, .int .i64 0, .bool false, .pointer (some ⟨w.heap.size, 0, none⟩), .pointer (some ⟨w.heap.size + 1, 0, none⟩), enc q, undef, undef, enc t, .func (.func 82) #[] #[.pointer (some ⟨w.heap.size + 1 + 1, 0, none⟩)], enc q, undef, undef, undef, undef, undef, undef, undef, undef, undef, undef], defers := [] }) ?assign ?body ?done ?stop
  case assign =>
    intro l q W K hK
    gi_wp2
    exact hK
  case body =>
    intro l pre q W hpre hq hI
    obtain ⟨⟨c, n⟩, r, rfl⟩ : ∃ x r, q = x :: r := by
      cases q with
      | nil => exact absurd rfl hq
      | cons x r => exact ⟨x, r, rfl⟩
    obtain ⟨m, b, hc⟩ := hI
    have hcell1 := hc.box1.cell
    have hfz1 := hc.box1.frozen
    have hcell2 := hc.box2.cell
    have hfz2 := hc.box2.frozen
    have hzW : w.heap.size + 1 < W.heap.size := hc.box2.lt
    have HI := Lib.hid hc; clear hc
    have Hpre := Lib.hid hpre; clear hpre hq
    by_cases h : c = 0
    · subst h
      have hr : r ≠ [] := (chain_ok _ _ _ Hok.out Hpre.out).1 rfl
      obtain ⟨T, u, hy⟩ : ∃ T u, enc r = .iface T u := by
        cases r with
        | nil => exact absurd rfl hr
        | cons y r => exact enc_cons y r
      rw [enc_word, hy]
      clear hy hr
      have hs2 := HI.out.box2.other (B' := w.heap.size) (by omega) (.int .i64 n)
      have hsc2 := hs2.cell
      have hsf2 := hs2.frozen
      clear hs2
      have hzW0 : w.heap.size < W.heap.size := by omega
      gi_wp2
      have h := HI.out
      have b2 := h.box2.other (B' := w.heap.size) (by omega) (.int .i64 n)
      refine ⟨(keep_box h.box1 rfl _).trans ((keep_box b2 rfl _).trans (Keep.alloc _ _)), n, true, ((h.box1.set (.int .i64 n)).other (by omega) _).alloc _, (b2.set _).alloc _, told_tail_word Hpre.out (h.told _ Hpre.out) (wordFrom_word _ _ _), ?_⟩
      exact ((h.below.setCell (p := ⟨w.heap.size, 0, none⟩) (Nat.le_refl _) _).setCell (p := ⟨w.heap.size + 1, 0, none⟩) (by simp) _).alloc (by simp; omega) _
    · cases r with
      | nil =>
        rw [enc_code _ _ h]
        have Hs := Lib.hid (wordFrom_code (m, b) c n h [])
        clear h
        gi_wp2
        exact ⟨Keep.alloc _ _, m, b, HI.out.box1.alloc _, HI.out.box2.alloc _, told_tail_word Hpre.out (HI.out.told _ Hpre.out) Hs.out, HI.out.below.alloc (by omega) _⟩
      | cons y r =>
        obtain ⟨T, u, hy⟩ := enc_cons y r
        have Hs := Lib.hid (wordFrom_code (m, b) c n h (y :: r))
        rw [enc_over _ _ h, hy]
        clear hy h
        gi_wp2
        exact ⟨Keep.alloc _ _, m, b, HI.out.box1.alloc _, HI.out.box2.alloc _, told_tail_word Hpre.out (HI.out.told _ Hpre.out) Hs.out, HI.out.below.alloc (by omega) _⟩
  case done =>
    rintro D W hD ⟨m, b, hc⟩ hK
    have hcs : wordFrom (0, false) t = (m, b) := by have := hc.told [] (by simp [chain]); simpa [wordFrom] using this
    have hcell1 := hc.box1.cell
    have hcell2 := hc.box2.cell
    have HI := Lib.hid hc; clear hc
    have Hcs := Lib.hid hcs; clear hcs
    gi_wp2
    gi_region
    gi_wp2
    refine ⟨by simp, .inl ⟨_, _, rfl, run_takeDeferred (w := W.drew) hK, ?_⟩⟩
    refine ⟨_, results_tmp2 rfl _ _ _, ?_, (HI.out.below.drew).trans (belowK_b (w := W0) hB0 W.drew D _ _ hD hK rfl rfl)⟩
    rw [Hcs.out]
    rfl
  case stop =>
    rintro D pre W _ _ h _
    exact h.elim

end Go.Proofs.YtohncolnnkmljaaDoor.Cs
