/- What Codes tells of a trouble: its codes, the topmost one first. -/
import Derived.Test.YtplkeakkjkkfmaaDoorSaid
namespace Go.Proofs.YtplkeakkjkkfmaaDoor
open Go.RowKit Go.Shelf
attribute [local go_sem] Oper.semAt_some

/-- A trouble's codes. -/
def codesP : List (Int × Int) → List Int
  | [] => []
  | (c, _) :: r => if c = 0 then codesP r else c :: codesP r
def cellsC (l : List Int) : List Value := l.map (Value.int .i64)

theorem codesP_word (n : Int) (r : List (Int × Int)) : codesP ((0, n) :: r) = codesP r := by simp [codesP]
theorem codesP_code (c n : Int) (h : ¬ c = 0) (r : List (Int × Int)) : codesP ((c, n) :: r) = c :: codesP r := by simp [codesP, h]
theorem codesP_len : ∀ t : List (Int × Int), (codesP t).length ≤ t.length
  | [] => by simp [codesP]
  | (c, n) :: r => by
    have := codesP_len r
    by_cases h : c = 0
    · subst h; rw [codesP_word]; simp; omega
    · rw [codesP_code _ _ h]; simp; omega

/-- v is a row of codes, made since B. -/
structure CodeRow (B : Nat) (v : Value) (l : List Int) (W : World) : Prop where
  own : W.ownsRow B 38 1 v l.length (cellsC l)
  nil : l = [] → v = .slice none 0 0

/-- Between two rounds of Codes' loop. -/
structure CodesAt (t : List (Int × Int)) (w : World) (pre : List (List (Int × Int))) (l : List Int) (v : Value) (W : World) : Prop where
  box : Boxed W w.heap.size 30 v
  row : CodeRow w.heap.size v l W
  told : ∀ q, pre ++ chain q = chain t → codesP t = l ++ codesP q
  below : Below w.heap.size w W
def CodesI (t : List (Int × Int)) (w : World) (pre : List (List (Int × Int))) (W : World) : Prop := ∃ l v, CodesAt t w pre l v W

theorem row_turn {B B' : Nat} {e : TypeId} {size n : Nat} {v : Value} {xs : List Value} {X Y : World} (h : X.ownsRow B e size v n xs) (hT : TurnC B' X Y) (he : (e == 93) = false) : Y.ownsRow B e size v n xs := by
  refine ⟨h.1, ?_⟩
  rcases h.2 with h1 | ⟨g, cap, cur, hv, hb, hg, rest⟩
  · exact .inl h1
  · exact .inr ⟨g, cap, cur, hv, hb, heap_cells_turn hT hg he, rest⟩

theorem codesI_turn {t : List (Int × Int)} {w : World} {B : Nat} (hB : w.heap.size ≤ B) (s : List (List (Int × Int))) (X Y : World) (h : CodesI t w s X) (hT : TurnC B X Y) : CodesI t w s Y := by
  obtain ⟨l, v, h⟩ := h
  exact ⟨l, v, boxed_turn h.box hT rfl, ⟨row_turn h.row.own hT rfl, h.row.nil⟩, h.told, h.below.trans (hT.below.mono hB)⟩

theorem told_len_codes {t q : List (Int × Int)} {l : List Int} (h : codesP t = l ++ codesP q) : l.length ≤ t.length := by
  have h1 := congrArg List.length h
  have h2 := codesP_len t
  simp at h1; omega

theorem told_tail {t q : List (Int × Int)} {x : Int × Int} {pre : List (List (Int × Int))} {l s : List Int} (hpre : pre ++ chain (x :: q) = chain t) (h : codesP t = l ++ codesP (x :: q)) (hs : codesP (x :: q) = s ++ codesP q) :
    ∀ q', (pre ++ [x :: q]) ++ chain q' = chain t → codesP t = (l ++ s) ++ codesP q' := by
  intro q' hq'
  have e : q' = q := by
    have h1 : pre ++ chain (x :: q) = (pre ++ [x :: q]) ++ chain q := by simp [chain]
    rw [← hpre, h1] at hq'
    exact chain_inj (List.append_cancel_left hq')
  subst e
  rw [h, hs]; simp

theorem info38 : (Tryd.prog.info? 38).map (fun i => (i.zero, i.size, i.bytes)) = some (some (.int .i64 0), 1, 8) := by kernel_rfl

/-- One more code has been put behind the others. -/
theorem codes_next {t q : List (Int × Int)} {x : Int × Int} {w W W1 w1 : World} {pre : List (List (Int × Int))} {l : List Int} {v v' : Value} {c : Int} (h : CodesAt t w pre l v W) (h1 : Below W.heap.size W W1) (hpre : pre ++ chain (x :: q) = chain t)
    (hs : codesP (x :: q) = c :: codesP q) (hown' : w1.ownsRow w.heap.size 38 1 v' (l.length + 1) (cellsC l ++ [.int .i64 c])) (hgrow : (W1.alloc (.cells #[.int .i64 c] 38)).grownBy w1 v.ownBlock) :
    Boxed w1 w.heap.size 30 v ∧ Keep W (w1.setCell ⟨w.heap.size, 0, none⟩ v') ∧ CodesI t w (pre ++ [x :: q]) (w1.setCell ⟨w.heap.size, 0, none⟩ v') := by
  have hz : w.heap.size ≤ W.heap.size := h.below.size
  have hrow1 : W1.ownsRow w.heap.size 38 1 v l.length (cellsC l) := by
    have := h.row.own
    exact this.kept (row := none) ⟨h1.os, h1.tape, h1.output, h1.size, fun k hk _ => h1.block k hk⟩ (by cases v.ownBlock <;> simp)
  have hbox1 := boxed_below h.box h1
  obtain ⟨b1, b2, b3, _, b5⟩ := hbox1.appended (by decide) hrow1 (by have := h1.size; omega) (Nat.le_refl _) hown' hgrow
  refine ⟨b1, ?_, l ++ [c], v', b2, ⟨?_, fun e => by simp at e⟩, told_tail hpre (h.told _ hpre) hs, (h.below.trans (h1.mono hz)).trans b5⟩
  · refine (Keep.below h1).trans ((Keep.alloc W1 _).trans ((Keep.of_grownBy hgrow fun r hr => ?_).trans (Keep.of_grownBy (grownBy_setCell' w1 w.heap.size v') (fun r e => by cases e; exact ⟨_, b1, rfl, rfl⟩))))
    obtain ⟨cc, fz, hc⟩ := Lib.ownsRow_kind (hrow1.alloc _) r hr
    exact ⟨_, hc, rfl, rfl⟩
  · simpa [cellsC] using b3

set_option maxRecDepth 100000 in
set_option maxHeartbeats 2000000 in
theorem codes_any (t : List (Int × Int)) (hok : Ok t) (ht : t.length ≤ 1000) (w : World) :
    Calls Tryd.prog 10 #[enc t] w fun e w' => ∃ v, e = .returned v ∧ CodeRow w.heap.size v (codesP t) w' ∧ Below w.heap.size w w' := by
  refine (callsIn_wide (n := 3)).1 ?_
  refine callsIn_of_wp_marks Tryd.func10 rfl trivial ?_ rfl
  simp only [Tryd.ntmps10, List.size_toArray, List.length_cons, List.length_nil, Nat.reduceAdd, Nat.reduceSub, Array.replicate_succ, Array.replicate_zero, List.push_toArray, List.append_toArray, List.nil_append, List.cons_append]
  have Hok := Lib.hid hok; clear hok
  gi_wp2_with fail
  refine ⟨trivial, ?_⟩
  refine (callsIn_wide.2 (links_made t _)).mono ?_
  rintro e w' ⟨rfl, rfl⟩
  gi_wp2_with fail
  obtain ⟨W0, hW0⟩ : ∃ W0, (w.alloc (.cells #[.slice none 0 0] 30)).alloc (.cells #[enc t] 25) = W0 := ⟨_, rfl⟩
  have hz0 : W0.heap.size = w.heap.size + 2 := by rw [← hW0]; simp
  have hbox : Boxed W0 w.heap.size 30 (.slice none 0 0) := by rw [← hW0]; exact (Boxed.new w 30 _).alloc _
  have hBn : Boxed W0 (w.heap.size + 1) 25 (enc t) := by
    rw [← hW0]
    have := Boxed.new (w.alloc (.cells #[.slice none 0 0] 30)) 25 (enc t)
    simpa using this
  have hbl : Below w.heap.size w W0 := by rw [← hW0]; exact ((Below.refl _ w).alloc (Nat.le_refl _) _).alloc (by simp) _
  rw [hW0]
  have hstart : CodesI t w [] W0 := ⟨[], .slice none 0 0, hbox, ⟨World.ownsRow_nil _ _ _ _, fun _ => rfl⟩, fun q hq => by have := chain_inj (a := q) (b := t) (by simpa using hq); rw [this]; rfl, hbl⟩
  have Hstart := Lib.hid hstart
  clear hstart hbox hW0
  have hB0 : w.heap.size ≤ W0.heap.size := by omega
  refine range_links (t := t) (Bn := w.heap.size + 1) rfl rfl (enters_of Tryd.func44 (by kernel_rfl) rfl)
    (fun l W hb => links_any _ t Hok.out (by omega) l _ W (boxed_below hBn hb))
    (CodesI t w) (fun _ _ => False) (codesI_turn hB0) (fun _ _ _ h _ => h) Hstart.out
    (fun q => { tmps := #[enc t, undef, .slice none 0 0, .pointer (some ⟨w.heap.size, 0, none⟩), enc q, undef, undef, enc t, .func (.func 44) #[] #[.pointer (some ⟨w.heap.size + 1, 0, none⟩)], enc q, undef, undef, undef, undef, undef, undef, undef, undef, undef, undef, undef, undef, undef, undef, undef, undef, undef], defers := [] }) ?assign ?body ?done ?stop
  case assign =>
    intro l q W K hK
    gi_wp2
    exact hK
  case body =>
    intro l pre q W hpre hq hI
    obtain ⟨⟨c, n⟩, r, rfl⟩ : ∃ x r, q = x :: r := by
      cases q with
      | nil => exact absurd rfl hq
      | cons x r => exact ⟨x, r, rfl⟩
    obtain ⟨cs, v, hc⟩ := hI
    have hlen := told_len_codes (hc.told _ hpre)
    have hcell := hc.box.cell
    have hfz := hc.box.frozen
    have hv : ∃ a n c, v = .slice a n c := by
      rcases hc.row.own.2 with ⟨h, _⟩ | ⟨g, cap, cur, h, _⟩
      · exact ⟨_, _, _, h⟩
      · exact ⟨_, _, _, h⟩
    obtain ⟨va, vn, vc, rfl⟩ := hv
    have hzW : w.heap.size < W.heap.size := hc.box.lt
    obtain ⟨i0, hi, hz1, hz2, hz3⟩ := info_parts info38
    have HI := Lib.hid hc; clear hc
    have Hpre := Lib.hid hpre; clear hpre hq
    by_cases h : c = 0
    · subst h
      have hr : r ≠ [] := (chain_ok _ _ _ Hok.out Hpre.out).1 rfl
      obtain ⟨T, u, hy⟩ : ∃ T u, enc r = .iface T u := by
        cases r with
        | nil => exact absurd rfl hr
        | cons y r => exact enc_cons y r
      rw [enc_word, hy]
      clear hy hr hi hz1 hz2 hz3
      have hI2 : CodesI t w (pre ++ [(0, n) :: r]) W := ⟨cs, _, HI.out.box, HI.out.row, by have := told_tail (s := []) Hpre.out (HI.out.told _ Hpre.out) (by rw [codesP_word]; rfl); simpa using this, HI.out.below⟩
      have HI2 := Lib.hid hI2; clear hI2
      gi_wp2
      exact ⟨Keep.refl _, HI2.out⟩
    · cases r with
      | nil =>
        rw [enc_code _ _ h]
        have Hs := Lib.hid (codesP_code c n h [])
        clear h
        gi_wp2_with (gi_at_builtin; refine wpListIn_append_own _ rfl _ _ 30 rfl w.heap.size 38 i0 (.int .i64 0) 1 8 Tryd.underlying30 hi hz1 hz2 hz3 rfl (by decide) _ _ _ rfl (HI.out.row.own.alloc _) ⟨W.heap.size, 0, none⟩ 1 1 [.int .i64 c] rfl rfl (cell_one_new _ _ _) (by simp [Value.oneCell']) (by unfold maxLen; omega) (by omega) (by simp; omega) ?_; intro v' w1 hown' hgrow _; obtain ⟨g', cap', rfl⟩ := ownsRow_succ hown'; obtain ⟨hb1, hk1, hn1⟩ := codes_next HI.out (Below.refl _ _) Hpre.out Hs.out hown' hgrow; have hc1 := hb1.cell; have hf1 := hb1.frozen; clear hb1 hown' hgrow)
        exact ⟨hk1, hn1⟩
      | cons y r =>
        obtain ⟨T, u, hy⟩ := enc_cons y r
        have Hs := Lib.hid (codesP_code c n h (y :: r))
        rw [enc_over _ _ h, hy]
        clear hy h
        have hcn : ∀ j x, [Value.int .i64 c][j]? = some x → ((W.alloc (.cells #[.int .i64 c, .iface T u] 62)).alloc (.cells #[.int .i64 c] 38)).cell? ((⟨W.heap.size + 1, 0, none⟩ : Addr).add j) = some x := by
          have := cell_one_new (W.alloc (.cells #[.int .i64 c, .iface T u] 62)) (.int .i64 c) 38
          rw [World.size_alloc] at this
          exact this
        have Hcn := Lib.hid hcn; clear hcn
        have hal : Below W.heap.size W (W.alloc (.cells #[.int .i64 c, .iface T u] 62)) := (Below.refl _ W).alloc (Nat.le_refl _) _
        gi_wp2_with (gi_at_builtin; refine wpListIn_append_own _ rfl _ _ 30 rfl w.heap.size 38 i0 (.int .i64 0) 1 8 Tryd.underlying30 hi hz1 hz2 hz3 rfl (by decide) _ _ _ rfl ((HI.out.row.own.alloc _).alloc _) ⟨W.heap.size + 1, 0, none⟩ 1 1 [.int .i64 c] rfl rfl Hcn.out (by simp [Value.oneCell']) (by unfold maxLen; omega) (by omega) (by simp; omega) ?_; intro v' w1 hown' hgrow _; obtain ⟨g', cap', rfl⟩ := ownsRow_succ hown'; obtain ⟨hb1, hk1, hn1⟩ := codes_next HI.out hal Hpre.out Hs.out hown' hgrow; have hc1 := hb1.cell; have hf1 := hb1.frozen; clear hb1 hown' hgrow)
        exact ⟨hk1, hn1⟩
  case done =>
    rintro D W hD ⟨cs, v, hc⟩ hK
    have hcs : codesP t = cs := by have := hc.told [] (by simp [chain]); simpa [codesP] using this
    have hcell := hc.box.cell
    have HI := Lib.hid hc; clear hc
    have Hcs := Lib.hid hcs; clear hcs
    gi_wp2
    refine ⟨by simp, .inl ⟨_, _, rfl, run_takeDeferred hK, ?_⟩⟩
    refine ⟨_, results_tmp rfl _ _ _, v, rfl, ?_, HI.out.below.trans (belowK_b (w := W0) hB0 W D _ _ hD hK rfl rfl)⟩
    rw [Hcs.out]
    exact ⟨ownsRow_putObj HI.out.row.own _ hK rfl, HI.out.row.nil⟩
  case stop =>
    rintro D pre W _ _ h _
    exact h.elim

end Go.Proofs.YtplkeakkjkkfmaaDoor
