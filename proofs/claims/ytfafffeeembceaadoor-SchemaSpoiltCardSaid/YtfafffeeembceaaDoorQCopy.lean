/- A schema that was copied, type by type, and may be changed. -/
import Derived.Test.YtfafffeeembceaaDoorQMade
namespace Go.Proofs.YtfafffeeembceaaDoor
open Go.ChangeShapes Go.WideShapes Go.ChangeAt Go.RowKit
theorem own_mono {w : World} {base base' : Nat} {e : TypeId} {size : Nat} {v : Value} {n : Nat} {xs : List Value} (h : w.ownsRow base e size v n xs) (hb : base' ≤ base) : w.ownsRow base' e size v n xs := by
  refine ⟨h.1, ?_⟩
  rcases h.2 with hn | ⟨g, cap, cur, rfl, h1, h2⟩
  · exact .inl hn
  · exact .inr ⟨g, cap, cur, rfl, Nat.le_trans hb h1, h2⟩
def adOf (bl : Nat → Nat) (i : Nat) : Option Addr := some ⟨bl i, 0, none⟩
/-- v is a row of the first m types, each of them a row of its own, all made since w. -/
structure XAt (w : World) (s : Sch) (m : Nat) (bl cp : Nat → Nat) (v : Value) (W : World) : Prop where
  own : W.ownsRow w.heap.size 46 1 v m (cellsT s (adOf bl) cp m)
  rows : ∀ i, i < m → W.ownsRow w.heap.size 48 2 (.slice (some ⟨bl i, 0, none⟩) (s.len i) (cp i)) (s.len i) (cellsF (s.k i) (s.t i) (s.len i))
  ne : ∀ i j, i < m → j < m → i ≠ j → bl i ≠ bl j
  below : Below w.heap.size w W
theorem own_tag {W : World} {base : Nat} {e : TypeId} {size : Nat} {g n cap k : Nat} {xs : List Value} (h : W.ownsRow base e size (.slice (some ⟨g, 0, none⟩) n cap) k xs) : ∃ cur, W.heap[g]? = some (.cells cur e (0, 0)) := by
  rcases h.2 with ⟨h', _⟩ | ⟨g', cap', cur, h', _, hg, _⟩
  · cases h'
  · cases h'
    exact ⟨cur, hg⟩
theorem XAt.row_ne {w : World} {s : Sch} {m : Nat} {bl cp : Nat → Nat} {v : Value} {W : World} (h : XAt w s m bl cp v W) {i : Nat} (hi : i < m) : some (bl i) ≠ v.ownBlock := fun e => by
  obtain ⟨cur, hc⟩ := own_tag (h.rows i hi)
  rcases h.own.2 with ⟨rfl, _⟩ | ⟨g', cap', cur', rfl, _, hg, _⟩
  · cases e
  · have e' : bl i = g' := Option.some.inj e
    rw [← e', hc] at hg
    injection hg with hg
    injection hg with h1 h2 h3
    exact absurd h2 (by decide)
theorem XAt.nil (w W : World) (s : Sch) (bl cp : Nat → Nat) (hb : Below w.heap.size w W) : XAt w s 0 bl cp (.slice none 0 0) W := ⟨World.ownsRow_nil _ _ _ _, fun i hi => by omega, fun i j hi => by omega, hb⟩
theorem XAt.fresh {w : World} {s : Sch} {m : Nat} {bl cp : Nat → Nat} {v : Value} {W W' : World} (h : XAt w s m bl cp v W) (hb : Below W.heap.size W W') : XAt w s m bl cp v W' :=
  ⟨own_of h.own fun g hg => hb.block g (h.own.lt g hg).2, fun i hi => own_of (h.rows i hi) fun g hg => hb.block g ((h.rows i hi).lt g hg).2, h.ne, Below.step h.below hb h.below.size⟩
/-- One type more. -/
theorem XAt.next {w : World} {s : Sch} {m : Nat} {bl cp : Nat → Nat} {v v' : Value} {W W2 w1 : World} (h : XAt w s m bl cp v W) (hb : Below W.heap.size W W2) {b c : Nat} (hbb : W.heap.size ≤ b) (hr : W2.ownsRow w.heap.size 48 2 (.slice (some ⟨b, 0, none⟩) (s.len m) c) (s.len m) (cellsF (s.k m) (s.t m) (s.len m)))
    (ho : w1.ownsRow w.heap.size 46 1 v' (m + 1) (cellsT s (adOf bl) cp m ++ [.slice (some ⟨b, 0, none⟩) (s.len m) c])) (hg : (W2.alloc (.cells #[.slice (some ⟨b, 0, none⟩) (s.len m) c] 46)).grownBy w1 v.ownBlock) : XAt w s (m + 1) (adPut bl m b) (adPut cp m c) v' w1 := by
  have h2 := h.fresh hb
  have hal : ∀ k, k < W2.heap.size → (W2.alloc (.cells #[.slice (some ⟨b, 0, none⟩) (s.len m) c] 46)).heap[k]? = W2.heap[k]? := fun k hk => ((Below.refl W2.heap.size W2).alloc (Nat.le_refl _) _).block k hk
  have hbn : some b ≠ v.ownBlock := fun e => by
    obtain ⟨cur, hc⟩ := own_tag hr
    rcases h2.own.2 with ⟨rfl, _⟩ | ⟨g', cap', cur', rfl, _, hgg, _⟩
    · cases e
    · have e' : b = g' := Option.some.inj e
      rw [← e', hc] at hgg
      injection hgg with hgg
      injection hgg with h1 h2 h3
      exact absurd h2 (by decide)
  have kept : ∀ k, k < W2.heap.size → some k ≠ v.ownBlock → w1.heap[k]? = W2.heap[k]? := fun k hk hn => (hg.block k (by simp; omega) hn).trans (hal k hk)
  refine ⟨?_, fun i hi => ?_, fun i j hi hj hij => ?_, ?_⟩
  · rw [cellsT_succ]
    have e1 : adOf (adPut bl m b) m = some ⟨b, 0, none⟩ := by unfold adOf; rw [adPut_at]
    rw [e1, adPut_at]
    have e2 : cellsT s (adOf (adPut bl m b)) (adPut cp m c) m = cellsT s (adOf bl) cp m := by
      unfold cellsT
      apply List.map_congr_left
      intro i hi
      have hi' : i < m := List.mem_range.1 hi
      unfold adOf
      rw [adPut_ne _ _ hi', adPut_ne _ _ hi']
    rw [e2]
    exact ho
  · by_cases e : i = m
    · subst e
      rw [adPut_at, adPut_at]
      exact own_of hr fun g hg' => kept g (hr.lt g hg').2 (by cases hg'; exact hbn)
    · have hi' : i < m := by omega
      rw [adPut_ne _ _ hi', adPut_ne _ _ hi']
      exact own_of (h2.rows i hi') fun g hg' => kept g ((h2.rows i hi').lt g hg').2 (by cases hg'; exact h2.row_ne hi')
  · by_cases e : i = m
    · subst e
      rw [adPut_at, adPut_ne _ _ (show j < i by omega)]
      have := ((h.rows j (by omega)).lt (bl j) rfl).2
      omega
    · by_cases e2 : j = m
      · subst e2
        rw [adPut_at, adPut_ne _ _ (show i < j by omega)]
        have := ((h.rows i (by omega)).lt (bl i) rfl).2
        omega
      · rw [adPut_ne _ _ (show i < m by omega), adPut_ne _ _ (show j < m by omega)]
        exact h.ne i j (by omega) (by omega) hij
  · have hz := h2.below.size
    refine (h2.below.alloc hz _).trans ⟨hg.os, hg.tape, hg.output, hg.size, fun k hk => hg.block k ?_ ?_⟩
    · simp; omega
    · intro e
      have := (h2.own.lt k e.symm).1
      omega
/-- As types that were appended. -/
theorem XAt.typ {w : World} {s : Sch} {m : Nat} {bl cp : Nat → Nat} {v : Value} {W : World} (h : XAt w s m bl cp v W) : TypA w s m (adOf bl) cp v W :=
  ⟨h.own, fun i hi => by
    obtain ⟨A, c, e, hf, ht⟩ := FldA.row (w0 := w) (h.rows i hi) w
    cases e
    exact ⟨hf, fun _ => ht⟩, h.below⟩

theorem cellsF_setK (k t : Nat → Int) (m i : Nat) (z : Int) : (cellsF k t m).set (i * 2) (.int .i64 z) = cellsF (adPut k i z) t m := by
  induction m with
  | zero => rfl
  | succ m ih =>
    have hl := cellsF_length k t m
    rw [cellsF, cellsF]
    by_cases h : i < m
    · rw [List.set_append_left _ _ (by omega), ih, show adPut k i z m = k m from if_neg (by omega)]
    · have e1 : cellsF (adPut k i z) t m = cellsF k t m := cellsF_congr fun j hj => ⟨if_neg (by omega), rfl⟩
      rw [e1, List.set_append_right _ _ (by omega), hl]
      by_cases e : i = m
      · subst e; rw [Nat.sub_self, adPut_at]; rfl
      · rw [show adPut k i z m = k m from if_neg (by omega), show i * 2 - m * 2 = (i - m - 1) * 2 + 1 + 1 by omega]; rfl
theorem cellsF_setT (k t : Nat → Int) (m i : Nat) (z : Int) : (cellsF k t m).set (i * 2 + 1) (.int .i64 z) = cellsF k (adPut t i z) m := by
  induction m with
  | zero => rfl
  | succ m ih =>
    have hl := cellsF_length k t m
    rw [cellsF, cellsF]
    by_cases h : i < m
    · rw [List.set_append_left _ _ (by omega), ih, show adPut t i z m = t m from if_neg (by omega)]
    · have e1 : cellsF k (adPut t i z) m = cellsF k t m := cellsF_congr fun j hj => ⟨rfl, if_neg (by omega)⟩
      rw [e1, List.set_append_right _ _ (by omega), hl]
      by_cases e : i = m
      · subst e; rw [show i * 2 + 1 - i * 2 = 1 by omega, adPut_at]; rfl
      · rw [show adPut t i z m = t m from if_neg (by omega), show i * 2 + 1 - m * 2 = (i - m - 1) * 2 + 1 + 1 + 1 by omega]; rfl
/-- A type's row is changed by a store. -/
theorem XAt.store {w : World} {s : Sch} {m : Nat} {bl cp : Nat → Nat} {v : Value} {W : World} (h : XAt w s m bl cp v W) {t : Nat} (ht : t < m) (j : Nat) (u : Value) {k' t' : Nat → Int} (hset : (cellsF (s.k t) (s.t t) (s.len t)).set j u = cellsF k' t' (s.len t)) : XAt w (s.put t (s.len t) k' t') m bl cp v (W.setCell ⟨bl t, j, none⟩ u) := by
  have hs := (World.ownsRow.stored (h.rows t ht) j u).1
  rw [hset] at hs
  have hother : ∀ k, k ≠ bl t → (W.setCell ⟨bl t, j, none⟩ u).heap[k]? = W.heap[k]? := fun k hk => Below.heap_setCell W ⟨bl t, j, none⟩ u k hk
  have hlen : ∀ i, (s.put t (s.len t) k' t').len i = s.len i := fun i => by
    by_cases e : i = t
    · subst e; exact if_pos rfl
    · exact if_neg e
  refine ⟨?_, fun i hi => ?_, h.ne, h.below.setCell (p := ⟨bl t, j, none⟩) ((h.rows t ht).lt (bl t) rfl).1 u⟩
  · rw [cellsT_congr (s' := s) (adOf bl) cp fun i _ => hlen i]
    exact own_of h.own fun g hg => hother g fun e => h.row_ne ht (by rw [← e]; exact hg.symm)
  · rw [hlen]
    by_cases e : i = t
    · subst e
      rw [show (s.put i (s.len i) k' t').k i = k' from if_pos rfl, show (s.put i (s.len i) k' t').t i = t' from if_pos rfl]
      exact hs
    · rw [show (s.put t (s.len t) k' t').k i = s.k i from if_neg e, show (s.put t (s.len t) k' t').t i = s.t i from if_neg e]
      exact own_of (h.rows i hi) fun g hg => hother g (by cases hg; exact h.ne i t hi ht e)
/-- A type's first cell. -/
theorem XAt.cells {w : World} {s : Sch} {m : Nat} {bl cp : Nat → Nat} {v : Value} {W : World} (h : XAt w s m bl cp v W) {t i : Nat} (ht : t < m) (hi : i < s.len t) : W.cell? ⟨bl t, i * 2, none⟩ = some (.int .i64 (s.k t i)) ∧ W.cell? ⟨bl t, i * 2 + 1, none⟩ = some (.int .i64 (s.t t i)) := by
  obtain ⟨h1, h2⟩ := cellsF_get (s.k t) (s.t t) (s.len t) i hi
  exact ⟨by rw [World.ownsRow.cellAt (h.rows t ht) (i * 2) (by omega)]; exact h1, by rw [World.ownsRow.cellAt (h.rows t ht) (i * 2 + 1) (by omega)]; exact h2⟩
theorem XAt.head {w : World} {s : Sch} {m : Nat} {bl cp : Nat → Nat} {g cc : Nat} {W : World} (h : XAt w s m bl cp (.slice (some ⟨g, 0, none⟩) m cc) W) {t : Nat} (ht : t < m) : W.cell? ⟨g, t, none⟩ = some (.slice (some ⟨bl t, 0, none⟩) (s.len t) (cp t)) := by
  rw [World.ownsRow.cellAt h.own t (by omega)]
  simp [cellsT, ht, adOf]
theorem XAt.sat {w : World} {s : Sch} {m : Nat} {bl cp : Nat → Nat} {g cc : Nat} {W : World} (h : XAt w s m bl cp (.slice (some ⟨g, 0, none⟩) m cc) W) (hn : s.n = m) : SAt W (some ⟨g, 0, none⟩) s := by
  subst hn
  obtain ⟨A, c, e, hs⟩ := h.typ.sat
  cases e
  exact hs
/-- A type becomes nothing. -/
theorem XAt.toNone {w : World} {s : Sch} {m : Nat} {bl cp : Nat → Nat} {g cc : Nat} {W : World} (h : XAt w s m bl cp (.slice (some ⟨g, 0, none⟩) m cc) W) (hn : s.n = m) {t : Nat} (ht : t < m) : SAt (W.setCell ⟨g, t, none⟩ (.slice none 0 0)) (some ⟨g, 0, none⟩) (s.put t 0 (s.k t) (s.t t)) := by
  have hs := h.sat hn
  have hst := (World.ownsRow.stored h.own t (.slice none 0 0)).1
  refine ⟨fun _ => ⟨g, 0, rfl, (hst.lt g rfl).2, fun i hi => ?_⟩⟩
  have hi' : i < m := by rw [← hn]; exact hi
  have hc := World.ownsRow.cellAt hst i (by omega)
  rw [Nat.zero_add, hc]
  by_cases e : i = t
  · subst e
    refine ⟨Option.none, 0, ?_, ?_⟩
    · rw [show (s.put i 0 (s.k i) (s.t i)).len i = 0 from if_pos rfl]
      simp [cellsT, hi']
    · rw [show (s.put i 0 (s.k i) (s.t i)).len i = 0 from if_pos rfl]
      exact ⟨fun h => absurd h (by omega)⟩
  · refine ⟨some ⟨bl i, 0, Option.none⟩, cp i, ?_, ?_⟩
    · rw [show (s.put t 0 (s.k t) (s.t t)).len i = s.len i from if_neg e, List.getElem?_set_ne (fun h => e h.symm)]
      simp [cellsT, hi', adOf]
    · rw [show (s.put t 0 (s.k t) (s.t t)).len i = s.len i from if_neg e, show (s.put t 0 (s.k t) (s.t t)).k i = s.k i from if_neg e, show (s.put t 0 (s.k t) (s.t t)).t i = s.t i from if_neg e]
      obtain ⟨A, c, e2, hf, _⟩ := FldA.row (w0 := w) (h.rows i hi') w
      cases e2
      have hz := ((Below.refl 0 W).setCell (p := ⟨g, t, Option.none⟩) (Nat.zero_le _) (.slice Option.none 0 0)).size
      exact hf.of_block (fun _ a ea _ => by cases ea; exact Below.heap_setCell W ⟨g, t, Option.none⟩ _ (bl i) (fun e3 => h.row_ne hi' (by show some (bl i) = some g; rw [e3]))) hz
theorem below_grown {W w3 : World} {o : Obj} (hg : (W.alloc o).grownBy w3 (some W.heap.size)) : Below W.heap.size W w3 := by
  have hz := hg.size
  simp only [World.size_alloc] at hz
  refine ⟨hg.os, hg.tape, hg.output, by omega, fun k hk => (hg.block k (by simp only [World.size_alloc]; omega) (fun e => ?_)).trans (((Below.refl W.heap.size W).alloc (Nat.le_refl _) _).block k hk)⟩
  have := Option.some.inj e
  omega
theorem cellsF_one (k t : Nat → Int) (m : Nat) : ∀ u ∈ cellsF k t m, u.oneCell' = true := by
  induction m with
  | zero => intro u hu; cases hu
  | succ m ih =>
    intro u hu
    rw [cellsF, List.mem_append] at hu
    rcases hu with h | h
    · exact ih u h
    · simp at h
      rcases h with rfl | rfl <;> simp [Value.oneCell']
theorem frow_cells {W : World} {b off L : Nat} {k t : Nat → Int} (h : ∀ j, j < L → W.cell? ⟨b, off + j * 2, none⟩ = some (.int .i64 (k j)) ∧ W.cell? ⟨b, off + j * 2 + 1, none⟩ = some (.int .i64 (t j))) : ∀ j u, (cellsF k t L)[j]? = some u → W.cell? ((⟨b, off, none⟩ : Addr).add j) = some u := fun j u hu => by
  rw [addr_add]
  have hj : j < L * 2 := by
    have := (List.getElem?_eq_some_iff.1 hu).1
    rw [cellsF_length] at this
    exact this
  obtain ⟨g1, g2⟩ := cellsF_get k t L (j / 2) (by omega)
  obtain ⟨h1, h2⟩ := h (j / 2) (by omega)
  by_cases e : j % 2 = 0
  · have e2 : j = j / 2 * 2 := by omega
    rw [e2] at hu
    rw [g1] at hu
    rw [e2, h1]
    exact hu
  · have e2 : j = j / 2 * 2 + 1 := by omega
    rw [e2] at hu
    rw [g2] at hu
    rw [e2, ← Nat.add_assoc, h2]
    exact hu

end Go.Proofs.YtfafffeeembceaaDoor
