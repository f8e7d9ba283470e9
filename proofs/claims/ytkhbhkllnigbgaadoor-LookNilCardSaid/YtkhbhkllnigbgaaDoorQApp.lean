/- Fields and types that are appended one by one; numbers that are taken one by one. -/
import Derived.Test.YtkhbhkllnigbgaaDoorQAll
import Derived.Laws.OwnMore
namespace Go.Proofs.YtkhbhkllnigbgaaDoor
open Go.ChangeShapes Go.WideShapes Go.ChangeAt Go.RowKit
/-- No block of what was there has changed, but q. -/
structure But (q : Nat) (w w' : World) : Prop where
  os : w'.os = w.os
  tape : w'.tape = w.tape
  output : w'.output = w.output
  size : w.heap.size ≤ w'.heap.size
  block : ∀ k, k < w.heap.size → k ≠ q → w'.heap[k]? = w.heap[k]?
theorem But.refl (q : Nat) (w : World) : But q w w := ⟨rfl, rfl, rfl, Nat.le_refl _, fun _ _ _ => rfl⟩
theorem But.trans {q : Nat} {a b d : World} (h : But q a b) (k : But q b d) : But q a d :=
  ⟨k.os.trans h.os, k.tape.trans h.tape, k.output.trans h.output, Nat.le_trans h.size k.size, fun i hi h1 => (k.block i (Nat.lt_of_lt_of_le hi h.size) h1).trans (h.block i hi h1)⟩
theorem But.of_below {q : Nat} {a b : World} (h : Below a.heap.size a b) : But q a b := ⟨h.os, h.tape, h.output, h.size, fun i hi _ => h.block i hi⟩
theorem But.alloc {q : Nat} {a b : World} (h : But q a b) (o : Obj) : But q a (b.alloc o) := h.trans (But.of_below ((Below.refl _ _).alloc (Nat.le_refl _) o))
theorem But.drew {q : Nat} {a b : World} (h : But q a b) : But q a b.drew := h.trans (But.of_below (Below.refl _ _).drew)
theorem But.drewN {q : Nat} {a b : World} (h : But q a b) (m : Nat) : But q a (b.drewN m) := h.trans (But.of_below (below_drewN (Below.refl _ _) m))
theorem But.set {q : Nat} {a b : World} (h : But q a b) {p : Addr} (hp : p.block = q ∨ a.heap.size ≤ p.block) (u : Value) : But q a (b.setCell p u) := by
  have h1 := (Below.refl 0 b).setCell (p := p) (Nat.zero_le _) u
  refine ⟨h1.os.trans h.os, h1.tape.trans h.tape, h1.output.trans h.output, Nat.le_trans h.size h1.size, fun i hi e1 => ?_⟩
  rw [Below.heap_setCell b p u i (by rcases hp with e | e <;> omega)]
  exact h.block i hi e1
theorem But.below {q B : Nat} {a b : World} (h : But q a b) (hB : B ≤ a.heap.size) (h1 : B ≤ q) : Below B a b := ⟨h.os, h.tape, h.output, h.size, fun i hi => h.block i (by omega) (by omega)⟩
theorem But.grown {q : Nat} {a b d : World} {r : Option Nat} (h : But q a b) (hg : b.grownBy d r) (hr : ∀ k, r = some k → a.heap.size ≤ k) : But q a d :=
  ⟨hg.os.trans h.os, hg.tape.trans h.tape, hg.output.trans h.output, Nat.le_trans h.size hg.size, fun i hi h1 => (hg.block i (Nat.lt_of_lt_of_le hi h.size) (fun e => by have := hr i e.symm; omega)).trans (h.block i hi h1)⟩
theorem own_of {w w' : World} {base : Nat} {e : TypeId} {size : Nat} {v : Value} {n : Nat} {xs : List Value} (h : w.ownsRow base e size v n xs) (hb : ∀ k, v.ownBlock = some k → w'.heap[k]? = w.heap[k]?) : w'.ownsRow base e size v n xs := by
  refine ⟨h.1, ?_⟩
  rcases h.2 with hn | ⟨g, cap, cur, rfl, h1, h2, h3⟩
  · exact .inl hn
  · exact .inr ⟨g, cap, cur, rfl, h1, (hb g rfl).trans h2, h3⟩

/-- The cells of fields. -/
def cellsF (k t : Nat → Int) : Nat → List Value
  | 0 => []
  | m + 1 => cellsF k t m ++ [.int .i64 (k m), .int .i64 (t m)]
theorem cellsF_length (k t : Nat → Int) (m : Nat) : (cellsF k t m).length = m * 2 := by
  induction m with
  | zero => rfl
  | succ m ih => rw [cellsF, List.length_append, ih]; simp; omega
theorem cellsF_get (k t : Nat → Int) (m j : Nat) (h : j < m) : (cellsF k t m)[j * 2]? = some (.int .i64 (k j)) ∧ (cellsF k t m)[j * 2 + 1]? = some (.int .i64 (t j)) := by
  induction m with
  | zero => omega
  | succ m ih =>
    have hl := cellsF_length k t m
    by_cases e : j = m
    · subst e
      rw [cellsF, List.getElem?_append_right (by omega), List.getElem?_append_right (by omega), hl]
      simp
    · obtain ⟨h1, h2⟩ := ih (by omega)
      rw [cellsF, List.getElem?_append_left (by omega), List.getElem?_append_left (by omega)]
      exact ⟨h1, h2⟩
theorem cellsF_congr {k t k' t' : Nat → Int} {m : Nat} (h : ∀ j, j < m → k j = k' j ∧ t j = t' j) : cellsF k t m = cellsF k' t' m := by
  induction m with
  | zero => rfl
  | succ m ih => rw [cellsF, cellsF, ih fun j hj => h j (by omega), (h m (by omega)).1, (h m (by omega)).2]
/-- A row of fields lies in an old block, or in one of fields. -/
def Tag (w W : World) (A : Option Addr) : Prop := ∀ a, A = some a → a.block < w.heap.size ∨ ∃ cur fz, W.heap[a.block]? = some (.cells cur 95 fz)
/-- v is a row of the first m fields, made since w0. -/
def FldA (w0 : World) (k t : Nat → Int) (m : Nat) (v : Value) (W : World) : Prop := W.ownsRow w0.heap.size 95 2 v m (cellsF k t m)
theorem FldA.but {w0 : World} {k t : Nat → Int} {m : Nat} {v : Value} {W W' : World} (h : FldA w0 k t m v W) {q : Nat} (hb : But q W W') (hq : q < w0.heap.size) : FldA w0 k t m v W' :=
  own_of h fun g hg => hb.block g (h.lt g hg).2 (by have := (h.lt g hg).1; omega)
theorem FldA.row {w0 : World} {k t : Nat → Int} {m : Nat} {v : Value} {W : World} (h : FldA w0 k t m v W) (w : World) : ∃ A c, v = .slice A m c ∧ FRow W A m k t ∧ Tag w W A := by
  rcases h.2 with ⟨rfl, rfl⟩ | ⟨g, cap, cur, rfl, h1, h2, h3⟩
  · exact ⟨none, 0, rfl, ⟨fun h => absurd h (by omega)⟩, fun a e => by cases e⟩
  · refine ⟨some ⟨g, 0, none⟩, cap, rfl, ⟨fun _ => ⟨g, 0, rfl, (Array.getElem?_eq_some_iff.1 h2).1, fun j hj => ?_⟩⟩, fun a e => ?_⟩
    · obtain ⟨e1, e2⟩ := cellsF_get k t m j hj
      have a1 := World.ownsRow.cells h (g := g) rfl (j * 2) _ e1
      have a2 := World.ownsRow.cells h (g := g) rfl (j * 2 + 1) _ e2
      rw [addr_add] at a1 a2
      rw [Nat.zero_add] at a1 a2
      rw [Nat.zero_add]
      exact ⟨a1, a2⟩
    · cases e
      exact .inr ⟨cur, _, h2⟩
theorem FldA.congr {w0 : World} {k t k' t' : Nat → Int} {m : Nat} {v : Value} {W : World} (h : FldA w0 k t m v W) (hc : ∀ j, j < m → k j = k' j ∧ t j = t' j) : FldA w0 k' t' m v W := by
  unfold FldA at h ⊢
  rw [← cellsF_congr hc]
  exact h
theorem info_field : (Tryd.prog.info? 95).map (fun i => (i.zero, i.size, i.bytes)) = some (some (.agg #[.int .i64 0, .int .i64 0]), 2, 16) := by kernel_rfl
theorem info_fs : (Tryd.prog.info? 96).map (fun i => (i.zero, i.size, i.bytes)) = some (some (.slice none 0 0), 1, 24) := by kernel_rfl
theorem cell_two_new (w : World) (x y : Value) (t : TypeId) : ∀ j u, [x, y][j]? = some u → (w.alloc (.cells #[x, y] t)).cell? ((⟨w.heap.size, 0, none⟩ : Addr).add j) = some u := by
  intro j u h
  rw [addr_add, Nat.zero_add]
  have r := World.rowIs_alloc w #[x, y] t (fun j => if j = 0 then x else y) (by intro j hj; match j, hj with | 0, _ => rfl | 1, _ => rfl)
  match j, h with
  | 0, h => rw [r.cell (i := 0) (by simp)]; exact h
  | 1, h => rw [r.cell (i := 1) (by simp)]; exact h

theorem cell_two_at (w : World) (x y : Value) (t : TypeId) (b : Nat) (hb : b = w.heap.size) : ∀ j u, [x, y][j]? = some u → (w.alloc (.cells #[x, y] t)).cell? ((⟨b, 0, none⟩ : Addr).add j) = some u := by subst hb; exact cell_two_new w x y t
theorem cell_one_at (w : World) (x : Value) (t : TypeId) (b : Nat) (hb : b = w.heap.size) : ∀ j u, [x][j]? = some u → (w.alloc (.cells #[x] t)).cell? ((⟨b, 0, none⟩ : Addr).add j) = some u := by subst hb; exact cell_one_new w x t

/-- The cells of types. -/
def cellsT (s : Sch) (ad : Nat → Option Addr) (cp : Nat → Nat) (m : Nat) : List Value := (List.range m).map fun i => Value.slice (ad i) (s.len i) (cp i)
theorem cellsT_succ (s : Sch) (ad : Nat → Option Addr) (cp : Nat → Nat) (m : Nat) : cellsT s ad cp (m + 1) = cellsT s ad cp m ++ [.slice (ad m) (s.len m) (cp m)] := by simp [cellsT, List.range_succ]
/-- v is a row of the first m types, made since w; each of them lies in old blocks, or in ones of fields. -/
structure TypA (w : World) (s : Sch) (m : Nat) (ad : Nat → Option Addr) (cp : Nat → Nat) (v : Value) (W : World) : Prop where
  own : W.ownsRow w.heap.size 96 1 v m (cellsT s ad cp m)
  rows : ∀ i, i < m → FRow W (ad i) (s.len i) (s.k i) (s.t i) ∧ (0 < s.len i → Tag w W (ad i))
  below : Below w.heap.size w W
theorem FRow.of_block {W W' : World} {A : Option Addr} {L : Nat} {k t : Nat → Int} (h : FRow W A L k t) (hb : 0 < L → ∀ a, A = some a → a.block < W.heap.size → W'.heap[a.block]? = W.heap[a.block]?) (hs : W.heap.size ≤ W'.heap.size) : FRow W' A L k t :=
  ⟨fun h0 => by
    obtain ⟨b, off, hA, hlt, hc⟩ := h.some_ h0
    have e := hb h0 _ hA hlt
    exact ⟨b, off, hA, by omega, fun j hj => ⟨(World.cell?_of_block (w := W) (a := ⟨b, off + j * 2, none⟩) e).trans (hc j hj).1, (World.cell?_of_block (w := W) (a := ⟨b, off + j * 2 + 1, none⟩) e).trans (hc j hj).2⟩⟩⟩
theorem Tag.of_block {w W W' : World} {A : Option Addr} (h : Tag w W A) (hb : ∀ a, A = some a → a.block < w.heap.size ∨ W'.heap[a.block]? = W.heap[a.block]?) : Tag w W' A := fun a e => by
  rcases h a e with h | ⟨cur, fz, h⟩
  · exact .inl h
  · rcases hb a e with g | g
    · exact .inl g
    · exact .inr ⟨cur, fz, g.trans h⟩
/-- All stays, where no block has changed but ones of another kind. -/
theorem TypA.keep {w : World} {s : Sch} {m : Nat} {ad : Nat → Option Addr} {cp : Nat → Nat} {v : Value} {W W' : World} (h : TypA w s m ad cp v W) {q : Nat} (hb : But q W W') (hq : w.heap.size ≤ q) (hk : ∀ cur fz, W.heap[q]? ≠ some (.cells cur 95 fz)) (hk2 : ∀ cur fz, W.heap[q]? ≠ some (.cells cur 96 fz)) : TypA w s m ad cp v W' := by
  refine ⟨own_of h.own fun g hg => hb.block g (h.own.lt g hg).2 ?_, fun i hi => ?_, Below.trans h.below (hb.below h.below.size hq)⟩
  · intro e
    subst e
    rcases h.own.2 with ⟨rfl, _⟩ | ⟨g', cap, cur, rfl, _, h2, _⟩
    · cases hg
    · cases hg
      exact hk2 _ _ h2
  · obtain ⟨h1, h2⟩ := h.rows i hi
    have hne : 0 < s.len i → ∀ a, ad i = some a → a.block ≠ q := fun h0 a e e2 => by
      rcases h2 h0 a e with g | ⟨cur, fz, g⟩
      · omega
      · rw [e2] at g; exact hk _ _ g
    refine ⟨h1.of_block (fun h0 a e hl => hb.block _ hl (hne h0 a e)) hb.size, fun h0 => (h2 h0).of_block fun a e => ?_⟩
    by_cases hl : a.block < W.heap.size
    · exact .inr (hb.block _ hl (hne h0 a e))
    · rcases h2 h0 a e with g | ⟨cur, fz, g⟩
      · exact .inl g
      · exact absurd (Array.getElem?_eq_some_iff.1 g).1 hl
theorem TypA.fresh {w : World} {s : Sch} {m : Nat} {ad : Nat → Option Addr} {cp : Nat → Nat} {v : Value} {W W' : World} (h : TypA w s m ad cp v W) (hb : Below W.heap.size W W') : TypA w s m ad cp v W' :=
  h.keep (q := W.heap.size) (But.of_below hb) h.below.size (fun _ _ e => absurd (Array.getElem?_eq_some_iff.1 e).1 (by omega)) (fun _ _ e => absurd (Array.getElem?_eq_some_iff.1 e).1 (by omega))
/-- One type more. -/
def Sch.put (s : Sch) (m L : Nat) (k t : Nat → Int) : Sch := ⟨s.n, fun i => if i = m then L else s.len i, fun i => if i = m then k else s.k i, fun i => if i = m then t else s.t i⟩
def adPut {α : Type} (ad : Nat → α) (m : Nat) (A : α) (i : Nat) : α := if i = m then A else ad i
theorem adPut_at {α : Type} (ad : Nat → α) (m : Nat) (A : α) : adPut ad m A m = A := by simp [adPut]
theorem adPut_ne {α : Type} (ad : Nat → α) {m i : Nat} (A : α) (h : i < m) : adPut ad m A i = ad i := by simp [adPut, Nat.ne_of_lt h]
theorem cellsT_put (s : Sch) (ad : Nat → Option Addr) (cp : Nat → Nat) (m L c : Nat) (k t : Nat → Int) (A : Option Addr) : cellsT (s.put m L k t) (adPut ad m A) (adPut cp m c) (m + 1) = cellsT s ad cp m ++ [.slice A L c] := by
  rw [cellsT_succ, adPut_at, adPut_at]
  congr 1
  · unfold cellsT
    apply List.map_congr_left
    intro i hi
    have hi' : i < m := List.mem_range.1 hi
    rw [adPut_ne _ _ hi', adPut_ne _ _ hi', show (s.put m L k t).len i = s.len i from if_neg (by omega)]
  · rw [show (s.put m L k t).len m = L from if_pos rfl]
theorem TypA.next {w : World} {s : Sch} {m : Nat} {ad : Nat → Option Addr} {cp : Nat → Nat} {v v' : Value} {W W1 w1 : World} (h : TypA w s m ad cp v W) {A : Option Addr} {L c : Nat} {k t : Nat → Int} (hf : FRow W A L k t) (hT : 0 < L → Tag w W A)
    (hW : W1 = W.alloc (.cells #[.slice A L c] 96)) (ho : w1.ownsRow w.heap.size 96 1 v' (m + 1) (cellsT s ad cp m ++ [.slice A L c])) (hg : W1.grownBy w1 v.ownBlock) : TypA w (s.put m L k t) (m + 1) (adPut ad m A) (adPut cp m c) v' w1 := by
  subst hW
  have hzz := h.below.size
  have hne : ∀ a, Tag w W (some a) → some a.block ≠ v.ownBlock := fun a hT e => by
    rcases h.own.2 with ⟨rfl, _⟩ | ⟨g', cap, cur, rfl, h1, h2, _⟩
    · cases e
    · have e' : a.block = g' := Option.some.inj e
      rcases hT a rfl with g | ⟨cur', fz, g⟩
      · omega
      · rw [e', h2] at g
        injection g with g
        injection g with g1 g2 g3
        exact absurd g2 (by decide)
  have hblk : ∀ a, Tag w W (some a) → a.block < W.heap.size → w1.heap[a.block]? = W.heap[a.block]? := fun a hT hl =>
    (hg.block _ (by simp; omega) (hne a hT)).trans (((Below.refl W.heap.size W).alloc (Nat.le_refl _) (.cells #[.slice A L c] 96)).block _ hl)
  have hsz : W.heap.size ≤ w1.heap.size := by have := hg.size; simp at this; omega
  have hlt : ∀ a, Tag w W (some a) → a.block < w.heap.size ∨ a.block < W.heap.size := fun a hT => by
    rcases hT a rfl with g | ⟨cur, fz, g⟩
    · exact .inl g
    · exact .inr (Array.getElem?_eq_some_iff.1 g).1
  refine ⟨by rw [cellsT_put]; exact ho, fun i hi => ?_, ?_⟩
  · by_cases e : i = m
    · subst e
      rw [adPut_at, show (s.put i L k t).len i = L from if_pos rfl, show (s.put i L k t).k i = k from if_pos rfl, show (s.put i L k t).t i = t from if_pos rfl]
      refine ⟨hf.of_block (fun h0 a e hl => hblk a (e ▸ hT h0) hl) hsz, fun h0 => (hT h0).of_block fun a e => ?_⟩
      rcases hlt a (e ▸ hT h0) with g | g
      · exact .inl g
      · exact .inr (hblk a (e ▸ hT h0) g)
    · have hi' : i < m := by omega
      obtain ⟨h1, h2⟩ := h.rows i hi'
      rw [adPut_ne _ _ hi', show (s.put m L k t).len i = s.len i from if_neg e, show (s.put m L k t).k i = s.k i from if_neg e, show (s.put m L k t).t i = s.t i from if_neg e]
      refine ⟨h1.of_block (fun h0 a e hl => hblk a (e ▸ h2 h0) hl) hsz, fun h0 => (h2 h0).of_block fun a e => ?_⟩
      rcases hlt a (e ▸ h2 h0) with g | g
      · exact .inl g
      · exact .inr (hblk a (e ▸ h2 h0) g)
  · refine (h.below.alloc hzz _).trans ⟨hg.os, hg.tape, hg.output, hg.size, fun k hk => hg.block k ?_ ?_⟩
    · simp; omega
    · intro e
      have := (h.own.lt k e.symm).1
      omega
theorem cellsT_congr {s s' : Sch} (ad : Nat → Option Addr) (cp : Nat → Nat) {m : Nat} (h : ∀ i, i < m → s.len i = s'.len i) : cellsT s ad cp m = cellsT s' ad cp m := by
  unfold cellsT
  apply List.map_congr_left
  intro i hi
  rw [h i (List.mem_range.1 hi)]
theorem TypA.congr {w : World} {s s' : Sch} {m : Nat} {ad : Nat → Option Addr} {cp : Nat → Nat} {v : Value} {W : World} (h : TypA w s m ad cp v W) (hc : ∀ i, i < m → s.len i = s'.len i ∧ s.k i = s'.k i ∧ s.t i = s'.t i) : TypA w s' m ad cp v W := by
  refine ⟨by rw [← cellsT_congr ad cp fun i hi => (hc i hi).1]; exact h.own, fun i hi => ?_, h.below⟩
  obtain ⟨c1, c2, c3⟩ := hc i hi
  rw [← c1, ← c2, ← c3]
  exact h.rows i hi
theorem put_same {s s' : Sch} {m L : Nat} {k t : Nat → Int} (h : ∀ i, i < m → s.len i = s'.len i ∧ s.k i = s'.k i ∧ s.t i = s'.t i) (h1 : L = s'.len m) (h2 : k = s'.k m) (h3 : t = s'.t m) : ∀ i, i < m + 1 → (s.put m L k t).len i = s'.len i ∧ (s.put m L k t).k i = s'.k i ∧ (s.put m L k t).t i = s'.t i := fun i hi => by
  by_cases e : i = m
  · subst e
    exact ⟨(if_pos rfl).trans h1, (if_pos rfl).trans h2, (if_pos rfl).trans h3⟩
  · obtain ⟨g1, g2, g3⟩ := h i (by omega)
    exact ⟨(if_neg e).trans g1, (if_neg e).trans g2, (if_neg e).trans g3⟩
theorem TypA.sat {w : World} {s : Sch} {ad : Nat → Option Addr} {cp : Nat → Nat} {v : Value} {W : World} (h : TypA w s s.n ad cp v W) : ∃ A c, v = .slice A s.n c ∧ SAt W A s := by
  rcases h.own.2 with ⟨rfl, h0⟩ | ⟨g, cap, cur, rfl, h1, h2, _⟩
  · exact ⟨none, 0, by rw [h0], ⟨fun h => absurd h (by omega)⟩⟩
  · refine ⟨some ⟨g, 0, none⟩, cap, rfl, ⟨fun _ => ⟨g, 0, rfl, (Array.getElem?_eq_some_iff.1 h2).1, fun i hi => ⟨ad i, cp i, ?_, (h.rows i hi).1⟩⟩⟩⟩
    have := h.own.cells (g := g) rfl i (.slice (ad i) (s.len i) (cp i)) (by simp [cellsT, hi])
    rw [addr_add] at this
    exact this
theorem TypA.nil (w W : World) (s : Sch) (ad : Nat → Option Addr) (cp : Nat → Nat) (hb : Below w.heap.size w W) : TypA w s 0 ad cp (.slice none 0 0) W := ⟨World.ownsRow_nil _ _ _ _, fun i hi => by omega, hb⟩

end Go.Proofs.YtkhbhkllnigbgaaDoor
