/- A type of a copied schema that grows. -/
import Derived.Test.YtfafffeeembceaaDoorQCopy
namespace Go.Proofs.YtfafffeeembceaaDoor
open Go.ChangeShapes Go.WideShapes Go.ChangeAt Go.RowKit
theorem adPut_other {α : Type} (ad : Nat → α) {m i : Nat} (A : α) (h : i ≠ m) : adPut ad m A i = ad i := if_neg h
theorem cellsT_set (s : Sch) (bl cp : Nat → Nat) (m t L b c : Nat) (k tt : Nat → Int) (ht : t < m) : (cellsT s (adOf bl) cp m).set t (.slice (some ⟨b, 0, none⟩) L c) = cellsT (s.put t L k tt) (adOf (adPut bl t b)) (adPut cp t c) m := by
  apply List.ext_getElem?
  intro j
  by_cases hj : j < m
  · by_cases e : j = t
    · subst e
      have h1 : (s.put j L k tt).len j = L := if_pos rfl
      simp [cellsT, hj, adOf, adPut_at, h1]
    · have h1 : (s.put t L k tt).len j = s.len j := if_neg e
      rw [List.getElem?_set_ne (fun h => e h.symm)]
      simp [cellsT, hj, adOf, adPut_other _ _ e, h1]
  · rw [List.getElem?_eq_none (by simp [cellsT]; omega), List.getElem?_eq_none (by simp [cellsT]; omega)]
/-- A type grows, and its row is laid into the schema. -/
theorem XAt.grow {w : World} {s : Sch} {m : Nat} {bl cp : Nat → Nat} {g cc : Nat} {W w3 : World} (h : XAt w s m bl cp (.slice (some ⟨g, 0, none⟩) m cc) W) {t : Nat} (ht : t < m) {L b c : Nat} {k tt : Nat → Int}
    (ho : w3.ownsRow w.heap.size 48 2 (.slice (some ⟨b, 0, none⟩) L c) L (cellsF k tt L)) (hg : W.grownBy w3 (some (bl t))) (hb : b = bl t ∨ b = W.heap.size) : XAt w (s.put t L k tt) m (adPut bl t b) (adPut cp t c) (.slice (some ⟨g, 0, none⟩) m cc) (w3.setCell ⟨g, t, none⟩ (.slice (some ⟨b, 0, none⟩) L c)) := by
  have hgb : g ≠ bl t := fun e => h.row_ne ht (by show some (bl t) = some g; rw [e])
  have hlt := fun i hi => ((h.rows i hi).lt (bl i) rfl).2
  have hglt := (h.own.lt g rfl).2
  have own3 : w3.ownsRow w.heap.size 46 1 (.slice (some ⟨g, 0, none⟩) m cc) m (cellsT s (adOf bl) cp m) := own_of h.own fun k hk => by
    cases hk
    exact hg.block g hglt (fun e => hgb (Option.some.inj e))
  have hbg : b ≠ g := fun e => by
    obtain ⟨cur, hc⟩ := own_tag ho
    obtain ⟨cur', hc'⟩ := own_tag own3
    rw [e, hc'] at hc
    injection hc with hc
    injection hc with h1 h2 h3
    exact absurd h2 (by decide)
  have hother : ∀ k, k ≠ g → (w3.setCell ⟨g, t, none⟩ (.slice (some ⟨b, 0, none⟩) L c)).heap[k]? = w3.heap[k]? := fun k hk => Below.heap_setCell w3 ⟨g, t, none⟩ _ k hk
  refine ⟨?_, fun i hi => ?_, fun i j hi hj hij => ?_, ?_⟩
  · have hst := (World.ownsRow.stored own3 t (.slice (some ⟨b, 0, none⟩) L c)).1
    rw [cellsT_set s bl cp m t L b c k tt ht] at hst
    exact hst
  · by_cases e : i = t
    · subst e
      rw [adPut_at, adPut_at, show (s.put i L k tt).len i = L from if_pos rfl, show (s.put i L k tt).k i = k from if_pos rfl, show (s.put i L k tt).t i = tt from if_pos rfl]
      exact own_of ho fun q hq => by cases hq; exact hother b hbg
    · rw [adPut_other _ _ e, adPut_other _ _ e, show (s.put t L k tt).len i = s.len i from if_neg e, show (s.put t L k tt).k i = s.k i from if_neg e, show (s.put t L k tt).t i = s.t i from if_neg e]
      refine own_of (h.rows i hi) fun q hq => ?_
      cases hq
      have hig : bl i ≠ g := fun e2 => h.row_ne hi (by show some (bl i) = some g; rw [e2])
      exact (hother _ hig).trans (hg.block _ (hlt i hi) (fun e2 => h.ne i t hi ht e (Option.some.inj e2)))
  · have key : ∀ q, q < m → q ≠ t → bl q ≠ b := fun q hq hqt e => by
      rcases hb with hb | hb
      · exact h.ne q t hq ht hqt (e.trans hb)
      · have := hlt q hq; omega
    by_cases e : i = t
    · subst e
      rw [adPut_at, adPut_other _ _ (fun h => hij h.symm)]
      exact fun e => key j hj (fun h => hij h.symm) e.symm
    · by_cases e2 : j = t
      · subst e2
        rw [adPut_at, adPut_other _ _ e]
        exact key i hi e
      · rw [adPut_other _ _ e, adPut_other _ _ e2]
        exact h.ne i j hi hj hij
  · have h3 : Below w.heap.size w w3 := h.below.trans ⟨hg.os, hg.tape, hg.output, hg.size, fun k hk => hg.block k (by have := h.below.size; omega) (fun e => by have := Option.some.inj e; have := ((h.rows t ht).lt (bl t) rfl).1; omega)⟩
    exact h3.setCell (p := ⟨g, t, none⟩) (h.own.lt g rfl).1 _
theorem num_cells {W : World} {nb : Nat} (h : W.rowIs nb 48 2 (fun j => if j = 0 then .int .i64 1 else .int .i64 0)) : ∀ j u, ([.int .i64 1, .int .i64 0] : List Value)[j]? = some u → W.cell? ((⟨nb, 0, none⟩ : Addr).add j) = some u := fun j u hu => by
  rw [addr_add, Nat.zero_add]
  match j, hu with
  | 0, hu => rw [h.cell (i := 0) (by omega)]; exact hu
  | 1, hu => rw [h.cell (i := 1) (by omega)]; exact hu
theorem num_ne {W : World} {nb g m cc base : Nat} {xs : List Value} {f : Nat → Value} (h : W.rowIs nb 48 2 f) (ho : W.ownsRow base 46 1 (.slice (some ⟨g, 0, none⟩) m cc) m xs) : nb ≠ g := fun e => by
  obtain ⟨cur, hc⟩ := own_tag ho
  obtain ⟨c, hb, _⟩ := h
  rw [e, hc] at hb
  injection hb with hb
  injection hb with h1 h2 h3
  exact absurd h2 (by decide)
theorem cellsF_more (k t : Nat → Int) (q : Nat) (kk tt : Int) : cellsF (adPut k q kk) (adPut t q tt) (q + 1) = cellsF k t q ++ [.int .i64 kk, .int .i64 tt] := by
  rw [cellsF, adPut_at, adPut_at, cellsF_congr (k' := k) (t' := t) fun j hj => ⟨adPut_ne _ _ hj, adPut_ne _ _ hj⟩]

end Go.Proofs.YtfafffeeembceaaDoor
