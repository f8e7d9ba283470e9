/- All words of a message are words. -/
import Derived.Test.YtkhbhkllnigbgaaDoorBMath2
namespace Go.Proofs.YtkhbhkllnigbgaaDoor
open Go.RowKit
def SmL (L : List Nat) : Prop := ∀ x, x ∈ L → x < 18446744073709551616
theorem SmL.append {L M : List Nat} (h : SmL L) (g : SmL M) : SmL (L ++ M) := fun x hx => by
  rcases List.mem_append.1 hx with e | e
  · exact h x e
  · exact g x e
theorem SmL.set {L : List Nat} (h : SmL L) (p : Nat) {v : Nat} (hv : v < 18446744073709551616) : SmL (L.set p v) := fun x hx => by
  rcases List.mem_or_eq_of_mem_set hx with e | e
  · exact h x e
  · rw [e]; exact hv
theorem SmL.refer {L : List Nat} (h : SmL L) (p n : Nat) : SmL (referL p n L) := by
  unfold referL
  split
  · exact h.set p (refN_lt _ _)
  · exact h
theorem SmL.map {f : Nat → Nat} {n : Nat} (h : ∀ i, i < n → f i < 18446744073709551616) : SmL ((List.range n).map f) := fun x hx => by
  obtain ⟨i, hi, rfl⟩ := List.mem_map.1 hx
  exact h i (List.mem_range.1 hi)
theorem wordOf_lt (s : ByteArray) (i : Nat) : wordOf s i < 18446744073709551616 := by
  have h := leN_lt ((s.data.toList.drop (i * 8)).take 8)
  have hl : ((s.data.toList.drop (i * 8)).take 8).length ≤ 8 := by simp; omega
  have h2 : (256 : Nat) ^ ((s.data.toList.drop (i * 8)).take 8).length ≤ 256 ^ 8 := Nat.pow_le_pow_right (by omega) hl
  have e : (256 : Nat) ^ 8 = 18446744073709551616 := rfl
  unfold wordOf
  omega
theorem it_ind {α : Type} {f : Nat → α → α} {P : α → Prop} {n : Nat} {a : α} (h0 : P a) (h : ∀ k, k < n → ∀ a, P a → P (f k a)) : P (it f n a) := by
  induction n with
  | zero => exact h0
  | succ n ih => exact h n (by omega) _ (ih fun k hk => h k (by omega))
/-- The numbers in a tree are words. -/
theorem Sm.nums_lt {n : Nat} {x : Tr} (h : Sm n x) : x.num < 18446744073709551616 ∧ ∀ j, j < x.nl → x.nf j < 18446744073709551616 := by
  obtain ⟨m, rfl⟩ := h.pos
  exact ⟨h.1, h.2.2.2.2.1⟩
theorem layL_small (s : Sch) (n : Nat) : ∀ (t K : Nat) (kf : Nat → Tr) (L : List Nat) (m : Nat), (∀ j, j < K → Sm m (kf j)) → SmL L → SmL (layL s n t K kf L) := by
  induction n with
  | zero => intro t K kf L m _ h; exact h
  | succ n ih =>
    intro t K kf L m hS hL
    rw [layL_succ]
    have h1 : SmL (ownsL K kf L) := it_ind (P := SmL) hL fun j hj a ha => ha.append (SmL.map fun i hi => by
      obtain ⟨e, rfl⟩ := (hS j hj).pos
      exact ((hS j hj).kid hi).nums_lt.1)
    refine it_ind (P := fun st : List Nat × Nat => SmL st.1) h1 fun j hj st hst => it_ind (P := fun st : List Nat × Nat => SmL st.1) hst fun i hi st hst => ?_
    obtain ⟨e, rfl⟩ := (hS j hj).pos
    have hy := (hS j hj).kid hi
    show SmL (behindL _ _ _ _ _ _)
    unfold behindL
    split
    · exact (hst.refer _ _).append (SmL.map fun k _ => wordOf_lt _ k)
    · split
      · exact (hst.refer _ _).append (SmL.map hy.nums_lt.2)
      · split
        · obtain ⟨e2, rfl⟩ := hy.pos
          exact ih _ _ _ _ e2 (fun q hq => hy.kid hq) (hst.refer _ _)
        · exact hst
theorem msgL_small (s : Sch) (t : Nat) {x : Tr} {m : Nat} (h : Sm m x) : SmL (msgL s t x) := layL_small s 5 t 1 _ _ m (fun _ _ => h) fun y hy => by
  have := List.mem_singleton.1 hy
  rw [this]
  exact refN_lt _ _
/-- A list as a function. -/
def nth (L : List Nat) (j : Nat) : Nat := L.getD j 0
theorem nth_lt {L : List Nat} (h : SmL L) (j : Nat) : nth L j < 18446744073709551616 := by
  unfold nth
  rw [List.getD_eq_getElem?_getD]
  cases hx : L[j]? with
  | none => simp
  | some x => exact h x (List.mem_of_getElem? hx)

end Go.Proofs.YtkhbhkllnigbgaaDoor
