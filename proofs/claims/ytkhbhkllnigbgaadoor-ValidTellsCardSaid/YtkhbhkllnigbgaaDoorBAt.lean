/- Where things of a message lie; counting words: mathematics. -/
import Derived.Test.YtkhbhkllnigbgaaDoorBPiece
import Derived.Test.YtkhbhkllnigbgaaDoorBSmall
namespace Go.Proofs.YtkhbhkllnigbgaaDoor
open Go.RowKit
/-- l lies in wl from p on. -/
def AtL (wl : List Nat) (p : Nat) (l : List Nat) : Prop := ∀ j, j < l.length → wl[p + j]? = l[j]?
theorem AtL.append {wl : List Nat} {p : Nat} {l m : List Nat} : AtL wl p (l ++ m) ↔ AtL wl p l ∧ AtL wl (p + l.length) m := by
  constructor
  · intro h
    refine ⟨fun j hj => ?_, fun j hj => ?_⟩
    · rw [h j (by simp; omega), List.getElem?_append_left hj]
    · rw [Nat.add_assoc, h (l.length + j) (by simp; omega), List.getElem?_append_right (by omega), Nat.add_sub_cancel_left]
  · intro h j hj
    by_cases h1 : j < l.length
    · rw [h.1 j h1, List.getElem?_append_left h1]
    · have h2 := h.2 (j - l.length) (by simp at hj; omega)
      rw [show p + l.length + (j - l.length) = p + j by omega] at h2
      rw [h2, List.getElem?_append_right (by omega)]
theorem AtL.self (h : Nat) (l : List Nat) : AtL (h :: l) 1 l := fun j _ => by rw [show 1 + j = j + 1 by omega]; simp
theorem AtL.le {wl : List Nat} {p : Nat} {l : List Nat} (h : AtL wl p l) (h0 : 0 < l.length) : p + l.length ≤ wl.length := by
  have h1 := h (l.length - 1) (by omega)
  rw [List.getElem?_eq_getElem (show l.length - 1 < l.length by omega)] at h1
  have := (List.getElem?_eq_some_iff.1 h1).1
  omega
theorem AtL.nth {wl : List Nat} {p : Nat} {l : List Nat} (h : AtL wl p l) {j : Nat} (hj : j < l.length) : nth wl (p + j) = nth l j := by
  unfold Proofs.YtkhbhkllnigbgaaDoor.nth
  rw [List.getD_eq_getElem?_getD, List.getD_eq_getElem?_getD, h j hj]
/-- A struct x of type t lies at a, q words between its own ones and what they refer to. -/
def StAt (s : Sch) (wl : List Nat) (n t : Nat) (x : Tr) (a q : Nat) : Prop := AtL wl a (ownWs (piece s n) (fdsX s t x x.kl) q) ∧ AtL wl (a + x.kl + q) (refs (piece s n) (fdsX s t x x.kl))
/-- How many words the first i fields of x refer to. -/
def refsN (s : Sch) (n t : Nat) (x : Tr) (i : Nat) : Nat := (refs (piece s n) (fdsX s t x i)).length
theorem fdsX_split (s : Sch) (t : Nat) (x : Tr) {i m : Nat} (hi : i < m) : ∃ gs, fdsX s t x m = fdsX s t x i ++ ⟨s.k t i, (s.t t i).toNat, x.kf i⟩ :: gs ∧ gs.length + i + 1 = m := by
  induction m with
  | zero => omega
  | succ m ih =>
    by_cases e : i = m
    · subst e
      exact ⟨[], by rw [fdsX_succ], by simp⟩
    · obtain ⟨gs, h1, h2⟩ := ih (by omega)
      exact ⟨gs ++ [⟨s.k t m, (s.t t m).toNat, x.kf m⟩], by rw [fdsX_succ, h1]; simp, by simp; omega⟩
/-- A field of a struct that lies there. -/
theorem StAt.field {s : Sch} {wl : List Nat} {n t : Nat} {x : Tr} {a q : Nat} (h : StAt s wl n t x a q) {i : Nat} (hi : i < x.kl) :
    nth wl (a + i) = ownWd ⟨s.k t i, (s.t t i).toNat, x.kf i⟩ (x.kl - i + q + refsN s n t x i) ∧ AtL wl (a + x.kl + q + refsN s n t x i) (fpc (piece s n) ⟨s.k t i, (s.t t i).toNat, x.kf i⟩) ∧ refsN s n t x (i + 1) = refsN s n t x i + (fpc (piece s n) ⟨s.k t i, (s.t t i).toNat, x.kf i⟩).length ∧ refsN s n t x (i + 1) ≤ refsN s n t x x.kl := by
  obtain ⟨gs, h1, h2⟩ := fdsX_split s t x hi
  obtain ⟨g1, g2⟩ := h
  have e3 : refsN s n t x (i + 1) = refsN s n t x i + (fpc (piece s n) ⟨s.k t i, (s.t t i).toNat, x.kf i⟩).length := by
    unfold refsN; rw [fdsX_succ, refs_append]; simp [refs]
  refine ⟨?_, ?_, e3, ?_⟩
  · rw [h1, ownWs_append, AtL.append] at g1
    have g := g1.2
    rw [ownWs_len, fdsX_len] at g
    have := g.nth (j := 0) (by simp [ownWs])
    rw [Nat.add_zero] at this
    rw [this, ownWs]
    show ownWd _ (gs.length + 1 + (q + (refs (piece s n) (fdsX s t x i)).length)) = _
    rw [show gs.length + 1 + (q + (refs (piece s n) (fdsX s t x i)).length) = x.kl - i + q + refsN s n t x i by unfold refsN; omega]
  · rw [h1, refs_append, AtL.append, refs_cons, AtL.append] at g2
    exact g2.2.1
  · rw [e3]
    unfold refsN
    rw [h1, refs_append, refs_cons]
    simp only [List.length_append]
    omega
theorem fdsK_len {s : Sch} {t : Nat} {kf : Nat → Tr} {F K : Nat} (h : ∀ j, j < K → (kf j).kl = F) : (fdsK s t kf K).length = K * F := by
  induction K with
  | zero => simp [fdsK]
  | succ K ih => rw [fdsK_succ, List.length_append, fdsX_len, ih fun j hj => h j (by omega), h K (by omega), Nat.succ_mul]
theorem fdsK_split (s : Sch) (t : Nat) (kf : Nat → Tr) {j K F : Nat} (hj : j < K) (h : ∀ j, j < K → (kf j).kl = F) : ∃ gs, fdsK s t kf K = fdsK s t kf j ++ (fdsX s t (kf j) (kf j).kl ++ gs) ∧ gs.length + (j + 1) * F = K * F := by
  induction K with
  | zero => omega
  | succ K ih =>
    by_cases e : j = K
    · subst e
      exact ⟨[], by rw [fdsK_succ]; simp, by simp⟩
    · obtain ⟨gs, h1, h2⟩ := ih (by omega) (fun j hj => h j (by omega))
      refine ⟨gs ++ fdsX s t (kf K) (kf K).kl, by rw [fdsK_succ, h1]; simp, ?_⟩
      rw [List.length_append, fdsX_len, h K (by omega), Nat.succ_mul K F]
      omega
/-- How many words the first j structs refer to. -/
def refsK (s : Sch) (n t : Nat) (kf : Nat → Tr) (j : Nat) : Nat := (refs (piece s n) (fdsK s t kf j)).length
theorem refsK_succ (s : Sch) (n t : Nat) (kf : Nat → Tr) (j : Nat) : refsK s n t kf (j + 1) = refsK s n t kf j + refsN s n t (kf j) (kf j).kl := by
  unfold refsK refsN; rw [fdsK_succ, refs_append, List.length_append]
/-- A struct among K that lie together. -/
theorem AtL.struct {s : Sch} {wl : List Nat} {n t K F p : Nat} {kf : Nat → Tr} (h : AtL wl p (piece s (n + 1) t K kf)) (hF : ∀ j, j < K → (kf j).kl = F) {j : Nat} (hj : j < K) : StAt s wl n t (kf j) (p + j * F) (K * F - (j + 1) * F + refsK s n t kf j) := by
  obtain ⟨gs, h1, h2⟩ := fdsK_split s t kf hj hF
  rw [piece, AtL.append] at h
  obtain ⟨g1, g2⟩ := h
  rw [ownWs_len, fdsK_len hF] at g2
  have hjF := fdsK_len (s := s) (t := t) (kf := kf) (F := F) (K := j) (fun i hi => hF i (by omega))
  have hk := hF j hj
  have hs : (j + 1) * F = j * F + F := Nat.succ_mul j F
  refine ⟨?_, ?_⟩
  · rw [h1, ownWs_append, AtL.append] at g1
    have g := g1.2
    rw [ownWs_len, hjF, ownWs_append, AtL.append] at g
    have g := g.1
    rw [show gs.length + (0 + (refs (piece s n) (fdsK s t kf j)).length) = K * F - (j + 1) * F + refsK s n t kf j by unfold refsK; omega] at g
    exact g
  · rw [h1, refs_append, AtL.append, refs_append, AtL.append] at g2
    have g := g2.2.1
    rw [show p + K * F + (refs (piece s n) (fdsK s t kf j)).length = p + j * F + (kf j).kl + (K * F - (j + 1) * F + refsK s n t kf j) by unfold refsK; omega] at g
    exact g
theorem piece_len {s : Sch} {n t K F : Nat} {kf : Nat → Tr} (hF : ∀ j, j < K → (kf j).kl = F) : (piece s (n + 1) t K kf).length = K * F + refsK s n t kf K := by
  rw [piece, List.length_append, ownWs_len, fdsK_len hF]; rfl
theorem refsK_le {s : Sch} {n t K j : Nat} {kf : Nat → Tr} (hj : j ≤ K) : refsK s n t kf j ≤ refsK s n t kf K := by
  induction K with
  | zero => obtain rfl : j = 0 := by omega
            exact Nat.le_refl _
  | succ K ih =>
    by_cases e : j = K + 1
    · subst e; exact Nat.le_refl _
    · rw [refsK_succ]; have := ih (by omega); omega

/-- Counts: i words from a on, and m from r on, are 1. -/
def setR (G : Nat → Nat) (a i r m : Nat) (j : Nat) : Nat := if (a ≤ j ∧ j < a + i) ∨ (r ≤ j ∧ j < r + m) then 1 else G j
theorem setR_own (G : Nat → Nat) (a i r m : Nat) (j : Nat) : (if j = a + i then 1 else setR G a i r m j) = setR G a (i + 1) r m j := by
  unfold setR
  by_cases h : j = a + i
  · rw [if_pos h, if_pos (by omega)]
  · rw [if_neg h]
    by_cases h2 : (a ≤ j ∧ j < a + i) ∨ (r ≤ j ∧ j < r + m)
    · rw [if_pos h2, if_pos (by omega)]
    · rw [if_neg h2, if_neg (by omega)]
theorem setR_ref (G : Nat → Nat) (a i r m : Nat) (j : Nat) : (if j = r + m then 1 else setR G a i r m j) = setR G a i r (m + 1) j := by
  unfold setR
  by_cases h : j = r + m
  · rw [if_pos h, if_pos (by omega)]
  · rw [if_neg h]
    by_cases h2 : (a ≤ j ∧ j < a + i) ∨ (r ≤ j ∧ j < r + m)
    · rw [if_pos h2, if_pos (by omega)]
    · rw [if_neg h2, if_neg (by omega)]
theorem setR_zero (G : Nat → Nat) (a r : Nat) : setR G a 0 r 0 = G := by
  funext j
  unfold setR
  rw [if_neg (by omega)]
theorem setR_kid (G : Nat → Nat) (p b r m F d : Nat) : setR (setR G p b r m) (p + b) F (r + m) d = setR G p (b + F) r (m + d) := by
  funext j
  unfold setR
  by_cases h1 : (p + b ≤ j ∧ j < p + b + F) ∨ (r + m ≤ j ∧ j < r + m + d)
  · rw [if_pos h1, if_pos (by omega)]
  · rw [if_neg h1]
    by_cases h2 : (p ≤ j ∧ j < p + b) ∨ (r ≤ j ∧ j < r + m)
    · rw [if_pos h2, if_pos (by omega)]
    · rw [if_neg h2, if_neg (by omega)]
theorem setR_kids (G : Nat → Nat) (a i r m b d : Nat) : setR (setR G a i r m) (r + m) b (r + m + b) d = setR G a i r (m + (b + d)) := by
  funext j
  unfold setR
  by_cases h1 : (r + m ≤ j ∧ j < r + m + b) ∨ (r + m + b ≤ j ∧ j < r + m + b + d)
  · rw [if_pos h1, if_pos (by omega)]
  · rw [if_neg h1]
    by_cases h2 : (a ≤ j ∧ j < a + i) ∨ (r ≤ j ∧ j < r + m)
    · rw [if_pos h2, if_pos (by omega)]
    · rw [if_neg h2, if_neg (by omega)]

end Go.Proofs.YtkhbhkllnigbgaaDoor
