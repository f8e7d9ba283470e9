/- Messages, as lists of numbers: what is laid where, and how many words there are. -/
import Derived.Test.YtkhbhkllnigbgaaDoorBRef
import Derived.Test.YtkhbhkllnigbgaaDoorBWords
import Derived.Test.YtkhbhkllnigbgaaDoorTSizeM
namespace Go.Proofs.YtkhbhkllnigbgaaDoor
open Go.RowKit
/-- A text's words; a field's numbers; a struct's own words. -/
def wordsB (b : ByteArray) : List Nat := (List.range (cnt b.size)).map (wordOf b)
def numsL (y : Tr) : List Nat := (List.range y.nl).map y.nf
def ownL (x : Tr) : List Nat := (List.range x.kl).map fun i => (x.kf i).num
theorem wordsB_length (b : ByteArray) : (wordsB b).length = cnt b.size := by simp [wordsB]
theorem numsL_length (y : Tr) : (numsL y).length = y.nl := by simp [numsL]
theorem ownL_length (x : Tr) : (ownL x).length = x.kl := by simp [ownL]
/-- The word at p refers to n things that are laid next. -/
def referL (p n : Nat) (L : List Nat) : List Nat := if 0 < n then L.set p (refN ((L.length : Int) - p) n) else L
theorem referL_length (p n : Nat) (L : List Nat) : (referL p n L).length = L.length := by unfold referL; split <;> simp
/-- What a field refers to is laid. -/
def behindL (lay : Nat → Nat → (Nat → Tr) → List Nat → List Nat) (k : Int) (τ p : Nat) (y : Tr) (L : List Nat) : List Nat :=
  if k = 2 then referL p y.bs.size L ++ wordsB y.bs
  else if k = 3 then referL p y.nl L ++ numsL y
  else if k = 4 ∨ k = 5 then lay τ y.kl y.kf (referL p y.kl L)
  else L
/-- The words of K structs of type t, and all that they refer to. -/
def layL (s : Sch) : Nat → Nat → Nat → (Nat → Tr) → List Nat → List Nat
  | 0, _, _, _, L => L
  | n + 1, t, K, kf, L =>
    (it (fun j (st : List Nat × Nat) => it (fun i (st : List Nat × Nat) => (behindL (layL s n) (s.k t i) (s.t t i).toNat st.2 ((kf j).kf i) st.1, st.2 + 1)) (kf j).kl st) K (it (fun j L => L ++ ownL (kf j)) K L, L.length)).1
/-- The message of x, a struct of type t. -/
def msgL (s : Sch) (t : Nat) (x : Tr) : List Nat := layL s 5 t 1 (fun _ => x) [refN ((1 + wds true x : Nat) : Int) (t : Int)]

theorem it_len {α : Type} {f : Nat → α → α} {len : α → Nat} {c : Nat → Nat} {n : Nat} (h : ∀ k, k < n → ∀ a, len (f k a) = len a + c k) (a : α) : len (it f n a) = len a + sumN c n := by
  induction n with
  | zero => rfl
  | succ n ih => rw [it, h n (by omega), ih fun k hk => h k (by omega), sumN]; omega
theorem own_len (K : Nat) (kf : Nat → Tr) (L : List Nat) : (it (fun j L => L ++ ownL (kf j)) K L).length = L.length + sumN (fun j => (kf j).kl) K :=
  it_len (len := List.length) (f := fun j L => L ++ ownL (kf j)) (fun k _ a => by rw [List.length_append, ownL_length]) L
/-- As many words are laid as are told. -/
theorem layL_len (s : Sch) (hR : RightS s) (n : Nat) : ∀ (t K : Nat) (kf : Nat → Tr) (L : List Nat), t < s.n → (∀ j, j < K → chk s n t (kf j) = 0) → (layL s n t K kf L).length = L.length + sumN (fun j => wds true (kf j)) K := by
  induction n with
  | zero =>
    intro t K kf L _ h
    cases K with
    | zero => rfl
    | succ K => have := h 0 (by omega); simp [chk] at this
  | succ n ih =>
    intro t K kf L ht h
    have hf : ∀ (j i : Nat) (st : List Nat × Nat), j < K → i < (kf j).kl → (behindL (layL s n) (s.k t i) (s.t t i).toNat st.2 ((kf j).kf i) st.1).length = st.1.length + wds false ((kf j).kf i) := fun j i st hj hi => by
      obtain ⟨e, he, hso, hk⟩ := chk_inv (h j hj)
      have hil : i < s.len t := by rw [← hso.2.2.2]; exact hi
      have hfd := hR.field ht hil
      obtain rfl : n = e := by omega
      obtain ⟨⟨k1, k2, k3, k4, -, -, -, -⟩, hz⟩ := hk i hi
      have hw := wds_false ((kf j).kf i)
      unfold behindL
      by_cases e2 : s.k t i = 2
      · rw [if_pos e2, List.length_append, referL_length, wordsB_length, hw, k3 (by omega), k4 (by omega)]; simp [sumN]
      · rw [if_neg e2]
        have hb := k2 e2
        have hc : cnt ((kf j).kf i).bs.size = 0 := by rw [hb]; rfl
        by_cases e3 : s.k t i = 3
        · rw [if_pos e3, List.length_append, referL_length, numsL_length, hw, hc, k4 (by omega)]; simp [sumN]
        · rw [if_neg e3]
          have hn := k3 e3
          by_cases e4 : s.k t i = 4 ∨ s.k t i = 5
          · rw [if_pos e4, ih _ _ _ _ (hR.tlt ht hil) (fun q hq => hz q hq), referL_length, hw, hc, hn]; omega
          · rw [if_neg e4, hw, hc, hn]
            rw [k4 (by omega)]; simp [sumN]
    have h1 := own_len K kf L
    have h2 := it_len (α := List Nat × Nat) (len := fun st => st.1.length) (n := K) (c := fun j => sumN (fun i => wds false ((kf j).kf i)) (kf j).kl)
      (f := fun j (st : List Nat × Nat) => it (fun i (st : List Nat × Nat) => (behindL (layL s n) (s.k t i) (s.t t i).toNat st.2 ((kf j).kf i) st.1, st.2 + 1)) (kf j).kl st)
      (fun j hj st => it_len (α := List Nat × Nat) (len := fun st => st.1.length) (n := (kf j).kl) (c := fun i => wds false ((kf j).kf i)) (f := fun i (st : List Nat × Nat) => (behindL (layL s n) (s.k t i) (s.t t i).toNat st.2 ((kf j).kf i) st.1, st.2 + 1)) (fun i hi st => hf j i st hj hi) st)
      (it (fun j L => L ++ ownL (kf j)) K L, L.length)
    have h3 : sumN (fun j => wds true (kf j)) K = sumN (fun j => (kf j).kl) K + sumN (fun j => sumN (fun i => wds false ((kf j).kf i)) (kf j).kl) K := by
      rw [← sumN_add]
      exact sumN_congr fun j _ => wds_true (kf j)
    show (layL s (n + 1) t K kf L).length = _
    rw [layL]
    refine h2.trans ?_
    show (it (fun j L => L ++ ownL (kf j)) K L).length + _ = _
    rw [h1, h3]
    omega
theorem msgL_len {s : Sch} (hR : RightS s) {t : Nat} (ht : t < s.n) {x : Tr} (h : chk s 5 t x = 0) : (msgL s t x).length = 1 + wds true x := by
  unfold msgL
  rw [layL_len s hR 5 t 1 _ _ ht (fun _ _ => h)]
  simp [sumN]

end Go.Proofs.YtkhbhkllnigbgaaDoor
