/- Messages, as lists: what is laid behind, field by field. -/
import Derived.Test.YtkhbhkllnigbgaaDoorBMath
namespace Go.Proofs.YtkhbhkllnigbgaaDoor
open Go.RowKit
/-- The structs' own words. -/
def ownsL (K : Nat) (kf : Nat → Tr) (L : List Nat) : List Nat := it (fun j L => L ++ ownL (kf j)) K L
/-- What i fields of x refer to; what the fields of j structs refer to: the words, and the next field's place. -/
def bhF (lay : Nat → Nat → (Nat → Tr) → List Nat → List Nat) (s : Sch) (t : Nat) (x : Tr) (i : Nat) (st : List Nat × Nat) : List Nat × Nat := it (fun i (st : List Nat × Nat) => (behindL lay (s.k t i) (s.t t i).toNat st.2 (x.kf i) st.1, st.2 + 1)) i st
def bhS (lay : Nat → Nat → (Nat → Tr) → List Nat → List Nat) (s : Sch) (t : Nat) (kf : Nat → Tr) (j : Nat) (st : List Nat × Nat) : List Nat × Nat := it (fun j (st : List Nat × Nat) => bhF lay s t (kf j) (kf j).kl st) j st
theorem layL_succ (s : Sch) (n t K : Nat) (kf : Nat → Tr) (L : List Nat) : layL s (n + 1) t K kf L = (bhS (layL s n) s t kf K (ownsL K kf L, L.length)).1 := rfl
theorem bhF_succ (lay : Nat → Nat → (Nat → Tr) → List Nat → List Nat) (s : Sch) (t : Nat) (x : Tr) (i : Nat) (st : List Nat × Nat) : bhF lay s t x (i + 1) st = (behindL lay (s.k t i) (s.t t i).toNat (bhF lay s t x i st).2 (x.kf i) (bhF lay s t x i st).1, (bhF lay s t x i st).2 + 1) := rfl
theorem bhS_succ (lay : Nat → Nat → (Nat → Tr) → List Nat → List Nat) (s : Sch) (t : Nat) (kf : Nat → Tr) (j : Nat) (st : List Nat × Nat) : bhS lay s t kf (j + 1) st = bhF lay s t (kf j) (kf j).kl (bhS lay s t kf j st) := rfl
theorem bhF_snd (lay : Nat → Nat → (Nat → Tr) → List Nat → List Nat) (s : Sch) (t : Nat) (x : Tr) (i : Nat) (st : List Nat × Nat) : (bhF lay s t x i st).2 = st.2 + i := by
  induction i with
  | zero => rfl
  | succ i ih => rw [bhF_succ]; show _ + 1 = _; rw [ih]; omega
theorem bhS_snd (lay : Nat → Nat → (Nat → Tr) → List Nat → List Nat) (s : Sch) (t : Nat) (kf : Nat → Tr) (j : Nat) (st : List Nat × Nat) : (bhS lay s t kf j st).2 = st.2 + sumN (fun j => (kf j).kl) j := by
  induction j with
  | zero => rfl
  | succ j ih => rw [bhS_succ, bhF_snd, ih, sumN]; omega
/-- What is laid behind for a field of a right struct is as long as is told. -/
theorem behindL_len {s : Sch} (hR : RightS s) {n t : Nat} (ht : t < s.n) {x : Tr} (h : chk s (n + 1) t x = 0) {i : Nat} (hi : i < x.kl) (p : Nat) (L : List Nat) : (behindL (layL s n) (s.k t i) (s.t t i).toNat p (x.kf i) L).length = L.length + wds false (x.kf i) := by
  obtain ⟨e, he, hso, hk⟩ := chk_inv h
  have hil : i < s.len t := by rw [← hso.2.2.2]; exact hi
  have hfd := hR.field ht hil
  obtain rfl : n = e := by omega
  obtain ⟨⟨k1, k2, k3, k4, -, -, -, -⟩, hz⟩ := hk i hi
  have hw := wds_false (x.kf i)
  unfold behindL
  by_cases e2 : s.k t i = 2
  · rw [if_pos e2, List.length_append, referL_length, wordsB_length, hw, k3 (by omega), k4 (by omega)]; simp [sumN]
  · rw [if_neg e2]
    have hb := k2 e2
    have hc : cnt (x.kf i).bs.size = 0 := by rw [hb]; rfl
    by_cases e3 : s.k t i = 3
    · rw [if_pos e3, List.length_append, referL_length, numsL_length, hw, hc, k4 (by omega)]; simp [sumN]
    · rw [if_neg e3]
      have hn := k3 e3
      by_cases e4 : s.k t i = 4 ∨ s.k t i = 5
      · rw [if_pos e4, layL_len s hR n _ _ _ _ (hR.tlt ht hil) (fun q hq => hz q hq), referL_length, hw, hc, hn]; omega
      · rw [if_neg e4, hw, hc, hn]
        rw [k4 (by omega)]; simp [sumN]
theorem bhF_len {s : Sch} (hR : RightS s) {n t : Nat} (ht : t < s.n) {x : Tr} (h : chk s (n + 1) t x = 0) {i : Nat} (hi : i ≤ x.kl) (st : List Nat × Nat) : (bhF (layL s n) s t x i st).1.length = st.1.length + sumN (fun i => wds false (x.kf i)) i := by
  induction i with
  | zero => rfl
  | succ i ih => rw [bhF_succ]; show (behindL _ _ _ _ _ _).length = _; rw [behindL_len hR ht h (by omega), ih (by omega), sumN]; omega
theorem bhS_len {s : Sch} (hR : RightS s) {n t : Nat} (ht : t < s.n) {kf : Nat → Tr} {K : Nat} (h : ∀ j, j < K → chk s (n + 1) t (kf j) = 0) {j : Nat} (hj : j ≤ K) (st : List Nat × Nat) : (bhS (layL s n) s t kf j st).1.length = st.1.length + sumN (fun j => sumN (fun i => wds false ((kf j).kf i)) (kf j).kl) j := by
  induction j with
  | zero => rfl
  | succ j ih => rw [bhS_succ, bhF_len hR ht (h j (by omega)) (Nat.le_refl _), ih (by omega), sumN]; omega
theorem ownsL_len (K : Nat) (kf : Nat → Tr) (L : List Nat) : (ownsL K kf L).length = L.length + sumN (fun j => (kf j).kl) K := own_len K kf L
theorem sum_wds (K : Nat) (kf : Nat → Tr) : sumN (fun j => wds true (kf j)) K = sumN (fun j => (kf j).kl) K + sumN (fun j => sumN (fun i => wds false ((kf j).kf i)) (kf j).kl) K := by
  rw [← sumN_add]
  exact sumN_congr fun j _ => wds_true (kf j)
/-- A field that comes next lies within the words so far; there is room for what it refers to. -/
theorem bh_fit {s : Sch} (hR : RightS s) {n t : Nat} (ht : t < s.n) {kf : Nat → Tr} {K : Nat} (h : ∀ j, j < K → chk s (n + 1) t (kf j) = 0) (L : List Nat) {j i : Nat} (hj : j < K) (hi : i < (kf j).kl) :
    (bhF (layL s n) s t (kf j) i (bhS (layL s n) s t kf j (ownsL K kf L, L.length))).2 < (bhF (layL s n) s t (kf j) i (bhS (layL s n) s t kf j (ownsL K kf L, L.length))).1.length ∧ (bhF (layL s n) s t (kf j) i (bhS (layL s n) s t kf j (ownsL K kf L, L.length))).1.length + wds false ((kf j).kf i) ≤ L.length + sumN (fun j => wds true (kf j)) K := by
  rw [bhF_snd, bhS_snd, bhF_len hR ht (h j hj) (by omega), bhS_len hR ht h (by omega), sum_wds]
  show _ < (ownsL K kf L).length + _ + _ ∧ (ownsL K kf L).length + _ + _ + _ ≤ _
  rw [ownsL_len]
  show L.length + _ + _ < _ ∧ _
  have h1 := sum_room (c := fun j => (kf j).kl) hj
  have h2 := sum_room (c := fun j => sumN (fun i => wds false ((kf j).kf i)) (kf j).kl) hj
  have h3 := sum_room (c := fun i => wds false ((kf j).kf i)) hi
  try simp only at h1 h2 h3
  omega

end Go.Proofs.YtkhbhkllnigbgaaDoor
