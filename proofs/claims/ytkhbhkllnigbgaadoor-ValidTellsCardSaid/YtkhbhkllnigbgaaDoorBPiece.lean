/- What lies together in a message: words of structs, and all that they refer to; the same wherever it lies. -/
import Derived.Test.YtkhbhkllnigbgaaDoorBMath2
namespace Go.Proofs.YtkhbhkllnigbgaaDoor
open Go.RowKit
/-- A field: its kind, its type, what it has. -/
structure Fd where
  k : Int
  τ : Nat
  y : Tr
/-- How many things a field refers to. -/
def Fd.n (f : Fd) : Nat := if f.k = 2 then f.y.bs.size else if f.k = 3 then f.y.nl else if f.k = 4 ∨ f.k = 5 then f.y.kl else 0
/-- The fields of x, of type t; of K structs. -/
def fdsX (s : Sch) (t : Nat) (x : Tr) (i : Nat) : List Fd := (List.range i).map fun i => ⟨s.k t i, (s.t t i).toNat, x.kf i⟩
def fdsK (s : Sch) (t : Nat) (kf : Nat → Tr) (K : Nat) : List Fd := (List.range K).flatMap fun j => fdsX s t (kf j) (kf j).kl
theorem fdsX_succ (s : Sch) (t : Nat) (x : Tr) (i : Nat) : fdsX s t x (i + 1) = fdsX s t x i ++ [⟨s.k t i, (s.t t i).toNat, x.kf i⟩] := by simp [fdsX, List.range_succ]
theorem fdsK_succ (s : Sch) (t : Nat) (kf : Nat → Tr) (K : Nat) : fdsK s t kf (K + 1) = fdsK s t kf K ++ fdsX s t (kf K) (kf K).kl := by simp [fdsK, List.range_succ, List.flatMap_append]
theorem fdsX_len (s : Sch) (t : Nat) (x : Tr) (i : Nat) : (fdsX s t x i).length = i := by simp [fdsX]
/-- A field's own word: n words follow its struct's, and it is followed by m in its row. -/
def ownWd (f : Fd) (o : Nat) : Nat := if 0 < f.n then refN (o : Int) (f.n : Int) else f.y.num
/-- What a field refers to. -/
def fpc (pc : Nat → Nat → (Nat → Tr) → List Nat) (f : Fd) : List Nat :=
  if f.k = 2 then wordsB f.y.bs else if f.k = 3 then numsL f.y else if f.k = 4 ∨ f.k = 5 then pc f.τ f.y.kl f.y.kf else []
/-- Own words, q words lying between them and what they refer to. -/
def ownWs (pc : Nat → Nat → (Nat → Tr) → List Nat) : List Fd → Nat → List Nat
  | [], _ => []
  | f :: fs, q => ownWd f (fs.length + 1 + q) :: ownWs pc fs (q + (fpc pc f).length)
def refs (pc : Nat → Nat → (Nat → Tr) → List Nat) (fs : List Fd) : List Nat := fs.flatMap (fpc pc)
def piece (s : Sch) : Nat → Nat → Nat → (Nat → Tr) → List Nat
  | 0, _, _, _ => []
  | n + 1, t, K, kf => ownWs (piece s n) (fdsK s t kf K) 0 ++ refs (piece s n) (fdsK s t kf K)
theorem ownWs_len (pc : Nat → Nat → (Nat → Tr) → List Nat) (fs : List Fd) : ∀ q, (ownWs pc fs q).length = fs.length := by
  induction fs with
  | nil => intro q; rfl
  | cons f fs ih => intro q; simp [ownWs, ih]
theorem ownWs_append (pc : Nat → Nat → (Nat → Tr) → List Nat) (fs gs : List Fd) : ∀ q, ownWs pc (fs ++ gs) q = ownWs pc fs (gs.length + q) ++ ownWs pc gs (q + (refs pc fs).length) := by
  induction fs with
  | nil => intro q; simp [ownWs, refs]
  | cons f fs ih =>
    intro q
    simp only [List.cons_append, ownWs, ih, List.length_append]
    rw [show fs.length + gs.length + 1 + q = fs.length + 1 + (gs.length + q) by omega, show gs.length + (q + (fpc pc f).length) = gs.length + q + (fpc pc f).length by omega]
    simp [refs, Nat.add_assoc]
theorem refs_append (pc : Nat → Nat → (Nat → Tr) → List Nat) (fs gs : List Fd) : refs pc (fs ++ gs) = refs pc fs ++ refs pc gs := by simp [refs]
theorem refs_cons (pc : Nat → Nat → (Nat → Tr) → List Nat) (f : Fd) (fs : List Fd) : refs pc (f :: fs) = fpc pc f ++ refs pc fs := by simp [refs]

/-- A step of going over fields. -/
def bst (lay : Nat → Nat → (Nat → Tr) → List Nat → List Nat) (st : List Nat × Nat) (f : Fd) : List Nat × Nat := (behindL lay f.k f.τ st.2 f.y st.1, st.2 + 1)
theorem bhF_fold (lay : Nat → Nat → (Nat → Tr) → List Nat → List Nat) (s : Sch) (t : Nat) (x : Tr) (i : Nat) (st : List Nat × Nat) : bhF lay s t x i st = (fdsX s t x i).foldl (bst lay) st := by
  induction i with
  | zero => rfl
  | succ i ih => rw [bhF_succ, fdsX_succ, List.foldl_append, ← ih]; rfl
theorem bhS_fold (lay : Nat → Nat → (Nat → Tr) → List Nat → List Nat) (s : Sch) (t : Nat) (kf : Nat → Tr) (j : Nat) (st : List Nat × Nat) : bhS lay s t kf j st = (fdsK s t kf j).foldl (bst lay) st := by
  induction j with
  | zero => rfl
  | succ j ih => rw [bhS_succ, fdsK_succ, List.foldl_append, ← ih, bhF_fold]
theorem ownsL_fold (s : Sch) (t K : Nat) (kf : Nat → Tr) (L : List Nat) : ownsL K kf L = L ++ (fdsK s t kf K).map fun f => f.y.num := by
  induction K with
  | zero => simp [ownsL, it, fdsK]
  | succ K ih =>
    show ownsL K kf L ++ ownL (kf K) = _
    rw [ih, fdsK_succ, List.map_append, List.append_assoc]
    simp [ownL, fdsX]
/-- One field is gone over. -/
theorem behindL_step {lay : Nat → Nat → (Nat → Tr) → List Nat → List Nat} {pc : Nat → Nat → (Nat → Tr) → List Nat} (f : Fd) (h : ∀ L, (f.k = 4 ∨ f.k = 5) → lay f.τ f.y.kl f.y.kf L = L ++ pc f.τ f.y.kl f.y.kf) (P R : List Nat) :
    behindL lay f.k f.τ P.length f.y (P ++ f.y.num :: R) = P ++ ownWd f (R.length + 1) :: R ++ fpc pc f := by
  have hset : ∀ n : Nat, referL P.length n (P ++ f.y.num :: R) = P ++ (if 0 < n then refN ((R.length + 1 : Nat) : Int) (n : Int) else f.y.num) :: R := fun n => by
    unfold referL
    by_cases h0 : 0 < n
    · rw [if_pos h0, if_pos h0]
      have e : (((P ++ f.y.num :: R).length : Nat) : Int) - (P.length : Int) = ((R.length + 1 : Nat) : Int) := by simp; omega
      rw [e]
      simp
    · rw [if_neg h0, if_neg h0]
  unfold behindL fpc ownWd Fd.n
  by_cases h2 : f.k = 2
  · rw [if_pos h2, if_pos h2, if_pos h2, hset]
  · rw [if_neg h2, if_neg h2, if_neg h2]
    by_cases h3 : f.k = 3
    · rw [if_pos h3, if_pos h3, if_pos h3, hset]
    · rw [if_neg h3, if_neg h3, if_neg h3]
      by_cases h4 : f.k = 4 ∨ f.k = 5
      · rw [if_pos h4, if_pos h4, if_pos h4, hset, h _ h4]
      · rw [if_neg h4, if_neg h4, if_neg h4]; simp
/-- All fields are gone over. -/
theorem fold_step {lay : Nat → Nat → (Nat → Tr) → List Nat → List Nat} {pc : Nat → Nat → (Nat → Tr) → List Nat} (fs : List Fd) : ∀ (P Q : List Nat), (∀ f, f ∈ fs → ∀ L, (f.k = 4 ∨ f.k = 5) → lay f.τ f.y.kl f.y.kf L = L ++ pc f.τ f.y.kl f.y.kf) →
    (fs.foldl (bst lay) (P ++ (fs.map fun f => f.y.num) ++ Q, P.length)).1 = P ++ ownWs pc fs Q.length ++ Q ++ refs pc fs := by
  induction fs with
  | nil => intro P Q _; simp [ownWs, refs]
  | cons f fs ih =>
    intro P Q h
    rw [List.foldl_cons]
    have e : bst lay (P ++ ((f :: fs).map fun f => f.y.num) ++ Q, P.length) f = ((P ++ [ownWd f (fs.length + 1 + Q.length)]) ++ (fs.map fun f => f.y.num) ++ (Q ++ fpc pc f), (P ++ [ownWd f (fs.length + 1 + Q.length)]).length) := by
      have h1 := behindL_step (lay := lay) (pc := pc) f (h f (List.mem_cons_self ..)) P ((fs.map fun f => f.y.num) ++ Q)
      unfold bst
      rw [show P ++ ((f :: fs).map fun f => f.y.num) ++ Q = P ++ f.y.num :: ((fs.map fun f => f.y.num) ++ Q) by simp, h1]
      simp [show fs.length + Q.length + 1 = fs.length + 1 + Q.length by omega]
    rw [e, ih _ _ fun g hg => h g (List.mem_cons_of_mem _ hg)]
    simp [ownWs, refs]
/-- What layL lays. -/
theorem layL_piece (s : Sch) (n : Nat) : ∀ (t K : Nat) (kf : Nat → Tr) (L : List Nat), layL s n t K kf L = L ++ piece s n t K kf := by
  induction n with
  | zero => intro t K kf L; simp [layL, piece]
  | succ n ih =>
    intro t K kf L
    rw [layL_succ, bhS_fold, ownsL_fold s t]
    have h := fold_step (lay := layL s n) (pc := piece s n) (fdsK s t kf K) L [] (fun f _ L' _ => ih _ _ _ L')
    rw [List.append_nil] at h
    rw [h]
    simp [piece]
theorem msgL_piece (s : Sch) (t : Nat) (x : Tr) : msgL s t x = refN ((1 + wds true x : Nat) : Int) (t : Int) :: piece s 5 t 1 (fun _ => x) := by
  rw [msgL, layL_piece]; rfl

end Go.Proofs.YtkhbhkllnigbgaaDoor
