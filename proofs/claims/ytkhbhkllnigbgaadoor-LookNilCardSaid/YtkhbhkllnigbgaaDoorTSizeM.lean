/- Going through structs: mathematics; how many words a struct takes itself. -/
import Derived.Test.YtkhbhkllnigbgaaDoorTCheck2
namespace Go.Proofs.YtkhbhkllnigbgaaDoor
open Go.RowKit
theorem chk_inv {s : Sch} {d t : Nat} {x : Tr} (h : chk s d t x = 0) : ∃ e, d = e + 1 ∧ structOk s t x ∧ ∀ i, i < x.kl → kindOk (s.k t i) (x.kf i) ∧ ∀ j, j < (x.kf i).kl → chk s e (s.t t i).toNat ((x.kf i).kf j) = 0 := by
  cases d with
  | zero => rw [chk] at h; omega
  | succ e =>
    refine ⟨e, rfl, ?_⟩
    rw [chk_succ] at h
    by_cases hs : structOk s t x
    · rw [if_pos hs] at h
      refine ⟨hs, fun i hi => ?_⟩
      have h1 := fe_zero.1 h i hi
      simp only [chkF] at h1
      by_cases hk : kindOk (s.k t i) (x.kf i)
      · rw [if_pos hk] at h1
        exact ⟨hk, fe_zero.1 h1⟩
      · rw [if_neg hk] at h1; omega
    · rw [if_neg hs] at h; omega


/-- f 0, f 1, .. done upon a. -/
def it {α : Type} (f : Nat → α → α) : Nat → α → α
  | 0, a => a
  | n + 1, a => f n (it f n a)
theorem it_snd {f : Nat → Nat × Nat → Nat × Nat} {c : Nat → Nat} {n : Nat} (h : ∀ k, k < n → ∀ a, (f k a).2 ≤ a.2 + c k) (a : Nat × Nat) : (it f n a).2 ≤ a.2 + sumN c n := by
  induction n with
  | zero => exact Nat.le_refl _
  | succ n ih =>
    have h1 := ih fun k hk => h k (by omega)
    have h2 := h n (by omega) (it f n a)
    rw [it, sumN]
    omega
/-- A struct, and all in it, is visited. -/
def visN (g : Tr → Nat → Nat → Nat) : Nat → Tr → Nat → Nat × Nat → Nat × Nat
  | 0, _, _, a => a
  | n + 1, x, D, a => it (fun i a => it (fun j a => visN g n ((x.kf i).kf j) (D + 1) a) (x.kf i).kl a) x.kl (g x D a.1, a.2 + 1)
theorem visN_snd (g : Tr → Nat → Nat → Nat) (n : Nat) (x : Tr) (D : Nat) (a : Nat × Nat) : (visN g n x D a).2 ≤ a.2 + cntT x := by
  induction n generalizing x D a with
  | zero => rw [visN, cntT_eq]; omega
  | succ n ih =>
    rw [visN, cntT_eq]
    have h := it_snd (f := fun i a => it (fun j a => visN g n ((x.kf i).kf j) (D + 1) a) (x.kf i).kl a) (c := fun i => cntT (x.kf i)) (n := x.kl) (fun i hi a => by
      have h2 := it_snd (f := fun j a => visN g n ((x.kf i).kf j) (D + 1) a) (c := fun j => cntT ((x.kf i).kf j)) (n := (x.kf i).kl) (fun j hj a => ih _ _ _) a
      show (it (fun j a => visN g n ((x.kf i).kf j) (D + 1) a) (x.kf i).kl a).2 ≤ a.2 + cntT (x.kf i)
      rw [cntT_eq]
      omega) (g x D a.1, a.2 + 1)
    simp only at h ⊢
    omega
theorem sum_room {c : Nat → Nat} {n i : Nat} (hi : i < n) : sumN c i + c i ≤ sumN c n := by
  have h := sumN_mono (f := c) (n := i + 1) (m := n) (by omega)
  rw [sumN] at h
  exact h
/-- How many words a struct takes, without those within it. -/
def ownW (x : Tr) : Nat := x.kl + sumN (fun i => cnt (x.kf i).bs.size + (x.kf i).nl) x.kl
theorem ownW_le {n : Nat} {x : Tr} (h : Sm (n + 2) x) : ownW x ≤ 300 := by
  have hx := h.le
  have h1 : sumN (fun i => cnt (x.kf i).bs.size + (x.kf i).nl) x.kl ≤ x.kl * 22 := sumN_le fun i hi => by
    have := (h.kid hi).le
    show cnt (x.kf i).bs.size + (x.kf i).nl ≤ 22
    unfold cnt
    omega
  unfold ownW
  omega
theorem it_add {f : Nat → Nat × Nat → Nat × Nat} {c : Nat → Nat} {n : Nat} (h : ∀ k, k < n → ∀ a, (f k a).1 = a.1 + c k) (a : Nat × Nat) : (it f n a).1 = a.1 + sumN c n := by
  induction n with
  | zero => rfl
  | succ n ih => rw [it, h n (by omega), ih fun k hk => h k (by omega), sumN]; omega
theorem sumN_add (f g : Nat → Nat) (n : Nat) : sumN (fun i => f i + g i) n = sumN f n + sumN g n := by
  induction n with
  | zero => rfl
  | succ n ih => rw [sumN, sumN, sumN, ih]; omega
/-- What Size comes to. -/
theorem vis_size {n : Nat} {x : Tr} (h : Sm (2 * n) x) (D : Nat) (a : Nat × Nat) : (visN (fun y _ b => b + ownW y) n x D a).1 = a.1 + wds true x := by
  induction n generalizing x D a with
  | zero => exact absurd h (by simp [Sm])
  | succ n ih =>
    rw [visN, it_add (c := fun i => sumN (fun j => wds true ((x.kf i).kf j)) (x.kf i).kl) (fun i hi a => it_add (fun j hj a => ih ((h.kid hi).kid hj) _ _) a)]
    rw [wds_true, ownW]
    have e : sumN (fun i => wds false (x.kf i)) x.kl = sumN (fun i => (cnt (x.kf i).bs.size + (x.kf i).nl) + sumN (fun j => wds true ((x.kf i).kf j)) (x.kf i).kl) x.kl := sumN_congr fun i _ => wds_false _
    rw [e, sumN_add (fun i => cnt (x.kf i).bs.size + (x.kf i).nl) (fun i => sumN (fun j => wds true ((x.kf i).kf j)) (x.kf i).kl)]
    simp only
    omega
theorem it_max {f : Nat → Nat × Nat → Nat × Nat} {c : Nat → Nat} {n : Nat} (h : ∀ k, k < n → ∀ a, (f k a).1 = max a.1 (c k)) (a : Nat × Nat) : (it f n a).1 = max a.1 (maxN c n) := by
  induction n with
  | zero => simp [it, maxN]
  | succ n ih => rw [it, h n (by omega), ih fun k hk => h k (by omega), maxN]; omega
theorem maxN_shift (f : Nat → Nat) (D n : Nat) : maxN (fun i => if f i = 0 then 0 else D + f i) n = if maxN f n = 0 then 0 else D + maxN f n := by
  induction n with
  | zero => rfl
  | succ n ih =>
    rw [maxN, maxN, ih]
    by_cases h1 : maxN f n = 0
    · by_cases h2 : f n = 0
      · simp [h1, h2]
      · simp [h1, h2]
    · by_cases h2 : f n = 0
      · simp [h1, h2]
      · have : ¬ max (maxN f n) (f n) = 0 := by omega
        rw [if_neg h1, if_neg h2, if_neg this]
        omega
theorem maxN_congr {f g : Nat → Nat} {n : Nat} (h : ∀ i, i < n → f i = g i) : maxN f n = maxN g n := by
  induction n with
  | zero => rfl
  | succ n ih => rw [maxN, maxN, ih fun i hi => h i (by omega), h n (by omega)]
/-- What Deep comes to. -/
theorem vis_deep {n : Nat} {x : Tr} (h : Sm (2 * n) x) (D : Nat) (a : Nat × Nat) : (visN (fun _ D b => max b D) n x D a).1 = max a.1 (D + dp true x - 1) := by
  induction n generalizing x D a with
  | zero => exact absurd h (by simp [Sm])
  | succ n ih =>
    have hp : ∀ y : Tr, 1 ≤ dp true y := fun y => by rw [dp_true]; omega
    rw [visN, it_max (c := fun i => maxN (fun j => D + dp true ((x.kf i).kf j)) (x.kf i).kl) (fun i hi a => by
      rw [it_max (c := fun j => D + dp true ((x.kf i).kf j)) (fun j hj a => by
        have e := ih ((h.kid hi).kid hj) (D + 1) a
        have := hp ((x.kf i).kf j)
        show (visN (fun _ D b => max b D) n ((x.kf i).kf j) (D + 1) a).1 = max a.1 (D + dp true ((x.kf i).kf j))
        rw [e]; omega)])]
    have e1 : maxN (fun i => maxN (fun j => D + dp true ((x.kf i).kf j)) (x.kf i).kl) x.kl = maxN (fun i => if dp false (x.kf i) = 0 then 0 else D + dp false (x.kf i)) x.kl := maxN_congr fun i _ => by
      rw [dp_false, ← maxN_shift]
      exact maxN_congr fun j _ => by have := hp ((x.kf i).kf j); rw [if_neg (by omega)]
    rw [e1, maxN_shift, dp_true]
    simp only
    by_cases h0 : maxN (fun i => dp false (x.kf i)) x.kl = 0
    · rw [if_pos h0, h0]; omega
    · rw [if_neg h0]; omega

/-- No block of what was there has changed, but those of Q. -/
structure ButP (Q : Nat → Prop) (w w' : World) : Prop where
  os : w'.os = w.os
  tape : w'.tape = w.tape
  output : w'.output = w.output
  size : w.heap.size ≤ w'.heap.size
  block : ∀ k, k < w.heap.size → ¬ Q k → w'.heap[k]? = w.heap[k]?
theorem ButP.refl (Q : Nat → Prop) (w : World) : ButP Q w w := ⟨rfl, rfl, rfl, Nat.le_refl _, fun _ _ _ => rfl⟩
theorem ButP.trans {Q : Nat → Prop} {a b d : World} (h : ButP Q a b) (k : ButP Q b d) : ButP Q a d :=
  ⟨k.os.trans h.os, k.tape.trans h.tape, k.output.trans h.output, Nat.le_trans h.size k.size, fun i hi h1 => (k.block i (Nat.lt_of_lt_of_le hi h.size) h1).trans (h.block i hi h1)⟩
theorem ButP.of_below {Q : Nat → Prop} {a b : World} (h : Below a.heap.size a b) : ButP Q a b := ⟨h.os, h.tape, h.output, h.size, fun i hi _ => h.block i hi⟩
theorem ButP.set {Q : Nat → Prop} {a b : World} (h : ButP Q a b) {p : Addr} (hp : Q p.block) (u : Value) : ButP Q a (b.setCell p u) := by
  have h1 := (Below.refl 0 b).setCell (p := p) (Nat.zero_le _) u
  refine ⟨h1.os.trans h.os, h1.tape.trans h.tape, h1.output.trans h.output, Nat.le_trans h.size h1.size, fun i hi e1 => ?_⟩
  rw [Below.heap_setCell b p u i (fun e => e1 (e ▸ hp))]
  exact h.block i hi e1
theorem ButP.below {Q : Nat → Prop} {B : Nat} {a b : World} (h : ButP Q a b) (hB : B ≤ a.heap.size) (h1 : ∀ k, k < B → ¬ Q k) : Below B a b := ⟨h.os, h.tape, h.output, h.size, fun i hi => h.block i (by omega) (h1 i hi)⟩
theorem TAt.butP {Q : Nat → Prop} {W W' : World} {x : Tr} {An Ak : Option Addr} (h : TAt W (fun b => ¬ Q b) x An Ak) (hb : ButP Q W W') : TAt W' (fun b => ¬ Q b) x An Ak := h.keep (fun b hP hl => hb.block b hl hP) (fun _ h _ => h) hb.size

theorem count_any (n : Nat) (hn : n ≤ 1000) (w : World) : Calls Tryd.prog 158 #[.int .i64 (n : Int)] w fun e w' => e = .returned (.int .i64 ((cnt n : Nat) : Int)) ∧ w = w' := by
  by_cases h : n = 0
  · subst h
    go_enter Tryd.func158, Tryd.ntmps158
    go_wp2
    go_ret
    exact ⟨rfl, rfl⟩
  · have d0 : decide ((n : Int) ≤ 0) = false := by simp; omega
    have d1 : decide (n = 0) = false := by simp; omega
    go_enter Tryd.func158, Tryd.ntmps158
    go_wp2
    go_ret
    refine ⟨?_, rfl⟩
    have e : ((n : Int) - 1) / 8 + 1 = ((cnt n : Nat) : Int) := by unfold cnt; omega
    rw [← e]; rfl
theorem rcount_any (n : Nat) (hn : n ≤ 1000) (w : World) : Calls Tryd.prog 115 #[.int .i64 (n : Int)] w fun e w' => e = .returned (.int .i64 ((cnt n : Nat) : Int)) ∧ w = w' := by
  by_cases h : n = 0
  · subst h
    go_enter Tryd.func115, Tryd.ntmps115
    go_wp2
    go_ret
    exact ⟨rfl, rfl⟩
  · have d0 : decide ((n : Int) ≤ 0) = false := by simp; omega
    have d1 : decide (n = 0) = false := by simp; omega
    go_enter Tryd.func115, Tryd.ntmps115
    go_wp2
    go_ret
    refine ⟨?_, rfl⟩
    have e : ((n : Int) - 1) / 8 + 1 = ((cnt n : Nat) : Int) := by unfold cnt; omega
    rw [← e]; rfl


end Go.Proofs.YtkhbhkllnigbgaaDoor
