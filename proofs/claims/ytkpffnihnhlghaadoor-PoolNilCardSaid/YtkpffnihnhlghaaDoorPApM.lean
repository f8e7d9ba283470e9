/- How often each word is covered by the things of a right config: once. -/
import Derived.Test.YtkpffnihnhlghaaDoorPLawPlaces
namespace Go.Proofs.YtkpffnihnhlghaaDoor
open Go.RowKit
/-- Is j from a on, ahead of b? -/
def ind (a b j : Int) : Int := if a ≤ j ∧ j < b then 1 else 0
theorem ind_add {a b c : Int} (h1 : a ≤ b) (h2 : b ≤ c) (j : Int) : ind a b j + ind b c j = ind a c j := by
  unfold ind
  by_cases p : a ≤ j ∧ j < b
  · rw [if_pos p, if_neg (by omega), if_pos (by omega)]; rfl
  · rw [if_neg p]
    by_cases q : b ≤ j ∧ j < c
    · rw [if_pos q, if_pos (by omega)]; rfl
    · rw [if_neg q, if_neg (by omega)]; rfl
theorem ind_self (a j : Int) : ind a a j = 0 := by unfold ind; rw [if_neg (by omega)]

/-- How many of these rows cover j. -/
def cnt : List (Int × Int) → Int → Int
  | [], _ => 0
  | p :: L, j => ind p.1 (p.1 + p.2) j + cnt L j
theorem cnt_append (L M : List (Int × Int)) (j : Int) : cnt (L ++ M) j = cnt L j + cnt M j := by
  induction L with
  | nil => simp [cnt]
  | cons p L ih => rw [List.cons_append, cnt, cnt, ih]; omega

def L0 : List (Int × Int) := [(0, 1), (1, 1), (2, 1), (3, 1), (4, 1)]
def slotsL (x : Cfg) (k : Nat) : List (Int × Int) := (List.range k).map fun (i : Nat) => (slotC x (i : Int), 1)
def four (x : Cfg) (i : Int) : List (Int × Int) := [(entryC x i, 1), (controlC x i, 1), (bufC x i 0, x.s), (bufC x i 1, x.s)]
def topicsL (x : Cfg) (k : Nat) : List (Int × Int) := (List.range k).flatMap fun (i : Nat) => four x (i : Int)
def szC (x : Cfg) (b : Int) : Int := if b < 1 + x.n0 then x.s0 else x.s1
def blocksL (x : Cfg) (k : Nat) : List (Int × Int) := (List.range k).map fun (i : Nat) => (blockC x ((i : Int) + 1), 1 + szC x ((i : Int) + 1))
theorem slotsL_succ (x : Cfg) (k : Nat) : slotsL x (k + 1) = slotsL x k ++ [(slotC x (k : Int), 1)] := by simp [slotsL, List.range_succ]
theorem topicsL_succ (x : Cfg) (k : Nat) : topicsL x (k + 1) = topicsL x k ++ four x (k : Int) := by simp [topicsL, List.range_succ]
theorem blocksL_succ (x : Cfg) (k : Nat) : blocksL x (k + 1) = blocksL x k ++ [(blockC x ((k : Int) + 1), 1 + szC x ((k : Int) + 1))] := by simp [blocksL, List.range_succ]

theorem slot_in {x : Cfg} {k : Int} (h0 : 0 ≤ k) (h1 : k < x.l) : slotC x k = 5 + k := by rw [slotC, place, if_neg (by omega), Int.mul_one]
theorem entry_in {x : Cfg} {k : Int} (h0 : 0 ≤ k) (h1 : k < x.t) : entryC x k = bE x + k := by rw [entryC, place, if_neg (by omega), Int.mul_one]
theorem control_in {x : Cfg} {k : Int} (h0 : 0 ≤ k) (h1 : k < x.t) : controlC x k = bC x + k * (1 + 2 * x.s) := by rw [controlC, place, if_neg (by omega)]
theorem buf_in {x : Cfg} (hr : Right x) {k : Int} (h0 : 0 ≤ k) (h1 : k < x.t) (m : Int) (hm : m = 0 ∨ m = 1) : bufC x k m = bC x + k * (1 + 2 * x.s) + 1 + m * x.s := by
  have hs := hr.sizes
  have hb := hr.b
  have a1 : 0 ≤ k * (1 + 2 * x.s) := Int.mul_nonneg h0 (by omega)
  rw [bufC, control_in h0 h1, if_neg (by omega)]

theorem cnt_L0 (j : Int) : cnt L0 j = ind 0 5 j := by
  simp only [L0, cnt]
  have e1 := ind_add (a := 0) (b := 1) (c := 2) (by omega) (by omega) j
  have e2 := ind_add (a := 0) (b := 2) (c := 3) (by omega) (by omega) j
  have e3 := ind_add (a := 0) (b := 3) (c := 4) (by omega) (by omega) j
  have e4 := ind_add (a := 0) (b := 4) (c := 5) (by omega) (by omega) j
  simp only [Int.zero_add, Int.add_zero, show (1 : Int) + 1 = 2 from rfl, show (2 : Int) + 1 = 3 from rfl, show (3 : Int) + 1 = 4 from rfl, show (4 : Int) + 1 = 5 from rfl]
  omega
theorem cnt_slots (x : Cfg) (j : Int) (k : Nat) : (k : Int) ≤ x.l → cnt (slotsL x k) j = ind 5 (5 + k) j := by
  induction k with
  | zero => intro _; simp [slotsL, cnt, ind_self]
  | succ k ih =>
    intro h
    rw [slotsL_succ, cnt_append, ih (by omega), cnt, cnt, slot_in (by omega) (by omega)]
    have e := ind_add (a := 5) (b := 5 + (k : Int)) (c := 5 + (k : Int) + 1) (by omega) (by omega) j
    rw [show (5 : Int) + ((k + 1 : Nat) : Int) = 5 + (k : Int) + 1 by omega, ← e]
    simp only
    omega
theorem cnt_topics {x : Cfg} (hr : Right x) (j : Int) (k : Nat) : (k : Int) ≤ x.t → cnt (topicsL x k) j = ind (bE x) (bE x + k) j + ind (bC x) (bC x + k * (1 + 2 * x.s)) j := by
  have hb := hr.b
  induction k with
  | zero => intro _; simp [topicsL, cnt, ind_self]
  | succ k ih =>
    intro h
    have hk0 : (0 : Int) ≤ (k : Int) := by omega
    have hk1 : (k : Int) < x.t := by omega
    rw [topicsL_succ, cnt_append, ih (by omega)]
    simp only [four, cnt, entry_in hk0 hk1, control_in hk0 hk1, buf_in hr hk0 hk1 0 (.inl rfl), buf_in hr hk0 hk1 1 (.inr rfl), Int.zero_mul, Int.one_mul, Int.add_zero]
    have m0 : 0 ≤ (k : Int) * (1 + 2 * x.s) := Int.mul_nonneg hk0 (by omega)
    have hm : ((k + 1 : Nat) : Int) * (1 + 2 * x.s) = (k : Int) * (1 + 2 * x.s) + (1 + 2 * x.s) := by rw [show ((k + 1 : Nat) : Int) = (k : Int) + 1 by omega, Int.add_mul, Int.one_mul]
    rw [hm]
    generalize (k : Int) * (1 + 2 * x.s) = M at m0 ⊢
    have e0 := ind_add (a := bE x) (b := bE x + (k : Int)) (c := bE x + (k : Int) + 1) (by omega) (by omega) j
    have e1 := ind_add (a := bC x) (b := bC x + M) (c := bC x + M + 1) (by omega) (by omega) j
    have e2 := ind_add (a := bC x) (b := bC x + M + 1) (c := bC x + M + 1 + x.s) (by omega) (by omega) j
    have e3 := ind_add (a := bC x) (b := bC x + M + 1 + x.s) (c := bC x + M + 1 + x.s + x.s) (by omega) (by omega) j
    rw [show bE x + ((k + 1 : Nat) : Int) = bE x + (k : Int) + 1 by omega, show bC x + (M + (1 + 2 * x.s)) = bC x + M + 1 + x.s + x.s by omega]
    omega
/-- Where the first k blocks end. -/
def bEnd (x : Cfg) (k : Int) : Int := if k ≤ x.n0 then bB x + k * (1 + x.s0) else bB1 x + (k - x.n0) * (1 + x.s1)
theorem bEnd_block {x : Cfg} (k : Int) (h0 : 0 ≤ k) (h1 : k + 1 ≤ x.n0 + x.n1) : blockC x (k + 1) = bEnd x k := by
  rw [blockC, if_neg (by omega), bEnd]
  by_cases h : k + 1 < 1 + x.n0
  · rw [if_pos h, if_pos (by omega), show k + 1 - 1 = k by omega]
  · rw [if_neg h]
    by_cases g : k ≤ x.n0
    · have : k = x.n0 := by omega
      rw [if_pos g, this, show x.n0 + 1 - (1 + x.n0) = 0 by omega, Int.zero_mul, Int.add_zero, bB1]
    · rw [if_neg g, show k + 1 - (1 + x.n0) = k - x.n0 by omega]
theorem bEnd_succ {x : Cfg} (k : Int) : bEnd x (k + 1) = bEnd x k + (1 + szC x (k + 1)) := by
  unfold bEnd szC
  by_cases h : k + 1 ≤ x.n0
  · rw [if_pos h, if_pos (by omega), if_pos (by omega), Int.add_mul, Int.one_mul]; omega
  · rw [if_neg h, if_neg (by omega : ¬ k + 1 < 1 + x.n0)]
    by_cases g : k ≤ x.n0
    · have : k = x.n0 := by omega
      rw [if_pos g, this, show x.n0 + 1 - x.n0 = 1 by omega, Int.one_mul, bB1]
    · rw [if_neg g, show k + 1 - x.n0 = k - x.n0 + 1 by omega, Int.add_mul, Int.one_mul]; omega
theorem bEnd_zero {x : Cfg} (h : 0 ≤ x.n0) : bEnd x 0 = bB x := by rw [bEnd, if_pos h, Int.zero_mul, Int.add_zero]
theorem bEnd_all {x : Cfg} (h : 0 ≤ x.n1) : bEnd x (x.n0 + x.n1) = sizeC x := by
  unfold bEnd sizeC
  by_cases g : x.n0 + x.n1 ≤ x.n0
  · have : x.n1 = 0 := by omega
    rw [if_pos g, this, Int.add_zero, Int.zero_mul, Int.add_zero, bB1]
  · rw [if_neg g, show x.n0 + x.n1 - x.n0 = x.n1 by omega]
theorem sz_nonneg {x : Cfg} (hr : Right x) (b : Int) : 4 ≤ szC x b ∧ szC x b ≤ 96 := by
  have := hr.b
  unfold szC
  split <;> omega
theorem bEnd_mono {x : Cfg} (hr : Right x) (k : Nat) : bB x ≤ bEnd x (k : Int) := by
  induction k with
  | zero => have := hr.b; rw [show ((0 : Nat) : Int) = 0 from rfl, bEnd_zero (by omega)]; omega
  | succ k ih =>
    have := sz_nonneg hr ((k : Int) + 1)
    rw [show ((k + 1 : Nat) : Int) = (k : Int) + 1 by omega, bEnd_succ]
    omega
theorem bEnd_le {x : Cfg} (hr : Right x) (k : Nat) (m : Nat) : bEnd x (k : Int) ≤ bEnd x ((k + m : Nat) : Int) := by
  induction m with
  | zero => simp
  | succ m ih =>
    have := sz_nonneg hr (((k + m : Nat) : Int) + 1)
    rw [show ((k + (m + 1) : Nat) : Int) = ((k + m : Nat) : Int) + 1 by omega, bEnd_succ]
    omega
theorem cnt_blocks {x : Cfg} (hr : Right x) (j : Int) (k : Nat) : (k : Int) ≤ x.n0 + x.n1 → cnt (blocksL x k) j = ind (bB x) (bEnd x k) j := by
  have hb := hr.b
  induction k with
  | zero => intro _; rw [show ((0 : Nat) : Int) = 0 from rfl, bEnd_zero (by omega)]; simp [blocksL, cnt, ind_self]
  | succ k ih =>
    intro h
    have h1 := bEnd_mono hr k
    have h2 := sz_nonneg hr ((k : Int) + 1)
    rw [blocksL_succ, cnt_append, ih (by omega), cnt, cnt, bEnd_block _ (by omega) (by omega), show ((k + 1 : Nat) : Int) = (k : Int) + 1 by omega, bEnd_succ]
    have e := ind_add (a := bB x) (b := bEnd x (k : Int)) (c := bEnd x (k : Int) + (1 + szC x ((k : Int) + 1))) (by omega) (by omega) j
    simp only
    omega

/-- All rows of a right config. -/
def allL (x : Cfg) : List (Int × Int) := L0 ++ slotsL x x.l.toNat ++ topicsL x x.t.toNat ++ blocksL x (x.n0 + x.n1).toNat
theorem cnt_all {x : Cfg} (hr : Right x) (j : Int) (h0 : 0 ≤ j) (h1 : j < sizeC x) : cnt (allL x) j = 1 := by
  have hb := hr.b
  have hs := hr.sizes
  have e1 : ((x.l.toNat : Nat) : Int) = x.l := by omega
  have e2 : ((x.t.toNat : Nat) : Int) = x.t := by omega
  have e3 : (((x.n0 + x.n1).toNat : Nat) : Int) = x.n0 + x.n1 := by omega
  rw [allL, cnt_append, cnt_append, cnt_append, cnt_L0, cnt_slots x j _ (by omega), cnt_topics hr j _ (by omega), cnt_blocks hr j _ (by omega), e1, e2, e3, bEnd_all (by omega)]
  have f1 := ind_add (a := 0) (b := 5) (c := 5 + x.l) (by omega) (by omega) j
  have f2 := ind_add (a := 0) (b := bE x) (c := bE x + x.t) (by omega) (by omega) j
  have f3 := ind_add (a := 0) (b := bC x) (c := bC x + x.t * (1 + 2 * x.s)) (by omega) (by have : bB x = bC x + x.t * (1 + 2 * x.s) := rfl; omega) j
  have f4 := ind_add (a := 0) (b := bB x) (c := sizeC x) (by omega) (by omega) j
  have g1 : 5 + x.l = bE x := rfl
  have g2 : bE x + x.t = bC x := rfl
  have g3 : bC x + x.t * (1 + 2 * x.s) = bB x := rfl
  rw [g1] at f1 ⊢
  rw [g2] at f2 ⊢
  rw [g3] at f3 ⊢
  have f5 : ind 0 (sizeC x) j = 1 := by rw [ind, if_pos ⟨h0, h1⟩]
  omega

/-- No row is outside. -/
def inside (n : Int) (p : Int × Int) : Prop := 0 ≤ p.1 ∧ 0 ≤ p.2 ∧ p.1 + p.2 ≤ n
theorem all_inside {x : Cfg} (hr : Right x) (p : Int × Int) (hp : p ∈ allL x) : inside (sizeC x) p := by
  have hb := hr.b
  have hs := hr.sizes
  unfold inside
  simp only [allL, List.mem_append] at hp
  rcases hp with ((hp | hp) | hp) | hp
  · simp only [L0, List.mem_cons, List.mem_nil_iff, or_false] at hp
    rcases hp with rfl | rfl | rfl | rfl | rfl <;> (simp only; omega)
  · simp only [slotsL, List.mem_map, List.mem_range] at hp
    obtain ⟨i, hi, rfl⟩ := hp
    have e : 5 + x.l = bE x := rfl
    have e' : bE x + x.t = bC x := rfl
    simp only [slot_in (x := x) (k := (i : Int)) (by omega) (by omega)]
    omega
  · simp only [topicsL, List.mem_flatMap, List.mem_range] at hp
    obtain ⟨i, hi, hp⟩ := hp
    have hk0 : (0 : Int) ≤ (i : Int) := by omega
    have hk1 : (i : Int) < x.t := by omega
    have m0 : 0 ≤ (i : Int) * (1 + 2 * x.s) := Int.mul_nonneg hk0 (by omega)
    have m1 : ((i : Int) + 1) * (1 + 2 * x.s) ≤ x.t * (1 + 2 * x.s) := Int.mul_le_mul_of_nonneg_right (by omega) (by omega)
    rw [Int.add_mul, Int.one_mul] at m1
    have e : bC x + x.t * (1 + 2 * x.s) = bB x := rfl
    have e' : bE x + x.t = bC x := rfl
    simp only [four, List.mem_cons, List.mem_nil_iff, or_false, entry_in hk0 hk1, control_in hk0 hk1, buf_in hr hk0 hk1 0 (.inl rfl), buf_in hr hk0 hk1 1 (.inr rfl), Int.zero_mul, Int.one_mul] at hp
    rcases hp with rfl | rfl | rfl | rfl <;> (simp only; omega)
  · simp only [blocksL, List.mem_map, List.mem_range] at hp
    obtain ⟨i, hi, rfl⟩ := hp
    have h1 := bEnd_mono hr i
    have h2 := sz_nonneg hr ((i : Int) + 1)
    have h3 := bEnd_le hr (i + 1) ((x.n0 + x.n1).toNat - (i + 1))
    rw [show ((i + 1 + ((x.n0 + x.n1).toNat - (i + 1)) : Nat) : Int) = x.n0 + x.n1 by omega, bEnd_all (by omega), show ((i + 1 : Nat) : Int) = (i : Int) + 1 by omega, bEnd_succ] at h3
    simp only [bEnd_block (x := x) (i : Int) (by omega) (by omega)]
    omega

end Go.Proofs.YtkpffnihnhlghaaDoor
