/- An arena's first words, by definition. -/
import Derived.Test.YtkpffnihnhlghaaDoorPApM
import Derived.Test.YtkpffnihnhlghaaDoorSt
namespace Go.Proofs.YtkpffnihnhlghaaDoor
open Go.RowKit
/-- Where a block's head lies. -/
def adr (x : Cfg) (b : Nat) : Nat := (blockC x (b : Int)).toNat
/-- Of the first k blocks, those that are on the list lead to the next one. -/
def bw (x : Cfg) (P : Nat → Bool) : Nat → Nat → Int
  | 0, _ => 0
  | b + 1, j => if j = adr x (b + 1) ∧ P (b + 1) = true then (b : Int) + 2 else bw x P b j
theorem bw_congr {x : Cfg} {P Q : Nat → Bool} {k : Nat} (h : ∀ b, 1 ≤ b → b ≤ k → P b = Q b) (j : Nat) : bw x P k j = bw x Q k j := by
  induction k with
  | zero => rfl
  | succ k ih => rw [bw, bw, h (k + 1) (by omega) (by omega), ih fun b h1 h2 => h b h1 (by omega)]
theorem bw_set {x : Cfg} {P Q : Nat → Bool} {k m : Nat} (hm : 1 ≤ m) (hk : m ≤ k) (hQ : Q m = true) (hP : P m = false) (h : ∀ b, 1 ≤ b → b ≤ k → b ≠ m → Q b = P b)
    (hinj : ∀ b, 1 ≤ b → b ≤ k → b ≠ m → adr x b ≠ adr x m) (j : Nat) : bw x Q k j = if j = adr x m then (m : Int) + 1 else bw x P k j := by
  induction k with
  | zero => omega
  | succ k ih =>
    by_cases e : k + 1 = m
    · subst e
      rw [bw, bw, hQ, hP, bw_congr (Q := P) fun b h1 h2 => h b h1 (by omega) (by omega)]
      by_cases g : j = adr x (k + 1)
      · rw [if_pos ⟨g, rfl⟩, if_pos g]; omega
      · rw [if_neg (fun q => g q.1), if_neg g, if_neg (fun q => g q.1)]
    · rw [bw, bw, h (k + 1) (by omega) (by omega) e, ih (by omega) (fun b h1 h2 => h b h1 (by omega)) (fun b h1 h2 => hinj b h1 (by omega))]
      by_cases g : j = adr x (k + 1) ∧ P (k + 1) = true
      · have := hinj (k + 1) (by omega) (by omega) e
        rw [if_pos g, if_neg (by omega), if_pos g]
      · rw [if_neg g, if_neg g]
theorem bw_range {x : Cfg} (P : Nat → Bool) (k j : Nat) : 0 ≤ bw x P k j ∧ bw x P k j ≤ (k : Int) + 1 := by
  induction k with
  | zero => simp [bw]
  | succ k ih => rw [bw]; split <;> omega

/-- An arena's words: is the first class's head set, the second one's; which blocks lead to the next one. -/
def fw (x : Cfg) (p3 p4 : Bool) (P : Nat → Bool) (j : Nat) : Int :=
  if j = 0 then 7597137583116413295 else if j = 1 then (packN x : Int) else if j = 2 then 0 else if j = 3 then (if p3 = true then 1 else 0) else if j = 4 then (if p4 = true then x.n0 + 1 else 0) else bw x P (x.n0 + x.n1).toNat j
theorem adr_low {x : Cfg} (hr : Right x) (b : Nat) (h1 : 1 ≤ b) (h2 : (b : Int) ≤ x.n0 + x.n1) : 7 ≤ adr x b ∧ (adr x b : Int) = blockC x b ∧ (adr x b : Int) < sizeC x := by
  have h := blockC_bound hr (k := (b : Int)) (by omega) h2
  refine ⟨by unfold adr; omega, by unfold adr; omega, ?_⟩
  have hb := hr.b
  have e := bEnd_block (x := x) ((b : Int) - 1) (by omega) (by omega)
  rw [show (b : Int) - 1 + 1 = b by omega] at e
  have s := bEnd_succ (x := x) ((b : Int) - 1)
  have sz := sz_nonneg hr ((b : Int) - 1 + 1)
  have l := bEnd_le hr b ((x.n0 + x.n1).toNat - b)
  rw [show ((b + ((x.n0 + x.n1).toNat - b) : Nat) : Int) = x.n0 + x.n1 by omega, bEnd_all (by omega)] at l
  rw [show (b : Int) - 1 + 1 = b by omega] at s sz
  unfold adr
  omega
theorem adr_inj {x : Cfg} (hr : Right x) (a b : Nat) (h1 : 1 ≤ a) (h2 : a < b) (h3 : (b : Int) ≤ x.n0 + x.n1) : adr x a ≠ adr x b := by
  have e := bEnd_block (x := x) ((a : Int) - 1) (by omega) (by omega)
  have s := bEnd_succ (x := x) ((a : Int) - 1)
  rw [show (a : Int) - 1 + 1 = a by omega] at e s
  have sz := sz_nonneg hr (a : Int)
  have e2 := bEnd_block (x := x) ((b : Int) - 1) (by omega) (by omega)
  rw [show (b : Int) - 1 + 1 = b by omega] at e2
  have l := bEnd_le hr a (b - 1 - a)
  rw [show ((a + (b - 1 - a) : Nat) : Int) = (b : Int) - 1 by omega] at l
  have ha := adr_low hr a h1 (by omega)
  have hb := adr_low hr b (by omega) h3
  omega
theorem fw_3 (x : Cfg) (p4 : Bool) (P : Nat → Bool) (j : Nat) : fw x true p4 P j = put (fw x false p4 P) 3 1 j := by
  unfold put fw
  by_cases e : j = 3
  · subst e; simp
  · rw [if_neg e, if_neg e, if_neg e]
theorem fw_4 (x : Cfg) (p3 : Bool) (P : Nat → Bool) (j : Nat) : fw x p3 true P j = put (fw x p3 false P) 4 (x.n0 + 1) j := by
  unfold put fw
  by_cases e : j = 4
  · subst e; simp
  · rw [if_neg e, if_neg e, if_neg e]
theorem fw_b {x : Cfg} (hr : Right x) (p3 p4 : Bool) {P Q : Nat → Bool} {m : Nat} (hm : 1 ≤ m) (hk : (m : Int) ≤ x.n0 + x.n1) (hQ : Q m = true) (hP : P m = false) (h : ∀ b : Nat, 1 ≤ b → (b : Int) ≤ x.n0 + x.n1 → b ≠ m → Q b = P b) (j : Nat) :
    fw x p3 p4 Q j = put (fw x p3 p4 P) (adr x m) ((m : Int) + 1) j := by
  have ha := adr_low hr m hm hk
  have hb := hr.b
  have e := bw_set (x := x) (k := (x.n0 + x.n1).toNat) hm (by omega) hQ hP (fun b h1 h2 => h b h1 (by omega)) (fun b h1 h2 h3 => by
    rcases Nat.lt_or_gt_of_ne h3 with g | g
    · exact adr_inj hr b m h1 g hk
    · exact (adr_inj hr m b hm g (by omega)).symm) j
  unfold put fw
  rw [e]
  by_cases g : j = adr x m
  · rw [if_pos g, if_pos g, if_neg (by omega), if_neg (by omega), if_neg (by omega), if_neg (by omega), if_neg (by omega)]
  · rw [if_neg g, if_neg g]
theorem fw_congr {x : Cfg} (hr : Right x) {p3 p4 q3 q4 : Bool} {P Q : Nat → Bool} (h3 : p3 = q3) (h4 : p4 = q4) (h : ∀ b : Nat, 1 ≤ b → (b : Int) ≤ x.n0 + x.n1 → P b = Q b) (j : Nat) : fw x p3 p4 P j = fw x q3 q4 Q j := by
  have hb := hr.b
  subst h3 h4
  unfold fw
  rw [bw_congr (Q := Q) fun b h1 h2 => h b h1 (by omega)]
theorem fw_zero {x : Cfg} (j : Nat) : fw x false false (fun _ => false) j = put (put (fun _ => 0) 0 7597137583116413295) 1 (packN x) j := by
  have e : ∀ k, bw x (fun _ => false) k j = 0 := fun k => by
    induction k with
    | zero => rfl
    | succ k ih => rw [bw, ih]; simp
  unfold fw put
  rw [e]
  by_cases h0 : j = 0
  · subst h0; simp
  · by_cases h1 : j = 1
    · subst h1; simp
    · simp [h0, h1]
/-- The words of a made arena. -/
def wordsC (x : Cfg) : Nat → Int := fw x (decide (0 < x.n0)) (decide (0 < x.n1)) (fun b => decide ((b : Int) ≠ x.n0) && decide ((b : Int) < x.n0 + x.n1))
theorem fw_range {x : Cfg} (hr : Right x) (p3 p4 : Bool) (P : Nat → Bool) (j : Nat) : 0 ≤ fw x p3 p4 P j ∧ fw x p3 p4 P j < 18446744073709551616 := by
  have hb := hr.b
  have hp := pack_lt hr
  have hw := bw_range (x := x) P (x.n0 + x.n1).toNat j
  unfold fw
  repeat' split
  all_goals omega
theorem words_0 (x : Cfg) : wordsC x 0 = 7597137583116413295 := by simp [wordsC, fw]
theorem words_1 (x : Cfg) : wordsC x 1 = packN x := by simp [wordsC, fw]
/-- How many of the first k words are not 0. -/
def nz (f : Nat → Int) : Nat → Int
  | 0 => 0
  | k + 1 => nz f k + if f k = 0 then 0 else 1
theorem nz_bound (f : Nat → Int) (k : Nat) : 0 ≤ nz f k ∧ nz f k ≤ k := by
  induction k with
  | zero => simp [nz]
  | succ k ih => rw [nz]; split <;> omega

/-- The first class's blocks, the first i of them; the second one's. -/
def P0 (i : Nat) : Nat → Bool := fun b => decide (b < i)
def P1 (x : Cfg) (i : Nat) : Nat → Bool := fun b => decide ((b : Int) < x.n0) || (decide (x.n0 < (b : Int)) && decide ((b : Int) < x.n0 + i))
def ld0 (x : Cfg) (i : Nat) : Nat := if i = 0 then 3 else adr x i
def ld1 (x : Cfg) (i : Nat) : Nat := if i = 0 then 4 else adr x (x.n0.toNat + i)
theorem step0 {x : Cfg} (hr : Right x) (i : Nat) (hi : (i : Int) < x.n0) (j : Nat) : fw x (decide (0 < i + 1)) false (P0 (i + 1)) j = put (fw x (decide (0 < i)) false (P0 i)) (ld0 x i) (1 + (i : Int)) j := by
  have hb := hr.b
  unfold ld0
  by_cases e : i = 0
  · subst e
    rw [if_pos rfl, show decide (0 < 0 + 1) = true from rfl, show decide (0 < 0) = false from rfl, show (1 : Int) + ((0 : Nat) : Int) = 1 from rfl, ← fw_3]
    exact fw_congr hr rfl rfl (fun b h1 _ => by simp [P0]; omega) j
  · rw [if_neg e, show decide (0 < i + 1) = decide (0 < i) by simp; omega, fw_b hr _ _ (m := i) (Q := P0 (i + 1)) (P := P0 i) (by omega) (by omega) (by simp [P0]) (by simp [P0]) (fun b _ _ h => by simp [P0]; omega) j, Int.add_comm]
theorem step1 {x : Cfg} (hr : Right x) (p3 : Bool) (i : Nat) (hi : (i : Int) < x.n1) (j : Nat) : fw x p3 (decide (0 < i + 1)) (P1 x (i + 1)) j = put (fw x p3 (decide (0 < i)) (P1 x i)) (ld1 x i) (1 + x.n0 + (i : Int)) j := by
  have hb := hr.b
  unfold ld1
  by_cases e : i = 0
  · subst e
    rw [if_pos rfl, show decide (0 < 0 + 1) = true from rfl, show decide (0 < 0) = false from rfl, show 1 + x.n0 + ((0 : Nat) : Int) = x.n0 + 1 by omega, ← fw_4]
    exact fw_congr hr rfl rfl (fun b h1 _ => by
      unfold P1
      rw [Bool.eq_iff_iff]
      simp
      omega) j
  · have hm : ((x.n0.toNat + i : Nat) : Int) = x.n0 + i := by omega
    rw [if_neg e, show decide (0 < i + 1) = decide (0 < i) by simp; omega, fw_b hr _ _ (m := x.n0.toNat + i) (Q := P1 x (i + 1)) (P := P1 x i) (by omega) (by omega) (by simp [P1]; omega) (by simp [P1]; omega) (fun b _ _ h => by
      unfold P1
      rw [Bool.eq_iff_iff]
      simp
      omega) j, hm, show x.n0 + (i : Int) + 1 = 1 + x.n0 + (i : Int) by omega]
theorem start1 {x : Cfg} (hr : Right x) (p3 : Bool) (i : Nat) (hi : (i : Int) = x.n0) (j : Nat) : fw x p3 false (P1 x 0) j = fw x p3 false (P0 i) j := by
  have hb := hr.b
  exact fw_congr hr rfl rfl (fun b _ _ => by
    unfold P1 P0
    rw [Bool.eq_iff_iff]
    simp
    omega) j
theorem end1 {x : Cfg} (hr : Right x) (i : Nat) (hi : (i : Int) = x.n1) (j : Nat) : wordsC x j = fw x (decide (0 < x.n0)) (decide (0 < i)) (P1 x i) j := by
  have hb := hr.b
  unfold wordsC
  exact fw_congr hr rfl (by rw [Bool.eq_iff_iff]; simp; omega) (fun b _ _ => by
    unfold P1
    rw [Bool.eq_iff_iff]
    simp
    omega) j
theorem ld0_in {x : Cfg} (hr : Right x) (i : Nat) (hi : (i : Int) < x.n0) : (ld0 x i : Int) < sizeC x := by
  have hb := hr.b
  have hs := hr.sizes
  unfold ld0
  by_cases e : i = 0
  · rw [if_pos e]; omega
  · rw [if_neg e]; exact (adr_low hr i (by omega) (by omega)).2.2
theorem ld1_in {x : Cfg} (hr : Right x) (i : Nat) (hi : (i : Int) < x.n1) : (ld1 x i : Int) < sizeC x := by
  have hb := hr.b
  have hs := hr.sizes
  unfold ld1
  by_cases e : i = 0
  · rw [if_pos e]; omega
  · rw [if_neg e]; exact (adr_low hr (x.n0.toNat + i) (by omega) (by omega)).2.2
theorem ld0_next {x : Cfg} (hr : Right x) (i : Nat) (hi : (i : Int) < x.n0) : place (bB x) x.n0 (1 + x.s0) (i : Int) = (ld0 x (i + 1) : Int) := by
  have hb := hr.b
  rw [place, if_neg (by omega), ld0, if_neg (by omega), (adr_low hr (i + 1) (by omega) (by omega)).2.1, show ((i + 1 : Nat) : Int) = (i : Int) + 1 by omega, blockC, if_neg (by omega), if_pos (by omega), show (i : Int) + 1 - 1 = i by omega]
theorem ld1_next {x : Cfg} (hr : Right x) (i : Nat) (hi : (i : Int) < x.n1) : place (bB1 x) x.n1 (1 + x.s1) (i : Int) = (ld1 x (i + 1) : Int) := by
  have hb := hr.b
  rw [place, if_neg (by omega), ld1, if_neg (by omega), (adr_low hr (x.n0.toNat + (i + 1)) (by omega) (by omega)).2.1, show ((x.n0.toNat + (i + 1) : Nat) : Int) = x.n0 + (i : Int) + 1 by omega, blockC, if_neg (by omega), if_neg (by omega), show x.n0 + (i : Int) + 1 - (1 + x.n0) = i by omega]

end Go.Proofs.YtkpffnihnhlghaaDoor
