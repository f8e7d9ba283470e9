/- Schemas, as numbers: when one is right; its words; how deep its types are. -/
import Derived.Test.YtkhbhkllnigbgaaDoorRows
import Derived.WalkKit
import Derived.WalkSpells
import Derived.WalkLawsBesides
import Derived.Lib.Hide
import Derived.Laws.Pointers
import Derived.Deep.OwnRows
import Derived.Deep.QuietTactic
import Derived.BigQuiet
import Derived.StillTailTactics
import Derived.Below
import Derived.IntWalk
import Derived.Deep.RegionWith
import Derived.BigRegion
import Derived.Test.YtkhbhkllnigbgaaDoorCsOne
import Derived.ProofKit
import Derived.OpenShut
import Derived.ShutString
import Derived.Laws.Bits64
import Derived.Laws.BitsAllLaws
import Derived.Maps.AppendAt
import Derived.Deep.AppendLies
import Derived.OwnWalk
import Derived.Laws.AppendOwnNone
import Derived.RangeFuncBox
namespace Go.Proofs.YtkhbhkllnigbgaaDoor
open Nat

/-- A schema: how many types, how many fields each has, their kinds, their types. -/
structure Sch where
  n : Nat
  len : Nat → Nat
  k : Nat → Nat → Int
  t : Nat → Nat → Int

def fieldOk (n : Nat) (k t : Int) : Prop := 1 ≤ k ∧ k ≤ 5 ∧ 0 ≤ t ∧ t < n ∧ (k < 4 → t = 0)
def rowOk (s : Sch) (i : Nat) : Prop := 1 ≤ s.len i ∧ s.len i ≤ 6 ∧ ∀ j, j < s.len i → fieldOk s.n (s.k i j) (s.t i j)
/-- A schema is right. -/
def RightS (s : Sch) : Prop := 1 ≤ s.n ∧ s.n ≤ 8 ∧ ∀ i, i < s.n → rowOk s i
noncomputable def okS (s : Sch) : Bool := @decide (RightS s) (Classical.propDecidable _)
theorem okS_true {s : Sch} (h : RightS s) : okS s = true := by simp [okS, h]
theorem okS_false {s : Sch} (h : ¬ RightS s) : okS s = false := by simp [okS, h]
theorem right_of_okS {s : Sch} (h : okS s = true) : RightS s := by simpa [okS] using h
theorem not_right {s : Sch} (h : okS s = false) : ¬ RightS s := fun g => by rw [okS_true g] at h; cases h

/-- Two schemas are the same. -/
def sameS (a b : Sch) : Prop := a.n = b.n ∧ ∀ i, i < a.n → a.len i = b.len i ∧ ∀ j, j < a.len i → a.k i j = b.k i j ∧ a.t i j = b.t i j
theorem sameS_refl (a : Sch) : sameS a a := ⟨rfl, fun _ _ => ⟨rfl, fun _ _ => ⟨rfl, rfl⟩⟩⟩
theorem sameS_symm {a b : Sch} (h : sameS a b) : sameS b a :=
  ⟨h.1.symm, fun i hi => ⟨(h.2 i (by rw [h.1]; exact hi)).1.symm, fun j hj => by
    have h1 := h.2 i (by rw [h.1]; exact hi)
    have h2 := h1.2 j (by rw [h1.1]; exact hj)
    exact ⟨h2.1.symm, h2.2.symm⟩⟩⟩
theorem RightS.congr {a b : Sch} (h : sameS a b) (g : RightS a) : RightS b := by
  refine ⟨h.1 ▸ g.1, h.1 ▸ g.2.1, fun i hi => ?_⟩
  have h1 := h.2 i (by rw [h.1]; exact hi)
  have g1 := g.2.2 i (by rw [h.1]; exact hi)
  refine ⟨h1.1 ▸ g1.1, h1.1 ▸ g1.2.1, fun j hj => ?_⟩
  have hj' : j < a.len i := by rw [h1.1]; exact hj
  have h2 := h1.2 j hj'
  have g2 := g1.2.2 j hj'
  rw [h2.1, h2.2, h.1] at g2
  exact g2
noncomputable def sameB (a b : Sch) : Bool := @decide (sameS a b) (Classical.propDecidable _)
theorem sameB_true {a b : Sch} (h : sameS a b) : sameB a b = true := by simp [sameB, h]
theorem sameB_false {a b : Sch} (h : ¬ sameS a b) : sameB a b = false := by simp [sameB, h]

/-- Digits of 64 each. -/
def hs (d : Nat → Nat) : Nat → Nat
  | 0 => 0
  | m + 1 => hs d m + d m * 64 ^ m
def tl (d : Nat → Nat) : Nat → Nat → Nat
  | _, 0 => 0
  | i, c + 1 => d i + 64 * tl d (i + 1) c
theorem hs_lt (d : Nat → Nat) (m : Nat) (h : ∀ j, j < m → d j < 64) : hs d m < 64 ^ m := by
  induction m with
  | zero => simp [hs]
  | succ m ih =>
    have h1 := ih fun j hj => h j (by omega)
    have h2 := h m (by omega)
    have h3 : d m * 64 ^ m ≤ 63 * 64 ^ m := Nat.mul_le_mul_right _ (by omega)
    rw [hs, Nat.pow_succ]
    omega
theorem hs_tl (d : Nat → Nat) (c i : Nat) : hs d i + tl d i c * 64 ^ i = hs d (i + c) := by
  induction c generalizing i with
  | zero => simp [tl]
  | succ c ih =>
    have h := ih (i + 1)
    rw [show i + (c + 1) = i + 1 + c by omega, ← h, tl, hs, Nat.pow_succ, Nat.add_mul, Nat.add_assoc, Nat.mul_comm 64 (tl d (i + 1) c), Nat.mul_assoc, Nat.mul_comm 64 (64 ^ i)]
theorem tl_hs (d : Nat → Nat) (m : Nat) : tl d 0 m = hs d m := by
  have := hs_tl d m 0
  simpa [hs] using this
theorem hs_congr {d d' : Nat → Nat} {m : Nat} (h : ∀ j, j < m → d j = d' j) : hs d m = hs d' m := by
  induction m with
  | zero => rfl
  | succ m ih => rw [hs, hs, ih fun j hj => h j (by omega), h m (by omega)]
/-- The j-th digit. -/
def dig (w j : Nat) : Nat := w / 64 ^ j % 64
theorem hs_dig (w m : Nat) : hs (dig w) m = w % 64 ^ m := by
  induction m with
  | zero => simp [hs, Nat.mod_one]
  | succ m ih => rw [hs, ih, Nat.mod_pow_succ, dig, Nat.mul_comm]
theorem dig_hs (d : Nat → Nat) (m k : Nat) (hk : k < m) (h : ∀ j, j < m → d j < 64) : dig (hs d m) k = d k := by
  induction m with
  | zero => omega
  | succ m ih =>
    by_cases e : k = m
    · subst e
      have h1 := hs_lt d k fun j hj => h j (by omega)
      have h2 := h k (by omega)
      rw [dig, hs, Nat.add_mul_div_right _ _ (Nat.pow_pos (by omega)), Nat.div_eq_of_lt h1, Nat.zero_add, Nat.mod_eq_of_lt h2]
    · rw [← ih (by omega) fun j hj => h j (by omega)]
      obtain ⟨i, hi⟩ : ∃ i, m = k + 1 + i := ⟨m - k - 1, by omega⟩
      have e1 : d m * 64 ^ m = d m * 64 ^ i * 64 * 64 ^ k := by
        rw [hi, show k + 1 + i = i + 1 + k by omega, Nat.pow_add, Nat.pow_add, ← Nat.mul_assoc, ← Nat.mul_assoc]
      rw [dig, hs, e1, Nat.add_mul_div_right _ _ (Nat.pow_pos (by omega)), Nat.add_mul_mod_self_right, dig]

/-- A field's digit; a type's word. -/
def fd (s : Sch) (i j : Nat) : Nat := (s.k i j).toNat + 8 * (s.t i j).toNat
def wd (s : Sch) (i : Nat) : Nat := s.len i + 8 * hs (fd s i) (s.len i)
theorem RightS.field {s : Sch} (h : RightS s) {i j : Nat} (hi : i < s.n) (hj : j < s.len i) : 1 ≤ s.k i j ∧ s.k i j ≤ 5 ∧ 0 ≤ s.t i j ∧ s.t i j < 8 := by
  have h1 := h.2.1
  obtain ⟨a, b, c, d, e⟩ := (h.2.2 i hi).2.2 j hj
  omega
theorem RightS.fd_lt {s : Sch} (h : RightS s) {i j : Nat} (hi : i < s.n) (hj : j < s.len i) : fd s i j < 64 := by
  have := h.field hi hj
  unfold fd
  omega
theorem pow_le6 {m : Nat} (h : m ≤ 6) : (64 : Nat) ^ m ≤ 68719476736 := by
  have := Nat.pow_le_pow_right (n := 64) (by omega) h
  omega
theorem RightS.hs_lt {s : Sch} (h : RightS s) {i : Nat} (hi : i < s.n) : hs (fd s i) (s.len i) < 64 ^ s.len i := Proofs.YtkhbhkllnigbgaaDoor.hs_lt _ _ fun _ hj => h.fd_lt hi hj
theorem RightS.wd_lt {s : Sch} (h : RightS s) {i : Nat} (hi : i < s.n) : wd s i < 1000000000000 := by
  have h1 := h.hs_lt hi
  have h2 := (h.2.2 i hi).2.1
  have h3 := pow_le6 h2
  unfold wd
  omega
theorem wd_congr {a b : Sch} (h : sameS a b) {i : Nat} (hi : i < a.n) : wd a i = wd b i := by
  obtain ⟨h1, h2⟩ := h.2 i hi
  unfold wd
  rw [← h1, hs_congr (d' := fd b i) fun j hj => by unfold fd; rw [(h2 j hj).1, (h2 j hj).2]]

/-- The schema of words. -/
def unS (f : Nat → Nat) (L : Nat) : Sch := ⟨L, fun i => f i % 8, fun i j => ((dig (f i / 8) j % 8 : Nat) : Int), fun i j => ((dig (f i / 8) j / 8 : Nat) : Int)⟩
/-- Nothing is left in a word behind its fields. -/
def noRest (f : Nat → Nat) (L : Nat) : Prop := ∀ i, i < L → f i / 8 / 64 ^ (f i % 8) = 0
def readOk (f : Nat → Nat) (L : Nat) : Prop := RightS (unS f L) ∧ noRest f L
noncomputable def readB (f : Nat → Nat) (L : Nat) : Bool := @decide (readOk f L) (Classical.propDecidable _)
theorem readB_true {f : Nat → Nat} {L : Nat} (h : readOk f L) : readB f L = true := by simp [readB, h]
theorem readB_false {f : Nat → Nat} {L : Nat} (h : ¬ readOk f L) : readB f L = false := by simp [readB, h]
theorem readOk_of {f : Nat → Nat} {L : Nat} (h : readB f L = true) : readOk f L := by simpa [readB] using h
theorem dig_lt (w j : Nat) : dig w j < 64 := Nat.mod_lt _ (by omega)
theorem fd_unS (f : Nat → Nat) (L i j : Nat) : fd (unS f L) i j = dig (f i / 8) j := by
  have := dig_lt (f i / 8) j
  simp only [fd, unS, Int.toNat_natCast]
  omega
theorem wd_unS (f : Nat → Nat) (L i : Nat) : wd (unS f L) i = f i % 8 + 8 * (f i / 8 % 64 ^ (f i % 8)) := by
  rw [wd, hs_congr (d' := dig (f i / 8)) fun j _ => fd_unS f L i j, hs_dig]
  rfl
theorem noRest_iff (f : Nat → Nat) (L : Nat) : noRest f L ↔ ∀ i, i < L → wd (unS f L) i = f i := by
  refine ⟨fun h i hi => ?_, fun h i hi => ?_⟩
  · have h1 := h i hi
    rw [Nat.div_eq_zero_iff] at h1
    have hp : 0 < 64 ^ (f i % 8) := Nat.pow_pos (by omega)
    rw [wd_unS, Nat.mod_eq_of_lt (show f i / 8 < 64 ^ (f i % 8) by omega)]
    omega
  · have h1 := h i hi
    rw [wd_unS] at h1
    have h2 : f i / 8 % 64 ^ (f i % 8) < 64 ^ (f i % 8) := Nat.mod_lt _ (Nat.pow_pos (by omega))
    exact Nat.div_eq_of_lt (by omega)
theorem len_wd {s : Sch} (h : RightS s) {i : Nat} (hi : i < s.n) : wd s i % 8 = s.len i := by
  have := (h.2.2 i hi).2.1
  unfold wd
  omega
theorem rest_wd {s : Sch} (h : RightS s) {i : Nat} (hi : i < s.n) : wd s i / 8 = hs (fd s i) (s.len i) := by
  have := (h.2.2 i hi).2.1
  unfold wd
  omega
/-- What was packed is read. -/
theorem unS_wd {s : Sch} (h : RightS s) : sameS (unS (wd s) s.n) s := by
  refine ⟨rfl, fun i hi => ⟨len_wd h hi, fun j hj => ?_⟩⟩
  have hj' : j < s.len i := by
    have h1 : (unS (wd s) s.n).len i = wd s i % 8 := rfl
    rw [h1, len_wd h hi] at hj
    exact hj
  have hd : dig (wd s i / 8) j = fd s i j := by rw [rest_wd h hi]; exact dig_hs _ _ _ hj' fun j hj => h.fd_lt hi hj
  have hf := h.field hi hj'
  have e1 : (unS (wd s) s.n).k i j = ((dig (wd s i / 8) j % 8 : Nat) : Int) := rfl
  have e2 : (unS (wd s) s.n).t i j = ((dig (wd s i / 8) j / 8 : Nat) : Int) := rfl
  rw [e1, e2, hd]
  unfold fd
  omega
theorem readOk_wd {s : Sch} (h : RightS s) : readOk (wd s) s.n := by
  refine ⟨RightS.congr (sameS_symm (unS_wd h)) h, (noRest_iff _ _).2 fun i hi => wd_congr (unS_wd h) hi⟩
/-- No two schemas are packed to the same. -/
theorem wd_inj {a b : Sch} (ha : RightS a) (hb : RightS b) (hn : a.n = b.n) (h : ∀ i, i < a.n → wd a i = wd b i) : sameS a b := by
  have h1 := sameS_symm (unS_wd ha)
  have h2 := unS_wd hb
  refine ⟨hn, fun i hi => ?_⟩
  obtain ⟨a1, a2⟩ := h1.2 i hi
  have hi2 : i < (unS (wd b) b.n).n := by show i < b.n; omega
  obtain ⟨b1, b2⟩ := h2.2 i hi2
  have e1 : (unS (wd a) a.n).len i = (unS (wd b) b.n).len i := by show wd a i % 8 = wd b i % 8; rw [h i hi]
  refine ⟨a1.trans (e1.trans b1), fun j hj => ?_⟩
  obtain ⟨p1, p2⟩ := a2 j hj
  obtain ⟨q1, q2⟩ := b2 j (by omega)
  have e2 : (unS (wd a) a.n).k i j = (unS (wd b) b.n).k i j := by show ((dig (wd a i / 8) j % 8 : Nat) : Int) = ((dig (wd b i / 8) j % 8 : Nat) : Int); rw [h i hi]
  have e3 : (unS (wd a) a.n).t i j = (unS (wd b) b.n).t i j := by show ((dig (wd a i / 8) j / 8 : Nat) : Int) = ((dig (wd b i / 8) j / 8 : Nat) : Int); rw [h i hi]
  exact ⟨p1.trans (e2.trans q1), p2.trans (e3.trans q2)⟩

/-- The greatest of the first m. -/
def mx (f : Nat → Nat) : Nat → Nat
  | 0 => 0
  | m + 1 => max (mx f m) (f m)
theorem mx_le (f : Nat → Nat) (m e : Nat) : mx f m ≤ e ↔ ∀ j, j < m → f j ≤ e := by
  induction m with
  | zero => simp [mx]
  | succ m ih =>
    rw [mx, Nat.max_le, ih]
    refine ⟨fun h j hj => ?_, fun h => ⟨fun j hj => h j (by omega), h m (by omega)⟩⟩
    by_cases e : j = m
    · rw [e]; exact h.2
    · exact h.1 j (by omega)
/-- Type i is no deeper than d. -/
def lv (s : Sch) : Nat → Nat → Prop
  | 0, _ => False
  | d + 1, i => ∀ j, j < s.len i → 4 ≤ s.k i j → lv s d (s.t i j).toNat
theorem lv_succ (s : Sch) (d i : Nat) (h : lv s d i) : lv s (d + 1) i := by
  induction d generalizing i with
  | zero => exact absurd h id
  | succ d ih => exact fun j hj hk => ih _ (h j hj hk)
theorem lv_mono (s : Sch) {d e : Nat} (i : Nat) (h : lv s d i) (hd : d ≤ e) : lv s e i := by
  induction e with
  | zero => rw [show d = 0 by omega] at h; exact absurd h id
  | succ e ih =>
    by_cases h1 : d = e + 1
    · rw [← h1]; exact h
    · exact lv_succ s e i (ih (by omega))
/-- How deep, by rounds. -/
def dr (s : Sch) : Nat → Nat → Nat
  | 0, _ => 0
  | r + 1, i => max 1 (mx (fun j => if 4 ≤ s.k i j then dr s r (s.t i j).toNat + 1 else 0) (s.len i))
theorem dr_le (s : Sch) (r e i : Nat) : dr s r i ≤ e ↔ lv s e i ∨ r ≤ e := by
  induction r generalizing e i with
  | zero => simp [dr]
  | succ r ih =>
    rw [dr, Nat.max_le, mx_le]
    cases e with
    | zero =>
      refine ⟨fun h => by omega, fun h => ?_⟩
      rcases h with h | h
      · exact absurd h id
      · omega
    | succ e =>
      refine ⟨fun h => ?_, fun h => ⟨by omega, fun j hj => ?_⟩⟩
      · by_cases hr : r ≤ e
        · exact .inr (by omega)
        · refine .inl fun j hj hk => ?_
          have h1 := h.2 j hj
          rw [if_pos hk] at h1
          rcases (ih e (s.t i j).toNat).1 (by omega) with g | g
          · exact g
          · exact absurd g hr
      · by_cases hk : 4 ≤ s.k i j
        · rw [if_pos hk]
          have : dr s r (s.t i j).toNat ≤ e := (ih e _).2 (by
            rcases h with h | h
            · exact .inl (h j hj hk)
            · exact .inr (by omega))
          omega
        · rw [if_neg hk]; omega
/-- How deep type i is. -/
def deepS (s : Sch) (i : Nat) : Nat := dr s 6 i
theorem deepS_le (s : Sch) (i e : Nat) : deepS s i ≤ e ↔ lv s e i ∨ 6 ≤ e := dr_le s 6 e i
theorem deepS_pos (s : Sch) (i : Nat) : 1 ≤ deepS s i := by
  rcases Nat.eq_zero_or_pos (deepS s i) with h | h
  · rcases (deepS_le s i 0).1 (by omega) with g | g
    · exact absurd g id
    · omega
  · exact h
theorem deepS_six (s : Sch) (i : Nat) : deepS s i ≤ 6 := (deepS_le s i 6).2 (.inr (by omega))
theorem deepS_eq {s : Sch} {i v : Nat} (h : ∀ e, v ≤ e ↔ lv s e i ∨ 6 ≤ e) : v = deepS s i := by
  have h1 := (h (deepS s i)).2 ((deepS_le s i _).1 (Nat.le_refl _))
  have h2 := (deepS_le s i v).2 ((h v).1 (Nat.le_refl _))
  omega
/-- What the law says of it. -/
theorem deepS_law (s : Sch) (i : Nat) : deepS s i = min (mx (fun j => if 4 ≤ s.k i j then deepS s (s.t i j).toNat else 0) (s.len i) + 1) 6 := by
  refine (deepS_eq fun e => ?_).symm
  by_cases h6 : 6 ≤ e
  · simp [h6]; omega
  · cases e with
    | zero =>
      refine ⟨fun h => by omega, fun h => ?_⟩
      rcases h with h | h
      · exact absurd h id
      · omega
    | succ e =>
      have h1 : (min (mx (fun j => if 4 ≤ s.k i j then deepS s (s.t i j).toNat else 0) (s.len i) + 1) 6 ≤ e + 1) ↔ mx (fun j => if 4 ≤ s.k i j then deepS s (s.t i j).toNat else 0) (s.len i) ≤ e := by omega
      rw [h1, mx_le]
      refine ⟨fun h => .inl fun j hj hk => ?_, fun h j hj => ?_⟩
      · have h2 := h j hj
        rw [if_pos hk] at h2
        rcases (deepS_le s _ e).1 h2 with g | g
        · exact g
        · omega
      · by_cases hk : 4 ≤ s.k i j
        · rw [if_pos hk]
          rcases h with h | h
          · exact (deepS_le s _ e).2 (.inl (h j hj hk))
          · omega
        · rw [if_neg hk]; omega

/-- Depths, as the program finds them: behind round d, a type that is no deeper than d is told, all others are 6. -/
def fnd (s : Sch) (d i v : Nat) : Prop := ∀ e, v ≤ e ↔ (lv s e i ∧ e ≤ d ∨ lv s d i ∧ d ≤ e) ∨ 6 ≤ e
theorem fnd_zero (s : Sch) (i : Nat) : fnd s 0 i 6 := fun e => by
  refine ⟨fun h => .inr h, fun h => ?_⟩
  rcases h with (⟨h, g⟩ | ⟨h, _⟩) | h
  · rw [show e = 0 by omega] at h; exact absurd h id
  · exact absurd h id
  · exact h
theorem fnd_less {s : Sch} {d i v : Nat} (h : fnd s d i v) (hd : d < 6) : v < d + 1 ↔ lv s d i := by
  rw [Nat.lt_succ_iff, h d]
  refine ⟨fun g => ?_, fun g => .inl (.inl ⟨g, Nat.le_refl _⟩)⟩
  rcases g with (⟨g, _⟩ | ⟨g, _⟩) | g
  · exact g
  · exact g
  · omega
theorem fnd_yes {s : Sch} {d i v : Nat} (h : fnd s d i v) (g : lv s (d + 1) i) (_hd : d < 6) : fnd s (d + 1) i (min v (d + 1)) := fun e => by
  rw [show min v (d + 1) ≤ e ↔ v ≤ e ∨ d + 1 ≤ e by omega, h e]
  by_cases h1 : d + 1 ≤ e
  · exact ⟨fun _ => .inl (.inr ⟨g, h1⟩), fun _ => .inr h1⟩
  · refine ⟨fun k => ?_, fun k => ?_⟩
    · rcases k with ((⟨k, l⟩ | ⟨k, l⟩) | k) | k
      · exact .inl (.inl ⟨k, by omega⟩)
      · rw [show e = d by omega]; exact .inl (.inl ⟨k, by omega⟩)
      · omega
      · omega
    · rcases k with (⟨k, l⟩ | ⟨k, l⟩) | k
      · exact .inl (.inl (.inl ⟨k, by omega⟩))
      · omega
      · omega
theorem fnd_no {s : Sch} {d i v : Nat} (h : fnd s d i v) (g : ¬ lv s (d + 1) i) : fnd s (d + 1) i v := fun e => by
  have hn : ∀ e, e ≤ d + 1 → ¬ lv s e i := fun e he k => g (lv_mono s i k he)
  rw [h e]
  refine ⟨fun k => ?_, fun k => ?_⟩
  · rcases k with (⟨k, l⟩ | ⟨k, l⟩) | k
    · exact absurd k (hn e (by omega))
    · exact absurd k (hn d (by omega))
    · exact .inr k
  · rcases k with (⟨k, l⟩ | ⟨k, l⟩) | k
    · exact absurd k (hn e (by omega))
    · exact absurd k g
    · exact .inr k
theorem fnd_all {s : Sch} {i v : Nat} (h : fnd s 5 i v) : v = deepS s i := deepS_eq fun e => by
  rw [h e]
  refine ⟨fun k => ?_, fun k => ?_⟩
  · rcases k with (⟨k, l⟩ | ⟨k, l⟩) | k
    · exact .inl k
    · exact .inl (lv_mono s i k l)
    · exact .inr k
  · rcases k with k | k
    · by_cases h6 : 6 ≤ e
      · exact .inr h6
      · exact .inl (.inl ⟨k, by omega⟩)
    · exact .inr k
theorem fnd_six {s : Sch} {d i v : Nat} (h : fnd s d i v) : v ≤ 6 := (h 6).2 (.inr (by omega))
end Go.Proofs.YtkhbhkllnigbgaaDoor

namespace Go.Proofs.YtkhbhkllnigbgaaDoor
open Go.RowKit
/-- A row of L fields. -/
structure FRow (W : World) (A : Option Addr) (L : Nat) (k t : Nat → Int) : Prop where
  some_ : 0 < L → ∃ b off, A = some ⟨b, off, none⟩ ∧ b < W.heap.size ∧ ∀ j, j < L → W.cell? ⟨b, off + j * 2, none⟩ = some (.int .i64 (k j)) ∧ W.cell? ⟨b, off + j * 2 + 1, none⟩ = some (.int .i64 (t j))
theorem FRow.below {W W' : World} {A : Option Addr} {L : Nat} {k t : Nat → Int} (h : FRow W A L k t) (hb : Below W.heap.size W W') : FRow W' A L k t :=
  ⟨fun h0 => by
    obtain ⟨b, off, hA, hlt, hc⟩ := h.some_ h0
    exact ⟨b, off, hA, Nat.lt_of_lt_of_le hlt hb.size, fun j hj => ⟨(hb.cell (p := ⟨b, off + j * 2, none⟩) hlt).trans (hc j hj).1, (hb.cell (p := ⟨b, off + j * 2 + 1, none⟩) hlt).trans (hc j hj).2⟩⟩⟩
/-- A schema's types. -/
structure SAt (W : World) (A : Option Addr) (s : Sch) : Prop where
  some_ : 0 < s.n → ∃ b off, A = some ⟨b, off, none⟩ ∧ b < W.heap.size ∧ ∀ i, i < s.n → ∃ Ai ci, W.cell? ⟨b, off + i, none⟩ = some (.slice Ai (s.len i) ci) ∧ FRow W Ai (s.len i) (s.k i) (s.t i)
theorem SAt.below {W W' : World} {A : Option Addr} {s : Sch} (h : SAt W A s) (hb : Below W.heap.size W W') : SAt W' A s :=
  ⟨fun h0 => by
    obtain ⟨b, off, hA, hlt, hc⟩ := h.some_ h0
    refine ⟨b, off, hA, Nat.lt_of_lt_of_le hlt hb.size, fun i hi => ?_⟩
    obtain ⟨Ai, ci, h1, h2⟩ := hc i hi
    exact ⟨Ai, ci, (hb.cell (p := ⟨b, off + i, none⟩) hlt).trans h1, h2.below hb⟩⟩
theorem Below.step {B : Nat} {a b c : World} (h : Below B a b) (k : Below b.heap.size b c) (hB : B ≤ b.heap.size) : Below B a c := h.trans (k.mono hB)
theorem ret_bool {a b : Bool} (h : a = b) : Ending.returned (.bool a) = .returned (.bool b) := by rw [h]

instance (n : Nat) (k t : Int) : Decidable (fieldOk n k t) := by unfold fieldOk; infer_instance
theorem fok_of {n : Nat} {k t : Int} {b : Bool} (h : b = true ↔ fieldOk n k t) : Ending.returned (.bool b) = .returned (.bool (decide (fieldOk n k t))) := ret_bool (by rw [Bool.eq_iff_iff, h]; simp)
set_option maxRecDepth 100000 in
set_option maxHeartbeats 1000000 in
theorem fieldOk_any (n : Nat) (hn : n ≤ 8) (h1 : 1 ≤ n) (k t : Int) (w : World) : Calls Tryd.prog 148 #[.agg #[.int .i64 k, .int .i64 t], .int .i64 n] w fun e w' => e = .returned (.bool (decide (fieldOk n k t))) ∧ Below w.heap.size w w' := by
  go_enter Tryd.func148, Tryd.ntmps148
  go_wp2
  all_goals
    go_ret
    refine ⟨fok_of ?_, by (repeat (first | with_reducible exact Below.refl _ _ | with_reducible refine Below.drew ?_ | (with_reducible refine Below.setCell ?_ ?side _; case side => exact (by first | (simp; done) | (simp; omega) | omega)) | (with_reducible refine Below.alloc ?_ ?side _; case side => exact (by first | (simp; done) | (simp; omega) | omega))))⟩
    simp only [beq_iff_eq, beq_eq_false_iff_ne] at *
    simp [fieldOk]
    omega

set_option maxRecDepth 100000 in
set_option maxHeartbeats 1000000 in
theorem areRight_any (n : Nat) (hn : n ≤ 8) (h1 : 1 ≤ n) (A : Option Addr) (L c : Nat) (k t : Nat → Int) (w : World) (hr : FRow w A L k t) : Calls Tryd.prog 119 #[.slice A L c, .int .i64 n] w fun e w' => e = .returned (.bool (decide (1 ≤ L ∧ L ≤ 6 ∧ ∀ j, j < L → fieldOk n (k j) (t j)))) ∧ Below w.heap.size w w' := by
  by_cases hL : 1 ≤ L ∧ L ≤ 6
  · obtain ⟨b, off, rfl, hb, hc⟩ := hr.some_ (by omega)
    have HC := Lib.hid hc
    clear hc hr
    go_enter Tryd.func119, Tryd.ntmps119
    go_wp2
    go_loopw [17] (fun i wr => ∃ m : Nat, m ≤ L ∧ i = .int .i64 m ∧ Below w.heap.size w wr ∧ ∀ j, j < m → fieldOk n (k j) (t j)) (fun i _ => L - (intOf i).toNat)
    case atStart => exact ⟨0, by omega, rfl, Below.refl _ _, fun j hj => by omega⟩
    case round =>
      obtain ⟨m, hm, rfl, hB, hp⟩ := hrel
      have HB := Lib.hid hB
      have HP := Lib.hid hp
      clear hB hp
      by_cases hlt : m < L
      · have c1 := (HB.out.cell (p := ⟨b, off + m * 2, none⟩) hb).trans (HC.out m hlt).1
        have c2 := (HB.out.cell (p := ⟨b, off + m * 2 + 1, none⟩) hb).trans (HC.out m hlt).2
        have hzw := HB.out.size
        go_wp2_with fail
        refine (fieldOk_any n hn h1 (k m) (t m) _).mono ?_
        rintro e w2 ⟨rfl, hb2⟩
        have H2 := Lib.hid (Below.step (B := w.heap.size) (a := w) (by (repeat (first | with_reducible exact Below.refl _ _ | with_reducible exact HB.out | with_reducible refine Below.drew ?_ | (with_reducible refine Below.setCell ?_ ?side _; case side => exact (by have := (HB.out).size; first | (simp; done) | (simp; omega) | omega)) | (with_reducible refine Below.alloc ?_ ?side _; case side => exact (by have := (HB.out).size; first | (simp; done) | (simp; omega) | omega))))) hb2 (by have := (HB.out).size; first | (simp; done) | (simp; omega) | omega))
        clear hb2 HB
        by_cases hf : fieldOk n (k m) (t m)
        · rw [decide_eq_true hf]
          go_wp2
          go_roundw
          case rel =>
            refine ⟨m + 1, by omega, by go_num, H2.out, fun j hj => ?_⟩
            by_cases e : j = m
            · subst e; exact hf
            · exact HP.out j (by omega)
          case measure => simp [intOf]; omega
        · rw [decide_eq_false hf]
          go_wp2
          go_ret
          exact ⟨ret_bool (by symm; simp only [decide_eq_false_iff_not]; exact fun h => hf (h.2.2 m hlt)), H2.out⟩
      · go_wp2
        go_ret
        have e : m = L := by omega
        subst e
        exact ⟨ret_bool (by symm; simp only [decide_eq_true_eq]; exact ⟨by omega, by omega, HP.out⟩), HB.out⟩
  · have hf : decide (1 ≤ L ∧ L ≤ 6 ∧ ∀ j, j < L → fieldOk n (k j) (t j)) = false := by
      simp only [decide_eq_false_iff_not]
      exact fun h => hL ⟨h.1, h.2.1⟩
    rw [hf]
    go_enter Tryd.func119, Tryd.ntmps119
    go_wp2
    all_goals
      go_ret
      exact ⟨rfl, Below.refl _ _⟩

theorem rowOk_iff (s : Sch) (i : Nat) : rowOk s i ↔ 1 ≤ s.len i ∧ s.len i ≤ 6 ∧ ∀ j, j < s.len i → fieldOk s.n (s.k i j) (s.t i j) := Iff.rfl
set_option maxRecDepth 100000 in
set_option maxHeartbeats 1000000 in
theorem isRight_any (s : Sch) (A : Option Addr) (c : Nat) (w : World) (hr : SAt w A s) : Calls Tryd.prog 82 #[.slice A s.n c] w fun e w' => e = .returned (.bool (okS s)) ∧ Below w.heap.size w w' := by
  obtain ⟨n, HN⟩ : ∃ n, Hid (s.n = n) := ⟨_, Lib.hid rfl⟩
  by_cases hL : 1 ≤ n ∧ n ≤ 8
  · obtain ⟨b, off, rfl, hb, hc⟩ := hr.some_ (by rw [HN.out]; omega)
    have HR := Lib.hid hc
    clear hr hc
    rw [HN.out]
    go_enter Tryd.func82, Tryd.ntmps82
    go_wp2
    go_loopw [15] (fun i wr => ∃ m : Nat, m ≤ n ∧ i = .int .i64 m ∧ Below w.heap.size w wr ∧ ∀ j, j < m → rowOk s j) (fun i _ => n - (intOf i).toNat)
    case atStart => exact ⟨0, by omega, rfl, Below.refl _ _, fun j hj => by omega⟩
    case round =>
      obtain ⟨m, hm, rfl, hB, hp⟩ := hrel
      have HB := Lib.hid hB
      have HP := Lib.hid hp
      clear hB hp
      by_cases hlt : m < n
      · obtain ⟨Ai, ci, hcell, hfr⟩ := HR.out m (by rw [HN.out]; exact hlt)
        have HF := Lib.hid hfr
        have c1 := (HB.out.cell (p := ⟨b, off + m, none⟩) hb).trans hcell
        clear hcell hfr
        have hzw := HB.out.size
        go_wp2_with fail
        refine (areRight_any n (by omega) (by omega) Ai (s.len m) ci (s.k m) (s.t m) _ (HF.out.below HB.out)).mono ?_
        rintro e w2 ⟨rfl, hb2⟩
        have H2 := Lib.hid (Below.step (B := w.heap.size) (a := w) (by (repeat (first | with_reducible exact Below.refl _ _ | with_reducible exact HB.out | with_reducible refine Below.drew ?_ | (with_reducible refine Below.setCell ?_ ?side _; case side => exact (by have := (HB.out).size; first | (simp; done) | (simp; omega) | omega)) | (with_reducible refine Below.alloc ?_ ?side _; case side => exact (by have := (HB.out).size; first | (simp; done) | (simp; omega) | omega))))) hb2 (by have := (HB.out).size; first | (simp; done) | (simp; omega) | omega))
        clear hb2 HB
        by_cases hf : rowOk s m
        · have hf' := hf
          rw [rowOk_iff, HN.out] at hf'
          rw [decide_eq_true hf']
          go_wp2
          go_roundw
          case rel =>
            refine ⟨m + 1, by omega, by go_num, H2.out, fun j hj => ?_⟩
            by_cases e : j = m
            · subst e; exact hf
            · exact HP.out j (by omega)
          case measure => simp [intOf]; omega
        · have hf' := hf
          rw [rowOk_iff, HN.out] at hf'
          rw [decide_eq_false hf']
          go_wp2
          go_ret
          exact ⟨ret_bool (okS_false fun h => hf (h.2.2 m (by rw [HN.out]; exact hlt))).symm, H2.out⟩
      · go_wp2
        go_ret
        have e : m = n := by omega
        subst e
        exact ⟨ret_bool (okS_true ⟨by rw [HN.out]; omega, by rw [HN.out]; omega, fun i hi => HP.out i (by rw [← HN.out]; exact hi)⟩).symm, HB.out⟩
  · have hf : okS s = false := okS_false fun h => hL ⟨by rw [← HN.out]; exact h.1, by rw [← HN.out]; exact h.2.1⟩
    rw [hf, HN.out]
    go_enter Tryd.func82, Tryd.ntmps82
    go_wp2
    all_goals
      go_ret
      exact ⟨rfl, Below.refl _ _⟩

end Go.Proofs.YtkhbhkllnigbgaaDoor

namespace Go.Proofs.YtkhbhkllnigbgaaDoor
open Go.RowKit
set_option maxHeartbeats 1000000 in
theorem check_yes (s : Sch) (A : Option Addr) (c : Nat) (w : World) (hr : SAt w A s) (h : okS s = true) : Calls Tryd.prog 47 #[.slice A s.n c] w fun e w' => e = .returned .nilIface ∧ Below w.heap.size w w' := by
  have HS := Lib.hid hr
  have HR := Lib.hid h
  clear hr h
  go_enter Tryd.func47, Tryd.ntmps47
  go_wp2_with fail
  refine (isRight_any s A c _ HS.out).mono ?_
  rintro e w1 ⟨rfl, hb⟩
  rw [HR.out]
  go_wp2
  go_ret
  exact ⟨rfl, hb⟩
set_option maxHeartbeats 1000000 in
theorem check_no (s : Sch) (A : Option Addr) (c : Nat) (w : World) (hr : SAt w A s) (h : okS s = false) : Calls Tryd.prog 47 #[.slice A s.n c] w fun e w' => e = .returned (.iface 55 (.int .i64 1)) ∧ Below w.heap.size w w' := by
  have HS := Lib.hid hr
  have HR := Lib.hid h
  clear hr h
  go_enter Tryd.func47, Tryd.ntmps47
  go_wp2_with fail
  refine (isRight_any s A c _ HS.out).mono ?_
  rintro e w1 ⟨rfl, hb⟩
  rw [HR.out]
  go_wp2_with fail
  refine (Cs.new_code 1 _ rfl).mono ?_
  rintro e w' ⟨rfl, rfl⟩
  go_wp2
  go_ret
  exact ⟨rfl, hb⟩

/-- Is there a type t? -/
def hasT (s : Sch) (t : Int) : Prop := 0 ≤ t ∧ t < s.n
instance (s : Sch) (t : Int) : Decidable (hasT s t) := by unfold hasT; infer_instance
def lenAt (s : Sch) (t : Int) : Int := if hasT s t then s.len t.toNat else 0
def kAt (s : Sch) (t i : Int) : Int := if hasT s t ∧ 0 ≤ i ∧ i < s.len t.toNat then s.k t.toNat i.toNat else 0
def tAt (s : Sch) (t i : Int) : Int := if hasT s t ∧ 0 ≤ i ∧ i < s.len t.toNat then s.t t.toNat i.toNat else 0

theorem hasType_any (s : Sch) (A : Option Addr) (c : Nat) (t : Int) (w : World) : Calls Tryd.prog 120 #[.slice A s.n c, .int .i64 t] w fun e w' => e = .returned (.bool (decide (hasT s t))) ∧ w = w' := by
  generalize hn : s.n = n
  go_enter Tryd.func120, Tryd.ntmps120
  go_wp2
  all_goals
    go_ret
    refine ⟨ret_bool ?_, rfl⟩
    rw [Bool.eq_iff_iff]
    simp [hasT, hn]
    omega

set_option maxHeartbeats 1000000 in
theorem fields_any (s : Sch) (A : Option Addr) (c : Nat) (t : Int) (w : World) (hr : SAt w A s) : Calls Tryd.prog 84 #[.slice A s.n c, .int .i64 t] w fun e w' => e = .returned (.int .i64 (lenAt s t)) ∧ w = w' := by
  have HS := Lib.hid hr
  clear hr
  by_cases h : hasT s t
  · have hl : lenAt s t = s.len t.toNat := if_pos h
    have h' := h
    unfold hasT at h'
    obtain ⟨m, rfl⟩ : ∃ m : Nat, t = m := ⟨t.toNat, by omega⟩
    have hm : m < s.n := by omega
    simp only [Int.toNat_natCast] at hl
    rw [hl]
    obtain ⟨b, off, rfl, hb, hc⟩ := HS.out.some_ (by omega)
    obtain ⟨Ai, ci, hcell, -⟩ := hc m hm
    clear hc hl h'
    go_enter Tryd.func84, Tryd.ntmps84
    go_wp2_with fail
    refine (hasType_any s _ c m _).mono ?_
    rintro e w' ⟨rfl, rfl⟩
    rw [decide_eq_true h]
    go_wp2
    go_ret
    exact ⟨rfl, rfl⟩
  · have hl : lenAt s t = 0 := if_neg h
    rw [hl]
    go_enter Tryd.func84, Tryd.ntmps84
    go_wp2_with fail
    refine (hasType_any s _ c t _).mono ?_
    rintro e w' ⟨rfl, rfl⟩
    rw [decide_eq_false h]
    go_wp2
    go_ret
    exact ⟨rfl, rfl⟩

set_option maxRecDepth 100000 in
set_option maxHeartbeats 1000000 in
theorem field_any (s : Sch) (A : Option Addr) (c : Nat) (t i : Int) (w : World) (hr : SAt w A s) : Calls Tryd.prog 121 #[.slice A s.n c, .int .i64 t, .int .i64 i] w fun e w' => e = .returned (.agg #[.int .i64 (kAt s t i), .int .i64 (tAt s t i)]) ∧ Below w.heap.size w w' := by
  have HS := Lib.hid hr
  clear hr
  by_cases h : hasT s t ∧ 0 ≤ i ∧ i < s.len t.toNat
  · have hk : kAt s t i = s.k t.toNat i.toNat := if_pos h
    have ht : tAt s t i = s.t t.toNat i.toNat := if_pos h
    have hl : lenAt s t = s.len t.toNat := if_pos h.1
    have h' := h.1
    unfold hasT at h'
    obtain ⟨m, rfl⟩ : ∃ m : Nat, t = m := ⟨t.toNat, by omega⟩
    obtain ⟨j, rfl⟩ : ∃ j : Nat, i = j := ⟨i.toNat, by omega⟩
    have hm : m < s.n := by omega
    simp only [Int.toNat_natCast] at hl hk ht h
    have hj : j < s.len m := by omega
    rw [hk, ht]
    have HL := Lib.hid hl
    obtain ⟨b, off, rfl, hb, hc⟩ := HS.out.some_ (by omega)
    obtain ⟨Ai, ci, hcell, hf⟩ := hc m hm
    obtain ⟨b', off', rfl, hb', hc'⟩ := hf.some_ (by omega)
    obtain ⟨c1, c2⟩ := hc' j hj
    clear hc hc' hf h h' hl hk ht
    go_enter Tryd.func121, Tryd.ntmps121
    have d0 : decide ((j : Int) < 0) = false := by simp
    go_wp2_with fail
    refine (fields_any s _ c m _ (HS.out.below ((Below.refl _ _).alloc (Nat.le_refl _) _))).mono ?_
    rintro e w' ⟨rfl, rfl⟩
    rw [HL.out]
    go_wp2
    refine bodyPost_ret (v := .agg #[.int .i64 (s.k m j), .int .i64 (s.t m j)]) (by simp [results, Tryd.results121, go_sem]) rfl ⟨rfl, ?_⟩
    (repeat (first | with_reducible exact Below.refl _ _ | with_reducible refine Below.drew ?_ | (with_reducible refine Below.setCell ?_ ?side _; case side => exact (by first | (simp; done) | (simp; omega) | omega)) | (with_reducible refine Below.alloc ?_ ?side _; case side => exact (by first | (simp; done) | (simp; omega) | omega))))
  · have hk : kAt s t i = 0 := if_neg h
    have ht : tAt s t i = 0 := if_neg h
    rw [hk, ht]
    go_enter Tryd.func121, Tryd.ntmps121
    by_cases hi : i < 0
    · have d0 : decide (i < 0) = true := by simpa using hi
      go_wp2
      refine bodyPost_ret (v := .agg #[.int .i64 0, .int .i64 0]) (by simp [results, Tryd.results121, go_sem]) rfl ⟨rfl, ?_⟩
      (repeat (first | with_reducible exact Below.refl _ _ | with_reducible refine Below.drew ?_ | (with_reducible refine Below.setCell ?_ ?side _; case side => exact (by first | (simp; done) | (simp; omega) | omega)) | (with_reducible refine Below.alloc ?_ ?side _; case side => exact (by first | (simp; done) | (simp; omega) | omega))))
    · have d0 : decide (i < 0) = false := by simpa using hi
      have d1 : decide (lenAt s t ≤ i) = true := by
        by_cases g : hasT s t
        · rw [lenAt, if_pos g]
          have : ¬ (0 ≤ i ∧ i < s.len t.toNat) := fun k => h ⟨g, k⟩
          simp only [decide_eq_true_eq]
          omega
        · rw [lenAt, if_neg g]; simp only [decide_eq_true_eq]; omega
      go_wp2_with fail
      refine (fields_any s _ c t _ (HS.out.below ((Below.refl _ _).alloc (Nat.le_refl _) _))).mono ?_
      rintro e w' ⟨rfl, rfl⟩
      generalize lenAt s t = L at d1 ⊢
      go_wp2
      refine bodyPost_ret (v := .agg #[.int .i64 0, .int .i64 0]) (by simp [results, Tryd.results121, go_sem]) rfl ⟨rfl, ?_⟩
      (repeat (first | with_reducible exact Below.refl _ _ | with_reducible refine Below.drew ?_ | (with_reducible refine Below.setCell ?_ ?side _; case side => exact (by first | (simp; done) | (simp; omega) | omega)) | (with_reducible refine Below.alloc ?_ ?side _; case side => exact (by first | (simp; done) | (simp; omega) | omega))))

theorem fld_0 (a b : Int) (w : World) : (Instr.field 95 (.agg #[.int .i64 a, .int .i64 b]) 0).run Tryd.prog w = .ok (.int .i64 a) w := by kernel_rfl
theorem fld_1 (a b : Int) (w : World) : (Instr.field 95 (.agg #[.int .i64 a, .int .i64 b]) 1).run Tryd.prog w = .ok (.int .i64 b) w := by kernel_rfl
set_option maxRecDepth 100000 in
set_option maxHeartbeats 1000000 in
theorem kind_any (s : Sch) (A : Option Addr) (c : Nat) (t i : Int) (w : World) (hr : SAt w A s) : Calls Tryd.prog 85 #[.slice A s.n c, .int .i64 t, .int .i64 i] w fun e w' => e = .returned (.int .i64 (kAt s t i)) ∧ Below w.heap.size w w' := by
  have HS := Lib.hid hr
  clear hr
  go_enter Tryd.func85, Tryd.ntmps85
  go_wp2_with fail
  refine (field_any s _ c t i _ HS.out).mono ?_
  rintro e w' ⟨rfl, hb⟩
  have HB := Lib.hid hb
  clear hb
  have f0 := fld_0
  have f1 := fld_1
  go_wp2
  go_ret
  exact ⟨rfl, HB.out⟩
set_option maxRecDepth 100000 in
set_option maxHeartbeats 1000000 in
theorem type_any (s : Sch) (A : Option Addr) (c : Nat) (t i : Int) (w : World) (hr : SAt w A s) : Calls Tryd.prog 86 #[.slice A s.n c, .int .i64 t, .int .i64 i] w fun e w' => e = .returned (.int .i64 (tAt s t i)) ∧ Below w.heap.size w w' := by
  have HS := Lib.hid hr
  clear hr
  go_enter Tryd.func86, Tryd.ntmps86
  go_wp2_with fail
  refine (field_any s _ c t i _ HS.out).mono ?_
  rintro e w' ⟨rfl, hb⟩
  have HB := Lib.hid hb
  clear hb
  have f0 := fld_0
  have f1 := fld_1
  go_wp2
  go_ret
  exact ⟨rfl, HB.out⟩


end Go.Proofs.YtkhbhkllnigbgaaDoor

namespace Go.Proofs.YtkhbhkllnigbgaaDoor
open Go.RowKit
set_option maxRecDepth 100000 in
set_option maxHeartbeats 4000000 in
theorem r5Right_any (s : Sch) (A : Option Addr) (c : Nat) (w : World) (hr : SAt w A s) : Calls Tryd.prog 51 #[.slice A s.n c] w fun e w' => e = .returned (.bool (okS s)) ∧ Below w.heap.size w w' := by
  obtain ⟨n, HN⟩ : ∃ n, Hid (s.n = n) := ⟨_, Lib.hid rfl⟩
  by_cases hL : 1 ≤ n ∧ n ≤ 8
  · obtain ⟨b, off, rfl, hb, hc⟩ := hr.some_ (by rw [HN.out]; omega)
    have HR := Lib.hid hc
    clear hr hc
    rw [HN.out]
    go_enter Tryd.func51, Tryd.ntmps51
    go_wp2
    go_loopw [3] (fun i wr => ∃ m : Nat, m ≤ n ∧ i = .int .i64 m ∧ Below w.heap.size w wr ∧ ∀ j, j < m → rowOk s j) (fun i _ => n - (intOf i).toNat)
    case atStart => exact ⟨0, by omega, rfl, Below.refl _ _, fun j hj => by omega⟩
    case round =>
      obtain ⟨m, hm, rfl, hB, hp⟩ := hrel
      have HB := Lib.hid hB
      have HP := Lib.hid hp
      clear hB hp
      by_cases hlt : m < n
      · obtain ⟨Ai, ci, hcell, hfr⟩ := HR.out m (by rw [HN.out]; exact hlt)
        have c1 := (HB.out.cell (p := ⟨b, off + m, none⟩) hb).trans hcell
        have HCE := Lib.hid hcell
        clear hcell
        obtain ⟨L, HL⟩ : ∃ L, Hid (s.len m = L) := ⟨_, Lib.hid rfl⟩
        rw [HL.out] at c1 hfr
        by_cases hl : 1 ≤ L ∧ L ≤ 6
        · obtain ⟨b', off', rfl, hb', hc'⟩ := hfr.some_ (by omega)
          have HF := Lib.hid hc'
          clear hc' hfr
          go_wp2
          go_loopw [4] (fun i wr => ∃ q : Nat, q ≤ L ∧ i = .int .i64 q ∧ Below w.heap.size w wr ∧ ∀ j, j < q → fieldOk n (s.k m j) (s.t m j)) (fun i _ => L - (intOf i).toNat)
          case atStart => exact ⟨0, by omega, rfl, HB.out, fun j hj => by omega⟩
          case round =>
            clear HB c1
            obtain ⟨q, hq, rfl, hB, hp⟩ := hrel
            have HB := Lib.hid hB
            have HQ := Lib.hid hp
            clear hB hp
            have c1 := (HB.out.cell (p := ⟨b, off + m, none⟩) hb).trans HCE.out
            rw [HL.out] at c1
            by_cases hq1 : q < L
            · have c2 := (HB.out.cell (p := ⟨b', off' + q * 2, none⟩) hb').trans (HF.out q hq1).1
              have c3 := (HB.out.cell (p := ⟨b', off' + q * 2 + 1, none⟩) hb').trans (HF.out q hq1).2
              have hzw := HB.out.size
              have HFO : Hid (fieldOk n (s.k m q) (s.t m q) ↔ fieldOk s.n (s.k m q) (s.t m q)) := Lib.hid (by rw [HN.out])
              have HQL : Hid (q < s.len m) := Lib.hid (by rw [HL.out]; exact hq1)
              have HML : Hid (m < s.n) := Lib.hid (by rw [HN.out]; exact hlt)
              obtain ⟨k, hk⟩ : ∃ k, k = s.k m q := ⟨_, rfl⟩
              obtain ⟨t, ht⟩ : ∃ t, t = s.t m q := ⟨_, rfl⟩
              rw [← hk] at c2
              rw [← ht] at c3
              rw [← hk, ← ht] at HFO
              have HK := Lib.hid hk
              have HT := Lib.hid ht
              clear hk ht
              by_cases hf : fieldOk n k t
              · have hf' := hf
                unfold fieldOk at hf'
                obtain ⟨f1, f2, f3, f4, f5⟩ := hf'
                by_cases h4 : k < 4
                · have ht0 := f5 h4
                  clear f5
                  go_wp2
                  go_roundw
                  case rel =>
                    refine ⟨q + 1, by omega, by go_num, by (repeat (first | with_reducible exact Below.refl _ _ | with_reducible exact HB.out | with_reducible refine Below.drew ?_ | (with_reducible refine Below.setCell ?_ ?side _; case side => exact (by have := (HB.out).size; first | (simp; done) | (simp; omega) | omega)) | (with_reducible refine Below.alloc ?_ ?side _; case side => exact (by have := (HB.out).size; first | (simp; done) | (simp; omega) | omega)))), fun j hj => ?_⟩
                    by_cases e : j = q
                    · subst e; rw [← HK.out, ← HT.out]; exact hf
                    · exact HQ.out j (by omega)
                  case measure => simp [intOf]; omega
                · clear f5
                  go_wp2
                  go_roundw
                  case rel =>
                    refine ⟨q + 1, by omega, by go_num, by (repeat (first | with_reducible exact Below.refl _ _ | with_reducible exact HB.out | with_reducible refine Below.drew ?_ | (with_reducible refine Below.setCell ?_ ?side _; case side => exact (by have := (HB.out).size; first | (simp; done) | (simp; omega) | omega)) | (with_reducible refine Below.alloc ?_ ?side _; case side => exact (by have := (HB.out).size; first | (simp; done) | (simp; omega) | omega)))), fun j hj => ?_⟩
                    by_cases e : j = q
                    · subst e; rw [← HK.out, ← HT.out]; exact hf
                    · exact HQ.out j (by omega)
                  case measure => simp [intOf]; omega
              · have HNO : Hid (okS s = false) := Lib.hid (okS_false fun h => hf (HFO.out.2 (by rw [HK.out, HT.out]; exact (h.2.2 m HML.out).2.2 q HQL.out)))
                unfold fieldOk at hf
                go_wp2
                all_goals first
                  | (exfalso; omega)
                  | (exfalso; simp only [bne_iff_ne, ne_eq, bne_eq_false_iff_eq] at *; omega)
                  | (go_ret; exact ⟨ret_bool HNO.out.symm, by (repeat (first | with_reducible exact Below.refl _ _ | with_reducible exact HB.out | with_reducible refine Below.drew ?_ | (with_reducible refine Below.setCell ?_ ?side _; case side => exact (by have := (HB.out).size; first | (simp; done) | (simp; omega) | omega)) | (with_reducible refine Below.alloc ?_ ?side _; case side => exact (by have := (HB.out).size; first | (simp; done) | (simp; omega) | omega))))⟩)
            · go_wp2
              go_roundw
              case rel =>
                refine ⟨m + 1, by omega, by go_num, HB.out, fun j hj => ?_⟩
                by_cases e : j = m
                · subst e
                  refine ⟨by rw [HL.out]; omega, by rw [HL.out]; omega, fun i hi => ?_⟩
                  rw [HN.out]
                  exact HQ.out i (by have := HL.out; omega)
                · exact HP.out j (by omega)
              case measure => simp [intOf]; omega
        · have hno : okS s = false := okS_false fun h => hl ⟨by rw [← HL.out]; exact (h.2.2 m (by rw [HN.out]; exact hlt)).1, by rw [← HL.out]; exact (h.2.2 m (by rw [HN.out]; exact hlt)).2.1⟩
          have HNO := Lib.hid hno
          clear hno
          go_wp2
          all_goals
            go_ret
            exact ⟨ret_bool HNO.out.symm, HB.out⟩
      · go_wp2
        go_ret
        have e : m = n := by omega
        subst e
        exact ⟨ret_bool (okS_true ⟨by rw [HN.out]; omega, by rw [HN.out]; omega, fun i hi => HP.out i (by rw [← HN.out]; exact hi)⟩).symm, HB.out⟩
  · have hf : okS s = false := okS_false fun h => hL ⟨by rw [← HN.out]; exact h.1, by rw [← HN.out]; exact h.2.1⟩
    rw [hf, HN.out]
    go_enter Tryd.func51, Tryd.ntmps51
    go_wp2
    all_goals
      go_ret
      exact ⟨rfl, Below.refl _ _⟩

end Go.Proofs.YtkhbhkllnigbgaaDoor

namespace Go.Proofs.YtkhbhkllnigbgaaDoor
open Go.ChangeShapes Go.WideShapes Go.ChangeAt Go.RowKit
theorem quiet_eq {P : Program} {f : FuncId} {args : Array Value} {w : World} {n : Nat} {v : Value}
    (h : Calls P f args (w.drewN n) fun e w' => e = .returned v ∧ w.drewN n = w') : Calls P f args (w.drewN n) fun e w'' => e = .returned v ∧ ∃ m, w'' = w.drewN m :=
  h.mono fun _ _ ⟨he, hm⟩ => ⟨he, n, hm.symm⟩
theorem below_drewN {B : Nat} {a b : World} (h : Below B a b) (m : Nat) : Below B a (b.drewN m) := ⟨h.os, h.tape, h.output, h.size, h.block⟩
theorem pow6 (j : Nat) : 2 ^ (j * 6) = 64 ^ j := by rw [Nat.mul_comm, Nat.pow_mul]
/-- A part more is put into a word. -/
theorem or_part (a x p : Nat) (ha : a < 2 ^ p) (h : a + x * 2 ^ p < 18446744073709551616) : bits .or .u64 (a : Int) (IntKind.u64.wrap ((x : Int) * 2 ^ p)) = ((a + x * 2 ^ p : Nat) : Int) := by
  have e : (x : Int) * 2 ^ p = ((x * 2 ^ p : Nat) : Int) := by rw [Int.natCast_mul, Int.natCast_pow]; rfl
  have e2 : IntKind.u64.wrap ((x * 2 ^ p : Nat) : Int) = ((x * 2 ^ p : Nat) : Int) := by rw [IntKind.wrap_u64]; omega
  rw [e, e2, u64_or_nat _ _ (by omega) (by omega), Nat.or_comm, ← Nat.shiftLeft_eq, ← Nat.shiftLeft_add_eq_or_of_lt ha, Nat.add_comm]

theorem row_put (f : Nat → Nat) (m j : Nat) : (if j = m then Value.int .u64 (f m : Nat) else .int .u64 (if j < m then f j else 0 : Nat)) = .int .u64 (if j < m + 1 then f j else 0 : Nat) := by
  by_cases e : j = m
  · subst e; simp
  · by_cases h : j < m
    · rw [if_neg e, if_pos h, if_pos (by omega)]
    · rw [if_neg e, if_neg h, if_neg (by omega)]
theorem info_u64 : (Tryd.prog.info? 26).map (fun i => (i.zero, i.size, i.bytes)) = some (some (.int .u64 0), 1, 8) := by kernel_rfl

end Go.Proofs.YtkhbhkllnigbgaaDoor

namespace Go.Proofs.YtkhbhkllnigbgaaDoor
open Go.ChangeShapes Go.WideShapes Go.ChangeAt Go.RowKit
/-- A row of L words. -/
structure WRow (W : World) (A : Option Addr) (L : Nat) (f : Nat → Nat) : Prop where
  lt : ∀ j, j < L → f j < 18446744073709551616
  some_ : 0 < L → ∃ b off, A = some ⟨b, off, none⟩ ∧ b < W.heap.size ∧ ∀ j, j < L → W.cell? ⟨b, off + j, none⟩ = some (.int .u64 (f j : Nat))
theorem WRow.below {W W' : World} {A : Option Addr} {L : Nat} {f : Nat → Nat} (h : WRow W A L f) (hb : Below W.heap.size W W') : WRow W' A L f :=
  ⟨h.lt, fun h0 => by
    obtain ⟨b, off, hA, hlt, hc⟩ := h.some_ h0
    exact ⟨b, off, hA, Nat.lt_of_lt_of_le hlt hb.size, fun j hj => (hb.cell (p := ⟨b, off + j, none⟩) hlt).trans (hc j hj)⟩⟩
theorem wrow_of_rowIs {W : World} {g n : Nat} {f : Nat → Nat} (h : W.rowIs g 26 n (fun j => .int .u64 (f j : Nat))) (hf : ∀ j, j < n → f j < 18446744073709551616) : WRow W (some ⟨g, 0, none⟩) n f :=
  ⟨hf, fun _ => ⟨g, 0, rfl, h.lt, fun j hj => by rw [Nat.zero_add]; exact h.cell hj⟩⟩

def cellsW (f : Nat → Nat) (n : Nat) : List Value := (List.range n).map fun j => Value.int .u64 (f j : Nat)
theorem cellsW_succ (f : Nat → Nat) (n : Nat) : cellsW f (n + 1) = cellsW f n ++ [.int .u64 (f n : Nat)] := by
  simp [cellsW, List.range_succ]

/-- v is a row of the first m words, made since w. -/
structure RAt (f : Nat → Nat) (w : World) (m : Nat) (v : Value) (W : World) : Prop where
  own : W.ownsRow w.heap.size 26 1 v m (cellsW f m)
  below : Below w.heap.size w W
theorem RAt.next {f : Nat → Nat} {w W w1 : World} {m : Nat} {v v' : Value} (h : RAt f w m v W)
    (ho : w1.ownsRow w.heap.size 26 1 v' (m + 1) (cellsW f m ++ [.int .u64 (f m : Nat)])) (hg : (W.alloc (.cells #[.int .u64 (f m : Nat)] 26)).grownBy w1 v.ownBlock) : RAt f w (m + 1) v' w1 := by
  refine ⟨by rw [cellsW_succ]; exact ho, ?_⟩
  refine (h.below.alloc h.below.size _).trans ⟨hg.os, hg.tape, hg.output, hg.size, fun k hk => hg.block k ?_ ?_⟩
  · have := h.below.size; simp; omega
  · intro e
    have := (h.own.lt k e.symm).1
    omega
theorem addr_add (b off k : Nat) : (⟨b, off, none⟩ : Addr).add k = ⟨b, off + k, none⟩ := by
  unfold Addr.add
  by_cases h : k = 0 <;> simp [h]
theorem RAt.row {f : Nat → Nat} {w W : World} {m : Nat} {v : Value} (h : RAt f w m v W) (hf : ∀ j, j < m → f j < 18446744073709551616) : ∃ A c, v = .slice A m c ∧ WRow W A m f := by
  rcases h.own.2 with ⟨rfl, rfl⟩ | ⟨g, cap, cur, rfl, hg, hh, _⟩
  · exact ⟨none, 0, rfl, hf, fun h => absurd h (by omega)⟩
  · refine ⟨_, _, rfl, hf, fun _ => ⟨g, 0, rfl, (Array.getElem?_eq_some_iff.1 hh).1, fun j hj => ?_⟩⟩
    have := h.own.cells (g := g) rfl j (.int .u64 (f j : Nat)) (by simp [cellsW, hj])
    rw [addr_add] at this
    exact this

theorem RAt.drewN {f : Nat → Nat} {w W : World} {m : Nat} {v : Value} (h : RAt f w m v W) (k : Nat) : RAt f w m v (W.drewN k) := ⟨h.own, below_drewN h.below k⟩
theorem tl_lt (d : Nat → Nat) (c i : Nat) (h : ∀ j, j < i + c → d j < 64) : tl d i c < 64 ^ c := by
  induction c generalizing i with
  | zero => simp [tl]
  | succ c ih =>
    have h1 := ih (i + 1) fun j hj => h j (by omega)
    have h2 := h i (by omega)
    rw [tl, Nat.pow_succ]
    omega
theorem tl_prev (d : Nat → Nat) (L c : Nat) (h : c < L) : tl d (L - (c + 1)) (c + 1) = d (L - (c + 1)) + 64 * tl d (L - c) c := by
  rw [tl, show L - (c + 1) + 1 = L - c by omega]

/-- Rows of words that are the same. -/
def sameW (L L' : Nat) (f f' : Nat → Nat) : Prop := L = L' ∧ ∀ i, i < L → f i = f' i
noncomputable def sameWB (L L' : Nat) (f f' : Nat → Nat) : Bool := @decide (sameW L L' f f') (Classical.propDecidable _)
theorem sameWB_true {L L' : Nat} {f f' : Nat → Nat} (h : sameW L L' f f') : sameWB L L' f f' = true := by simp [sameWB, h]
theorem sameWB_false {L L' : Nat} {f f' : Nat → Nat} (h : ¬ sameW L L' f f') : sameWB L L' f f' = false := by simp [sameWB, h]
/-- The chapter's example: one type, Num and Many of itself. -/
def exS : Sch := ⟨1, fun _ => 2, fun _ j => if j = 0 then 1 else 5, fun _ _ => 0⟩
theorem exS_right : RightS exS := by
  refine ⟨by decide, by decide, fun i hi => ⟨by show 1 ≤ 2; omega, by show 2 ≤ 6; omega, fun j _ => ?_⟩⟩
  by_cases h : j = 0
  · simp [exS, fieldOk, h]
  · simp [exS, fieldOk, h]
theorem exS_wd : wd exS 0 = 2570 := by decide
theorem exS_at (w : World) : SAt ((w.alloc (.cells #[.int .i64 1, .int .i64 0, .int .i64 5, .int .i64 0] 95)).alloc (.cells #[.slice (some ⟨w.heap.size, 0, none⟩) 2 2] 96)) (some ⟨w.heap.size + 1, 0, none⟩) exS := by
  have r1 := (World.rowIs_alloc w #[.int .i64 1, .int .i64 0, .int .i64 5, .int .i64 0] 95 (fun j => if j = 0 then .int .i64 1 else if j = 2 then .int .i64 5 else .int .i64 0) (by intro j hj; match j, hj with | 0, _ => rfl | 1, _ => rfl | 2, _ => rfl | 3, _ => rfl)).alloc (.cells #[.slice (some ⟨w.heap.size, 0, none⟩) 2 2] 96)
  have r2 := World.rowIs_alloc (w.alloc (.cells #[.int .i64 1, .int .i64 0, .int .i64 5, .int .i64 0] 95)) #[.slice (some ⟨w.heap.size, 0, none⟩) 2 2] 96 (fun _ => .slice (some ⟨w.heap.size, 0, none⟩) 2 2) (by intro j hj; match j, hj with | 0, _ => rfl)
  simp only [World.size_alloc] at r2
  refine ⟨fun _ => ⟨w.heap.size + 1, 0, rfl, by simp, fun i hi => ?_⟩⟩
  obtain rfl : i = 0 := by have : i < 1 := hi; omega
  refine ⟨_, 2, r2.cell (i := 0) (by simp), ⟨fun _ => ⟨w.heap.size, 0, rfl, by simp; omega, fun j hj => ?_⟩⟩⟩
  obtain rfl | rfl : j = 0 ∨ j = 1 := by have : j < 2 := hj; omega
  · exact ⟨r1.cell (i := 0) (by simp), r1.cell (i := 1) (by simp)⟩
  · exact ⟨r1.cell (i := 2) (by simp), r1.cell (i := 3) (by simp)⟩

end Go.Proofs.YtkhbhkllnigbgaaDoor
