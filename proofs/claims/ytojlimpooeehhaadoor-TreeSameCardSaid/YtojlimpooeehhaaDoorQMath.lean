/- Schemas, as numbers: when one is right; its words; how deep its types are. -/
namespace Go.Proofs.YtojlimpooeehhaaDoor
open Nat

/-- A schema: how many types, how many fields each has, their kinds, their types. -/
structure Sch where
  n : Nat
  len : Nat → Nat
  k : Nat → Nat → Int
  t : Nat → Nat → Int

def fieldOk (n : Nat) (k t : Int) : Prop := 1 ≤ k ∧ k ≤ 5 ∧ 0 ≤ t ∧ t < n ∧ (k < 4 → t = 0)
def rowOk (s : Sch) (i : Nat) : Prop := 1 ≤ s.len i ∧ s.len i ≤ 6 ∧ ∀ j, j < s.len i → fieldOk s.n (s.k i j) (s.t i j)
/-- A schema is right. -/
def RightS (s : Sch) : Prop := 1 ≤ s.n ∧ s.n ≤ 8 ∧ ∀ i, i < s.n → rowOk s i
noncomputable def okS (s : Sch) : Bool := @decide (RightS s) (Classical.propDecidable _)
theorem okS_true {s : Sch} (h : RightS s) : okS s = true := by simp [okS, h]
theorem okS_false {s : Sch} (h : ¬ RightS s) : okS s = false := by simp [okS, h]
theorem right_of_okS {s : Sch} (h : okS s = true) : RightS s := by simpa [okS] using h
theorem not_right {s : Sch} (h : okS s = false) : ¬ RightS s := fun g => by rw [okS_true g] at h; cases h

/-- Two schemas are the same. -/
def sameS (a b : Sch) : Prop := a.n = b.n ∧ ∀ i, i < a.n → a.len i = b.len i ∧ ∀ j, j < a.len i → a.k i j = b.k i j ∧ a.t i j = b.t i j
theorem sameS_refl (a : Sch) : sameS a a := ⟨rfl, fun _ _ => ⟨rfl, fun _ _ => ⟨rfl, rfl⟩⟩⟩
theorem sameS_symm {a b : Sch} (h : sameS a b) : sameS b a :=
  ⟨h.1.symm, fun i hi => ⟨(h.2 i (by rw [h.1]; exact hi)).1.symm, fun j hj => by
    have h1 := h.2 i (by rw [h.1]; exact hi)
    have h2 := h1.2 j (by rw [h1.1]; exact hj)
    exact ⟨h2.1.symm, h2.2.symm⟩⟩⟩
theorem RightS.congr {a b : Sch} (h : sameS a b) (g : RightS a) : RightS b := by
  refine ⟨h.1 ▸ g.1, h.1 ▸ g.2.1, fun i hi => ?_⟩
  have h1 := h.2 i (by rw [h.1]; exact hi)
  have g1 := g.2.2 i (by rw [h.1]; exact hi)
  refine ⟨h1.1 ▸ g1.1, h1.1 ▸ g1.2.1, fun j hj => ?_⟩
  have hj' : j < a.len i := by rw [h1.1]; exact hj
  have h2 := h1.2 j hj'
  have g2 := g1.2.2 j hj'
  rw [h2.1, h2.2, h.1] at g2
  exact g2
noncomputable def sameB (a b : Sch) : Bool := @decide (sameS a b) (Classical.propDecidable _)
theorem sameB_true {a b : Sch} (h : sameS a b) : sameB a b = true := by simp [sameB, h]
theorem sameB_false {a b : Sch} (h : ¬ sameS a b) : sameB a b = false := by simp [sameB, h]

/-- Digits of 64 each. -/
def hs (d : Nat → Nat) : Nat → Nat
  | 0 => 0
  | m + 1 => hs d m + d m * 64 ^ m
def tl (d : Nat → Nat) : Nat → Nat → Nat
  | _, 0 => 0
  | i, c + 1 => d i + 64 * tl d (i + 1) c
theorem hs_lt (d : Nat → Nat) (m : Nat) (h : ∀ j, j < m → d j < 64) : hs d m < 64 ^ m := by
  induction m with
  | zero => simp [hs]
  | succ m ih =>
    have h1 := ih fun j hj => h j (by omega)
    have h2 := h m (by omega)
    have h3 : d m * 64 ^ m ≤ 63 * 64 ^ m := Nat.mul_le_mul_right _ (by omega)
    rw [hs, Nat.pow_succ]
    omega
theorem hs_tl (d : Nat → Nat) (c i : Nat) : hs d i + tl d i c * 64 ^ i = hs d (i + c) := by
  induction c generalizing i with
  | zero => simp [tl]
  | succ c ih =>
    have h := ih (i + 1)
    rw [show i + (c + 1) = i + 1 + c by omega, ← h, tl, hs, Nat.pow_succ, Nat.add_mul, Nat.add_assoc, Nat.mul_comm 64 (tl d (i + 1) c), Nat.mul_assoc, Nat.mul_comm 64 (64 ^ i)]
theorem tl_hs (d : Nat → Nat) (m : Nat) : tl d 0 m = hs d m := by
  have := hs_tl d m 0
  simpa [hs] using this
theorem hs_congr {d d' : Nat → Nat} {m : Nat} (h : ∀ j, j < m → d j = d' j) : hs d m = hs d' m := by
  induction m with
  | zero => rfl
  | succ m ih => rw [hs, hs, ih fun j hj => h j (by omega), h m (by omega)]
/-- The j-th digit. -/
def dig (w j : Nat) : Nat := w / 64 ^ j % 64
theorem hs_dig (w m : Nat) : hs (dig w) m = w % 64 ^ m := by
  induction m with
  | zero => simp [hs, Nat.mod_one]
  | succ m ih => rw [hs, ih, Nat.mod_pow_succ, dig, Nat.mul_comm]
theorem dig_hs (d : Nat → Nat) (m k : Nat) (hk : k < m) (h : ∀ j, j < m → d j < 64) : dig (hs d m) k = d k := by
  induction m with
  | zero => omega
  | succ m ih =>
    by_cases e : k = m
    · subst e
      have h1 := hs_lt d k fun j hj => h j (by omega)
      have h2 := h k (by omega)
      rw [dig, hs, Nat.add_mul_div_right _ _ (Nat.pow_pos (by omega)), Nat.div_eq_of_lt h1, Nat.zero_add, Nat.mod_eq_of_lt h2]
    · rw [← ih (by omega) fun j hj => h j (by omega)]
      obtain ⟨i, hi⟩ : ∃ i, m = k + 1 + i := ⟨m - k - 1, by omega⟩
      have e1 : d m * 64 ^ m = d m * 64 ^ i * 64 * 64 ^ k := by
        rw [hi, show k + 1 + i = i + 1 + k by omega, Nat.pow_add, Nat.pow_add, ← Nat.mul_assoc, ← Nat.mul_assoc]
      rw [dig, hs, e1, Nat.add_mul_div_right _ _ (Nat.pow_pos (by omega)), Nat.add_mul_mod_self_right, dig]

/-- A field's digit; a type's word. -/
def fd (s : Sch) (i j : Nat) : Nat := (s.k i j).toNat + 8 * (s.t i j).toNat
def wd (s : Sch) (i : Nat) : Nat := s.len i + 8 * hs (fd s i) (s.len i)
theorem RightS.field {s : Sch} (h : RightS s) {i j : Nat} (hi : i < s.n) (hj : j < s.len i) : 1 ≤ s.k i j ∧ s.k i j ≤ 5 ∧ 0 ≤ s.t i j ∧ s.t i j < 8 := by
  have h1 := h.2.1
  obtain ⟨a, b, c, d, e⟩ := (h.2.2 i hi).2.2 j hj
  omega
theorem RightS.fd_lt {s : Sch} (h : RightS s) {i j : Nat} (hi : i < s.n) (hj : j < s.len i) : fd s i j < 64 := by
  have := h.field hi hj
  unfold fd
  omega
theorem pow_le6 {m : Nat} (h : m ≤ 6) : (64 : Nat) ^ m ≤ 68719476736 := by
  have := Nat.pow_le_pow_right (n := 64) (by omega) h
  omega
theorem RightS.hs_lt {s : Sch} (h : RightS s) {i : Nat} (hi : i < s.n) : hs (fd s i) (s.len i) < 64 ^ s.len i := Proofs.YtojlimpooeehhaaDoor.hs_lt _ _ fun _ hj => h.fd_lt hi hj
theorem RightS.wd_lt {s : Sch} (h : RightS s) {i : Nat} (hi : i < s.n) : wd s i < 1000000000000 := by
  have h1 := h.hs_lt hi
  have h2 := (h.2.2 i hi).2.1
  have h3 := pow_le6 h2
  unfold wd
  omega
theorem wd_congr {a b : Sch} (h : sameS a b) {i : Nat} (hi : i < a.n) : wd a i = wd b i := by
  obtain ⟨h1, h2⟩ := h.2 i hi
  unfold wd
  rw [← h1, hs_congr (d' := fd b i) fun j hj => by unfold fd; rw [(h2 j hj).1, (h2 j hj).2]]

/-- The schema of words. -/
def unS (f : Nat → Nat) (L : Nat) : Sch := ⟨L, fun i => f i % 8, fun i j => ((dig (f i / 8) j % 8 : Nat) : Int), fun i j => ((dig (f i / 8) j / 8 : Nat) : Int)⟩
/-- Nothing is left in a word behind its fields. -/
def noRest (f : Nat → Nat) (L : Nat) : Prop := ∀ i, i < L → f i / 8 / 64 ^ (f i % 8) = 0
def readOk (f : Nat → Nat) (L : Nat) : Prop := RightS (unS f L) ∧ noRest f L
noncomputable def readB (f : Nat → Nat) (L : Nat) : Bool := @decide (readOk f L) (Classical.propDecidable _)
theorem readB_true {f : Nat → Nat} {L : Nat} (h : readOk f L) : readB f L = true := by simp [readB, h]
theorem readB_false {f : Nat → Nat} {L : Nat} (h : ¬ readOk f L) : readB f L = false := by simp [readB, h]
theorem readOk_of {f : Nat → Nat} {L : Nat} (h : readB f L = true) : readOk f L := by simpa [readB] using h
theorem dig_lt (w j : Nat) : dig w j < 64 := Nat.mod_lt _ (by omega)
theorem fd_unS (f : Nat → Nat) (L i j : Nat) : fd (unS f L) i j = dig (f i / 8) j := by
  have := dig_lt (f i / 8) j
  simp only [fd, unS, Int.toNat_natCast]
  omega
theorem wd_unS (f : Nat → Nat) (L i : Nat) : wd (unS f L) i = f i % 8 + 8 * (f i / 8 % 64 ^ (f i % 8)) := by
  rw [wd, hs_congr (d' := dig (f i / 8)) fun j _ => fd_unS f L i j, hs_dig]
  rfl
theorem noRest_iff (f : Nat → Nat) (L : Nat) : noRest f L ↔ ∀ i, i < L → wd (unS f L) i = f i := by
  refine ⟨fun h i hi => ?_, fun h i hi => ?_⟩
  · have h1 := h i hi
    rw [Nat.div_eq_zero_iff] at h1
    have hp : 0 < 64 ^ (f i % 8) := Nat.pow_pos (by omega)
    rw [wd_unS, Nat.mod_eq_of_lt (show f i / 8 < 64 ^ (f i % 8) by omega)]
    omega
  · have h1 := h i hi
    rw [wd_unS] at h1
    have h2 : f i / 8 % 64 ^ (f i % 8) < 64 ^ (f i % 8) := Nat.mod_lt _ (Nat.pow_pos (by omega))
    exact Nat.div_eq_of_lt (by omega)
theorem len_wd {s : Sch} (h : RightS s) {i : Nat} (hi : i < s.n) : wd s i % 8 = s.len i := by
  have := (h.2.2 i hi).2.1
  unfold wd
  omega
theorem rest_wd {s : Sch} (h : RightS s) {i : Nat} (hi : i < s.n) : wd s i / 8 = hs (fd s i) (s.len i) := by
  have := (h.2.2 i hi).2.1
  unfold wd
  omega
/-- What was packed is read. -/
theorem unS_wd {s : Sch} (h : RightS s) : sameS (unS (wd s) s.n) s := by
  refine ⟨rfl, fun i hi => ⟨len_wd h hi, fun j hj => ?_⟩⟩
  have hj' : j < s.len i := by
    have h1 : (unS (wd s) s.n).len i = wd s i % 8 := rfl
    rw [h1, len_wd h hi] at hj
    exact hj
  have hd : dig (wd s i / 8) j = fd s i j := by rw [rest_wd h hi]; exact dig_hs _ _ _ hj' fun j hj => h.fd_lt hi hj
  have hf := h.field hi hj'
  have e1 : (unS (wd s) s.n).k i j = ((dig (wd s i / 8) j % 8 : Nat) : Int) := rfl
  have e2 : (unS (wd s) s.n).t i j = ((dig (wd s i / 8) j / 8 : Nat) : Int) := rfl
  rw [e1, e2, hd]
  unfold fd
  omega
theorem readOk_wd {s : Sch} (h : RightS s) : readOk (wd s) s.n := by
  refine ⟨RightS.congr (sameS_symm (unS_wd h)) h, (noRest_iff _ _).2 fun i hi => wd_congr (unS_wd h) hi⟩
/-- No two schemas are packed to the same. -/
theorem wd_inj {a b : Sch} (ha : RightS a) (hb : RightS b) (hn : a.n = b.n) (h : ∀ i, i < a.n → wd a i = wd b i) : sameS a b := by
  have h1 := sameS_symm (unS_wd ha)
  have h2 := unS_wd hb
  refine ⟨hn, fun i hi => ?_⟩
  obtain ⟨a1, a2⟩ := h1.2 i hi
  have hi2 : i < (unS (wd b) b.n).n := by show i < b.n; omega
  obtain ⟨b1, b2⟩ := h2.2 i hi2
  have e1 : (unS (wd a) a.n).len i = (unS (wd b) b.n).len i := by show wd a i % 8 = wd b i % 8; rw [h i hi]
  refine ⟨a1.trans (e1.trans b1), fun j hj => ?_⟩
  obtain ⟨p1, p2⟩ := a2 j hj
  obtain ⟨q1, q2⟩ := b2 j (by omega)
  have e2 : (unS (wd a) a.n).k i j = (unS (wd b) b.n).k i j := by show ((dig (wd a i / 8) j % 8 : Nat) : Int) = ((dig (wd b i / 8) j % 8 : Nat) : Int); rw [h i hi]
  have e3 : (unS (wd a) a.n).t i j = (unS (wd b) b.n).t i j := by show ((dig (wd a i / 8) j / 8 : Nat) : Int) = ((dig (wd b i / 8) j / 8 : Nat) : Int); rw [h i hi]
  exact ⟨p1.trans (e2.trans q1), p2.trans (e3.trans q2)⟩

/-- The greatest of the first m. -/
def mx (f : Nat → Nat) : Nat → Nat
  | 0 => 0
  | m + 1 => max (mx f m) (f m)
theorem mx_le (f : Nat → Nat) (m e : Nat) : mx f m ≤ e ↔ ∀ j, j < m → f j ≤ e := by
  induction m with
  | zero => simp [mx]
  | succ m ih =>
    rw [mx, Nat.max_le, ih]
    refine ⟨fun h j hj => ?_, fun h => ⟨fun j hj => h j (by omega), h m (by omega)⟩⟩
    by_cases e : j = m
    · rw [e]; exact h.2
    · exact h.1 j (by omega)
/-- Type i is no deeper than d. -/
def lv (s : Sch) : Nat → Nat → Prop
  | 0, _ => False
  | d + 1, i => ∀ j, j < s.len i → 4 ≤ s.k i j → lv s d (s.t i j).toNat
theorem lv_succ (s : Sch) (d i : Nat) (h : lv s d i) : lv s (d + 1) i := by
  induction d generalizing i with
  | zero => exact absurd h id
  | succ d ih => exact fun j hj hk => ih _ (h j hj hk)
theorem lv_mono (s : Sch) {d e : Nat} (i : Nat) (h : lv s d i) (hd : d ≤ e) : lv s e i := by
  induction e with
  | zero => rw [show d = 0 by omega] at h; exact absurd h id
  | succ e ih =>
    by_cases h1 : d = e + 1
    · rw [← h1]; exact h
    · exact lv_succ s e i (ih (by omega))
/-- How deep, by rounds. -/
def dr (s : Sch) : Nat → Nat → Nat
  | 0, _ => 0
  | r + 1, i => max 1 (mx (fun j => if 4 ≤ s.k i j then dr s r (s.t i j).toNat + 1 else 0) (s.len i))
theorem dr_le (s : Sch) (r e i : Nat) : dr s r i ≤ e ↔ lv s e i ∨ r ≤ e := by
  induction r generalizing e i with
  | zero => simp [dr]
  | succ r ih =>
    rw [dr, Nat.max_le, mx_le]
    cases e with
    | zero =>
      refine ⟨fun h => by omega, fun h => ?_⟩
      rcases h with h | h
      · exact absurd h id
      · omega
    | succ e =>
      refine ⟨fun h => ?_, fun h => ⟨by omega, fun j hj => ?_⟩⟩
      · by_cases hr : r ≤ e
        · exact .inr (by omega)
        · refine .inl fun j hj hk => ?_
          have h1 := h.2 j hj
          rw [if_pos hk] at h1
          rcases (ih e (s.t i j).toNat).1 (by omega) with g | g
          · exact g
          · exact absurd g hr
      · by_cases hk : 4 ≤ s.k i j
        · rw [if_pos hk]
          have : dr s r (s.t i j).toNat ≤ e := (ih e _).2 (by
            rcases h with h | h
            · exact .inl (h j hj hk)
            · exact .inr (by omega))
          omega
        · rw [if_neg hk]; omega
/-- How deep type i is. -/
def deepS (s : Sch) (i : Nat) : Nat := dr s 6 i
theorem deepS_le (s : Sch) (i e : Nat) : deepS s i ≤ e ↔ lv s e i ∨ 6 ≤ e := dr_le s 6 e i
theorem deepS_pos (s : Sch) (i : Nat) : 1 ≤ deepS s i := by
  rcases Nat.eq_zero_or_pos (deepS s i) with h | h
  · rcases (deepS_le s i 0).1 (by omega) with g | g
    · exact absurd g id
    · omega
  · exact h
theorem deepS_six (s : Sch) (i : Nat) : deepS s i ≤ 6 := (deepS_le s i 6).2 (.inr (by omega))
theorem deepS_eq {s : Sch} {i v : Nat} (h : ∀ e, v ≤ e ↔ lv s e i ∨ 6 ≤ e) : v = deepS s i := by
  have h1 := (h (deepS s i)).2 ((deepS_le s i _).1 (Nat.le_refl _))
  have h2 := (deepS_le s i v).2 ((h v).1 (Nat.le_refl _))
  omega
/-- What the law says of it. -/
theorem deepS_law (s : Sch) (i : Nat) : deepS s i = min (mx (fun j => if 4 ≤ s.k i j then deepS s (s.t i j).toNat else 0) (s.len i) + 1) 6 := by
  refine (deepS_eq fun e => ?_).symm
  by_cases h6 : 6 ≤ e
  · simp [h6]; omega
  · cases e with
    | zero =>
      refine ⟨fun h => by omega, fun h => ?_⟩
      rcases h with h | h
      · exact absurd h id
      · omega
    | succ e =>
      have h1 : (min (mx (fun j => if 4 ≤ s.k i j then deepS s (s.t i j).toNat else 0) (s.len i) + 1) 6 ≤ e + 1) ↔ mx (fun j => if 4 ≤ s.k i j then deepS s (s.t i j).toNat else 0) (s.len i) ≤ e := by omega
      rw [h1, mx_le]
      refine ⟨fun h => .inl fun j hj hk => ?_, fun h j hj => ?_⟩
      · have h2 := h j hj
        rw [if_pos hk] at h2
        rcases (deepS_le s _ e).1 h2 with g | g
        · exact g
        · omega
      · by_cases hk : 4 ≤ s.k i j
        · rw [if_pos hk]
          rcases h with h | h
          · exact (deepS_le s _ e).2 (.inl (h j hj hk))
          · omega
        · rw [if_neg hk]; omega

/-- Depths, as the program finds them: behind round d, a type that is no deeper than d is told, all others are 6. -/
def fnd (s : Sch) (d i v : Nat) : Prop := ∀ e, v ≤ e ↔ (lv s e i ∧ e ≤ d ∨ lv s d i ∧ d ≤ e) ∨ 6 ≤ e
theorem fnd_zero (s : Sch) (i : Nat) : fnd s 0 i 6 := fun e => by
  refine ⟨fun h => .inr h, fun h => ?_⟩
  rcases h with (⟨h, g⟩ | ⟨h, _⟩) | h
  · rw [show e = 0 by omega] at h; exact absurd h id
  · exact absurd h id
  · exact h
theorem fnd_less {s : Sch} {d i v : Nat} (h : fnd s d i v) (hd : d < 6) : v < d + 1 ↔ lv s d i := by
  rw [Nat.lt_succ_iff, h d]
  refine ⟨fun g => ?_, fun g => .inl (.inl ⟨g, Nat.le_refl _⟩)⟩
  rcases g with (⟨g, _⟩ | ⟨g, _⟩) | g
  · exact g
  · exact g
  · omega
theorem fnd_yes {s : Sch} {d i v : Nat} (h : fnd s d i v) (g : lv s (d + 1) i) (hd : d < 6) : fnd s (d + 1) i (min v (d + 1)) := fun e => by
  rw [show min v (d + 1) ≤ e ↔ v ≤ e ∨ d + 1 ≤ e by omega, h e]
  by_cases h1 : d + 1 ≤ e
  · exact ⟨fun _ => .inl (.inr ⟨g, h1⟩), fun _ => .inr h1⟩
  · refine ⟨fun k => ?_, fun k => ?_⟩
    · rcases k with ((⟨k, l⟩ | ⟨k, l⟩) | k) | k
      · exact .inl (.inl ⟨k, by omega⟩)
      · rw [show e = d by omega]; exact .inl (.inl ⟨k, by omega⟩)
      · omega
      · omega
    · rcases k with (⟨k, l⟩ | ⟨k, l⟩) | k
      · exact .inl (.inl (.inl ⟨k, by omega⟩))
      · omega
      · omega
theorem fnd_no {s : Sch} {d i v : Nat} (h : fnd s d i v) (g : ¬ lv s (d + 1) i) : fnd s (d + 1) i v := fun e => by
  have hn : ∀ e, e ≤ d + 1 → ¬ lv s e i := fun e he k => g (lv_mono s i k he)
  rw [h e]
  refine ⟨fun k => ?_, fun k => ?_⟩
  · rcases k with (⟨k, l⟩ | ⟨k, l⟩) | k
    · exact absurd k (hn e (by omega))
    · exact absurd k (hn d (by omega))
    · exact .inr k
  · rcases k with (⟨k, l⟩ | ⟨k, l⟩) | k
    · exact absurd k (hn e (by omega))
    · exact absurd k g
    · exact .inr k
theorem fnd_all {s : Sch} {i v : Nat} (h : fnd s 5 i v) : v = deepS s i := deepS_eq fun e => by
  rw [h e]
  refine ⟨fun k => ?_, fun k => ?_⟩
  · rcases k with (⟨k, l⟩ | ⟨k, l⟩) | k
    · exact .inl k
    · exact .inl (lv_mono s i k l)
    · exact .inr k
  · rcases k with k | k
    · by_cases h6 : 6 ≤ e
      · exact .inr h6
      · exact .inl (.inl ⟨k, by omega⟩)
    · exact .inr k
theorem fnd_six {s : Sch} {d i v : Nat} (h : fnd s d i v) : v ≤ 6 := (h 6).2 (.inr (by omega))
end Go.Proofs.YtojlimpooeehhaaDoor
