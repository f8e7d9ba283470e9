/- Words that are looked at, as numbers: what is claimed, and which trouble comes first. -/
import Derived.Test.YtkhbhkllnigbgaaDoorTCheck
import Derived.Test.YtkhbhkllnigbgaaDoorVText
namespace Go.Proofs.YtkhbhkllnigbgaaDoor
open Go.RowKit
/-- The first trouble (its code, and its word), if there is one; how many words were claimed. -/
abbrev VR := Option (Nat × Nat) × Nat
def thenV (r : VR) (g : Nat → VR) : VR := match r.1 with
  | none => g r.2
  | some e => (some e, r.2)
def itV (f : Nat → Nat → VR) : Nat → Nat → VR
  | 0, c => (none, c)
  | n + 1, c => thenV (itV f n c) (f n)
/-- k words from to on are claimed for the word p. -/
def claimV (N p to k c : Nat) : VR := if N < to + k then (some (23, p), c + k) else if N - 1 < c + k then (some (16, p), c + k) else (none, c + k)
def mostV (k : Int) : Nat := if k = 2 then 40 else if k = 4 then 1 else 12
/-- A field at the word p. -/
noncomputable def fldV (W : Nat → Nat) (N : Nat) (st : Nat → Nat → Nat → Nat → Nat → VR) (k : Int) (τ p c : Nat) : VR :=
  if k = 1 ∨ W p = 0 then (none, c)
  else if W p % 4294967296 = 0 ∨ W p / 4294967296 = 0 ∨ mostV k < W p / 4294967296 then (some (10, p), c)
  else if k = 2 then thenV (claimV N p (p + W p % 4294967296) (cnt (W p / 4294967296)) c) fun c => if Bt.okB (fun j => W (p + W p % 4294967296 + j)) (cnt (W p / 4294967296)) ((W p / 4294967296 : Nat) : Int) then (none, c) else (some (10, p), c)
  else if k = 3 then claimV N p (p + W p % 4294967296) (W p / 4294967296) c
  else st τ p (p + W p % 4294967296) (W p / 4294967296) c
/-- A struct of type t at the word at. -/
noncomputable def visV (s : Sch) (W : Nat → Nat) (N : Nat) (st : Nat → Nat → Nat → Nat → Nat → VR) (t at_ : Nat) (c : Nat) : VR := itV (fun i c => fldV W N st (s.k t i) (s.t t i).toNat (at_ + i) c) (s.len t) c
/-- n structs at the word to, to which the word p refers; r levels are left. -/
noncomputable def strV (s : Sch) (W : Nat → Nat) (N : Nat) : Nat → Nat → Nat → Nat → Nat → Nat → VR
  | 0, _, p, _, _, c => (some (16, p), c)
  | r + 1, τ, p, to, n, c => thenV (claimV N p to (n * s.len τ) c) fun c => itV (fun j c => visV s W N (strV s W N r) τ (to + j * s.len τ) c) n c
/-- All words, of a right schema. -/
noncomputable def bodyV (s : Sch) (W : Nat → Nat) (N : Nat) : VR := thenV (claimV N 0 1 (s.len (W 0 / 4294967296)) 0) fun c => visV s W N (strV s W N 4) (W 0 / 4294967296) 1 c

theorem thenV_none {r : VR} {g : Nat → VR} {c : Nat} (h : r = (none, c)) : thenV r g = g c := by subst h; rfl
theorem thenV_some {r : VR} {g : Nat → VR} {e : Nat × Nat} {c : Nat} (h : r = (some e, c)) : thenV r g = (some e, c) := by subst h; rfl
theorem vr_cases (r : VR) : (∃ c, r = (none, c)) ∨ ∃ k p c, r = (some (k, p), c) := by
  obtain ⟨o, c⟩ := r
  cases o with
  | none => exact .inl ⟨c, rfl⟩
  | some e => exact .inr ⟨e.1, e.2, c, rfl⟩
theorem itV_succ_none {f : Nat → Nat → VR} {n c c1 : Nat} (h : itV f n c = (none, c1)) : itV f (n + 1) c = f n c1 := by rw [itV, thenV_none h]
theorem itV_err {f : Nat → Nat → VR} {i n c c' : Nat} {e : Nat × Nat} (h : itV f i c = (some e, c')) (hi : i ≤ n) : itV f n c = (some e, c') := by
  induction n with
  | zero => obtain rfl : i = 0 := by omega
            exact h
  | succ n ih =>
    by_cases g : i = n + 1
    · subst g; exact h
    · rw [itV, thenV_some (ih (by omega))]
theorem itV_stop {f : Nat → Nat → VR} {i n c c1 c2 : Nat} {e : Nat × Nat} (h : itV f i c = (none, c1)) (hf : f i c1 = (some e, c2)) (hi : i < n) : itV f n c = (some e, c2) := itV_err (i := i + 1) (by rw [itV_succ_none h, hf]) hi
theorem itV_congr {f g : Nat → Nat → VR} {n : Nat} (h : ∀ i, i < n → ∀ c, f i c = g i c) (c : Nat) : itV f n c = itV g n c := by
  induction n with
  | zero => rfl
  | succ n ih =>
    rw [itV, itV, ih fun i hi => h i (by omega)]
    unfold thenV
    split
    · exact h n (by omega) _
    · rfl

/-- What is claimed stays in bounds. -/
structure InB (N M : Nat) (r : VR) : Prop where
  le : r.2 ≤ N - 1 + M
  ok : r.1 = none → r.2 ≤ N - 1
  code : ∀ e p, r.1 = some (e, p) → e = 10 ∨ e = 16 ∨ e = 23
theorem InB.none_ {N M c : Nat} (h : c ≤ N - 1) : InB N M (none, c) := ⟨Nat.le_trans h (Nat.le_add_right _ _), fun _ => h, fun _ _ e => (by cases e)⟩
theorem InB.some_ {N M c e p : Nat} (h : c ≤ N - 1 + M) (he : e = 10 ∨ e = 16 ∨ e = 23) : InB N M (some (e, p), c) := ⟨h, fun g => (by cases g), fun _ _ g => (by cases g; exact he)⟩
theorem thenV_in {N M : Nat} {r : VR} {g : Nat → VR} (h : InB N M r) (hg : ∀ c, c ≤ N - 1 → InB N M (g c)) : InB N M (thenV r g) := by
  rcases vr_cases r with ⟨c, rfl⟩ | ⟨k, p, c, rfl⟩
  · exact hg c (h.ok rfl)
  · exact h
theorem itV_in {N M : Nat} {f : Nat → Nat → VR} {n : Nat} (h : ∀ i, i < n → ∀ c, c ≤ N - 1 → InB N M (f i c)) {c : Nat} (hc : c ≤ N - 1) : InB N M (itV f n c) := by
  induction n with
  | zero => exact .none_ hc
  | succ n ih => exact thenV_in (ih fun i hi => h i (by omega)) fun c hc => h n (by omega) c hc
theorem claimV_in {N M p to k c : Nat} (hc : c ≤ N - 1) (hk : k ≤ M) : InB N M (claimV N p to k c) := by
  unfold claimV
  split
  · exact .some_ (by omega) (by omega)
  · split
    · exact .some_ (by omega) (by omega)
    · exact .none_ (by omega)
theorem mostV_le (k : Int) : mostV k ≤ 40 := by unfold mostV; split; omega; split <;> omega
theorem mostV_le' {k : Int} (h : ¬ k = 2) : mostV k ≤ 12 := by unfold mostV; rw [if_neg h]; split <;> omega
theorem fldV_in {N M : Nat} {W : Nat → Nat} {st : Nat → Nat → Nat → Nat → Nat → VR} (hM : 12 ≤ M) (k : Int) (τ p : Nat) (h : ∀ p to n c, n ≤ 12 → c ≤ N - 1 → InB N M (st τ p to n c)) {c : Nat} (hc : c ≤ N - 1) : InB N M (fldV W N st k τ p c) := by
  unfold fldV
  split
  · exact .none_ hc
  · split
    · exact .some_ (by omega) (by omega)
    · rename_i h1 h2
      have h3 := mostV_le k
      split
      · refine thenV_in (claimV_in hc (by unfold cnt; omega)) fun c hc => ?_
        split
        · exact .none_ hc
        · exact .some_ (by omega) (by omega)
      · rename_i h4
        have h5 := mostV_le' h4
        split
        · exact claimV_in hc (by omega)
        · exact h _ _ _ _ (by omega) hc
theorem visV_in {N M : Nat} {s : Sch} (hR : RightS s) {W : Nat → Nat} {st : Nat → Nat → Nat → Nat → Nat → VR} (hM : 12 ≤ M) (h : ∀ τ p to n c, τ < s.n → n ≤ 12 → c ≤ N - 1 → InB N M (st τ p to n c)) {t : Nat} (ht : t < s.n) (at_ : Nat) {c : Nat} (hc : c ≤ N - 1) : InB N M (visV s W N st t at_ c) :=
  itV_in (fun _ hi _ hc => fldV_in hM _ _ _ (fun p to n c => h _ p to n c (hR.tlt ht hi)) hc) hc
theorem strV_in {s : Sch} (hR : RightS s) (W : Nat → Nat) (N : Nat) : ∀ r τ p to n c, τ < s.n → n ≤ 12 → c ≤ N - 1 → InB N 72 (strV s W N r τ p to n c) := by
  intro r
  induction r with
  | zero => intro τ p to n c _ _ hc; exact .some_ (by omega) (by omega)
  | succ r ih =>
    intro τ p to n c ht hn hc
    have h1 := (hR.2.2 τ ht).2.1
    have h2 : n * s.len τ ≤ 12 * 6 := Nat.mul_le_mul hn h1
    exact thenV_in (claimV_in hc (by omega)) fun c hc => itV_in (fun j _ c hc => visV_in hR (by omega) ih ht _ hc) hc
theorem bodyV_in {s : Sch} (hR : RightS s) (W : Nat → Nat) (N : Nat) (h : W 0 / 4294967296 < s.n) : InB N 72 (bodyV s W N) := by
  have h1 := (hR.2.2 _ h).2.1
  exact thenV_in (claimV_in (Nat.zero_le _) (by omega)) fun c hc => visV_in hR (by omega) (strV_in hR W N 4) h _ hc

end Go.Proofs.YtkhbhkllnigbgaaDoor
