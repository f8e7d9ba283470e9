/- Steps of runs, as numbers. -/
import Derived.Test.YtkpffnihnhlghaaDoorONew
namespace Go.Proofs.YtkpffnihnhlghaaDoor
open Go.RowKit
theorem St.load_f (y : St) (n : Nat) (i : Int) : (y.load n i).f = y.f := by unfold St.load St.kept St.out; split <;> rfl
theorem St.store_f (y : St) (n : Nat) (i v : Int) : (y.store n i v).f = if inB n i then put y.f i.toNat v else y.f := by unfold St.store St.made St.out; split <;> rfl
theorem St.swap_f (y : St) (n : Nat) (i o v : Int) : (y.swap n i o v).f = if y.swapped n i o then put y.f i.toNat v else y.f := by
  unfold St.swap St.swapped St.kept St.out St.made
  by_cases h : inB n i = true
  · by_cases g : y.f i.toNat = o <;> simp [h, g]
  · simp [h]
theorem turnI_range (X : Nat) (b : Int) : 0 ≤ turnI X b ∧ turnI X b < 18446744073709551616 := by unfold turnI; omega
theorem OkW.put_ {y : St} {n : Nat} (h : OkW y n) (i : Nat) (v : Int) (hv : 0 ≤ v ∧ v < 18446744073709551616) (y' : St) (e : y'.f = put y.f i v) : OkW y' n := fun j hj => by
  rw [e]
  unfold put
  split
  · exact hv
  · exact h j hj
theorem OkW.same {y y' : St} {n : Nat} (h : OkW y n) (e : y'.f = y.f) : OkW y' n := fun j hj => by rw [e]; exact h j hj
theorem OkW.tk {y : St} {n : Nat} (h : OkW y n) (x : Cfg) (t : TK) : OkW (tkNext x n t y).2 n := by
  unfold tkNext
  split
  · exact h
  · exact h.same (St.load_f _ _ _)
  · exact h.same (St.load_f _ _ _)
  · have e := St.swap_f y n (3 + t.C) (t.X : Int) (turnI t.X t.r)
    by_cases g : y.swapped n (3 + t.C) (t.X : Int) = true
    · rw [if_pos g] at e; exact h.put_ _ _ (turnI_range _ _) _ e
    · rw [if_neg g] at e; exact h.same e
theorem OkW.gk {y : St} {n : Nat} (h : OkW y n) (t : GK) : OkW (gkNext n t y).2 n := by
  unfold gkNext
  split
  · exact h
  · exact h.same (St.load_f _ _ _)
  · have e := St.store_f y n t.wd ((t.X % 4294967296 : Nat) : Int)
    by_cases g : inB n t.wd = true
    · rw [if_pos g] at e; exact h.put_ _ _ (by omega) _ e
    · rw [if_neg g] at e; exact h.same e
  · have e := St.swap_f y n (3 + t.C) (t.X : Int) (turnI t.X t.b)
    by_cases g : y.swapped n (3 + t.C) (t.X : Int) = true
    · rw [if_pos g] at e; exact h.put_ _ _ (turnI_range _ _) _ e
    · rw [if_neg g] at e; exact h.same e
/-- What holds of a run that takes, whatever is done. -/
structure TkOk (C : Int) (t : TK) : Prop where
  C : t.C = C
  X : t.X < 18446744073709551616
  k : t.k ≤ 3
theorem TkOk.next {C : Int} {t : TK} (h : TkOk C t) (x : Cfg) {n : Nat} {y : St} (hok : OkW y n) : TkOk C (tkNext x n t y).1 := by
  unfold tkNext
  split
  · exact h
  · refine ⟨h.C, ?_, ?_⟩
    · have := (hok.loaded (n := n) (3 + t.C)).2; show (y.loaded n (3 + t.C)).toNat < _; omega
    · show (if _ then 2 else 0) ≤ 3; split <;> omega
  · exact ⟨h.C, h.X, Nat.le_refl _⟩
  · show TkOk C (if _ then _ else _)
    split
    · exact ⟨h.C, h.X, by show 0 ≤ 3; omega⟩
    · exact ⟨h.C, h.X, by show 1 ≤ 3; omega⟩
theorem tk_s (x : Cfg) (n : Nat) (t : TK) (y : St) : (tkNext x n t y).2.s = if t.k = 0 then y.s else y.s + 1 := by
  rcases (show t.k = 0 ∨ t.k = 1 ∨ t.k = 2 ∨ ∃ m, t.k = m + 3 by by_cases h : 3 ≤ t.k; exact .inr (.inr (.inr ⟨t.k - 3, by omega⟩)); omega) with h | h | h | ⟨m, h⟩
  · rw [if_pos h]; unfold tkNext; rw [h]; rfl
  · rw [if_neg (by omega)]; unfold tkNext; rw [h]; exact St.load_s _ _ _
  · rw [if_neg (by omega)]; unfold tkNext; rw [h]; exact St.load_s _ _ _
  · rw [if_neg (by omega)]; unfold tkNext; rw [h]; exact St.swap_s _ _ _ _ _
/-- A run that goes on alone: how far it is. -/
def Stg (n : Nat) (C m : Int) (i : Nat) (t : TK) (y : St) : Prop := (t.k = 0 ∧ y.s ≤ m + 3 ∧ m ≤ y.s) ∨ (t.k = 1 ∧ i = 0 ∧ y.s = m) ∨ (t.k = 2 ∧ i = 1 ∧ y.s = m + 1 ∧ y.f (3 + C).toNat = (t.X : Int)) ∨ (t.k = 3 ∧ i = 2 ∧ y.s = m + 2 ∧ y.f (3 + C).toNat = (t.X : Int))
theorem Stg.next {x : Cfg} {n : Nat} {C m : Int} {i : Nat} {t : TK} {y : St} (hn : 5 ≤ n) (hC : 0 ≤ C ∧ C ≤ 1) (h : Stg n C m i t y) (hk : TkOk C t) (hok : OkW y n) : Stg n C m (i + 1) (tkNext x n t y).1 (tkNext x n t y).2 := by
  have hs := tk_s x n t y
  have hin : inB n (3 + C) = true := by
    have : 3 + C = (((3 + C).toNat : Nat) : Int) := by omega
    rw [this]; exact inB_nat (by omega)
  have hC' := hk.C
  rcases h with ⟨h1, h2, h3⟩ | ⟨h1, h2, h3⟩ | ⟨h1, h2, h3, h4⟩ | ⟨h1, h2, h3, h4⟩
  · left
    rw [if_pos h1] at hs
    exact ⟨by unfold tkNext; rw [h1]; exact h1, by omega, by omega⟩
  · rw [if_neg (by omega)] at hs
    have e1 : (tkNext x n t y).1.k = if classC x (((y.loaded n (3 + t.C)).toNat % 4294967296 : Nat) : Int) = t.C then 2 else 0 := by unfold tkNext; rw [h1]; rfl
    have e2 : (tkNext x n t y).1.X = (y.loaded n (3 + t.C)).toNat := by unfold tkNext; rw [h1]; rfl
    have e3 : (tkNext x n t y).2.f = y.f := by unfold tkNext; rw [h1]; exact St.load_f _ _ _
    by_cases g : classC x (((y.loaded n (3 + t.C)).toNat % 4294967296 : Nat) : Int) = t.C
    · rw [if_pos g] at e1
      right; right; left
      refine ⟨e1, by omega, by omega, ?_⟩
      rw [e3, e2, hC']
      have h5 : y.loaded n (3 + C) = y.f (3 + C).toNat := by unfold St.loaded; rw [if_pos hin]
      have h6 := (hok.loaded (n := n) (3 + C)).1
      rw [h5] at h6 ⊢
      omega
    · rw [if_neg g] at e1
      left
      exact ⟨e1, by omega, by omega⟩
  · rw [if_neg (by omega)] at hs
    have e1 : (tkNext x n t y).1.k = 3 := by unfold tkNext; rw [h1]; rfl
    have e2 : (tkNext x n t y).1.X = t.X := by unfold tkNext; rw [h1]; rfl
    have e3 : (tkNext x n t y).2.f = y.f := by unfold tkNext; rw [h1]; exact St.load_f _ _ _
    right; right; right
    exact ⟨e1, by omega, by omega, by rw [e3, e2]; exact h4⟩
  · rw [if_neg (by omega)] at hs
    have hsw : y.swapped n (3 + t.C) (t.X : Int) = true := by rw [hC']; unfold St.swapped; rw [hin, h4]; simp
    have e1 : (tkNext x n t y).1.k = 0 := by unfold tkNext; rw [h1]; show (if y.swapped n (3 + t.C) (t.X : Int) then _ else _ : TK).k = 0; rw [if_pos hsw]
    left
    exact ⟨e1, by omega, by omega⟩
/-- A run that goes on alone, from its beginning on. -/
def tk0 (C : Int) : TK := ⟨C, 0, 0, 0, 1⟩
theorem take_none {x : Cfg} {n : Nat} {C : Int} (hn : 5 ≤ n) (hC : 0 ≤ C ∧ C ≤ 1) {y : St} {H : Nat} (hH : y.f (3 + C).toNat = (H : Int)) (hB : ¬ classC x ((H % 4294967296 : Nat) : Int) = C) :
    (tkNext x n (tk0 C) y).1.k = 0 ∧ (tkNext x n (tk0 C) y).1.b = 0 ∧ (tkNext x n (tk0 C) y).2.f = y.f ∧ (tkNext x n (tk0 C) y).2.s = y.s + 1 := by
  have hin : inB n (3 + C) = true := by
    have : 3 + C = (((3 + C).toNat : Nat) : Int) := by omega
    rw [this]; exact inB_nat (by omega)
  have hl : (y.loaded n (3 + C)).toNat = H := by unfold St.loaded; rw [if_pos hin, hH]; omega
  refine ⟨?_, rfl, St.load_f _ _ _, St.load_s _ _ _⟩
  show (if classC x (((y.loaded n (3 + C)).toNat % 4294967296 : Nat) : Int) = C then 2 else 0) = 0
  rw [hl, if_neg hB]
theorem take_alone {x : Cfg} {n : Nat} {C : Int} (hn : 5 ≤ n) (hC : 0 ≤ C ∧ C ≤ 1) {y : St} {H : Nat} (hH : y.f (3 + C).toNat = (H : Int)) (hB : classC x ((H % 4294967296 : Nat) : Int) = C) {i : Nat} (hi : blockC x ((H % 4294967296 : Nat) : Int) = (i : Int)) (hin : i < n) {R : Nat} (hR : y.f i = (R : Int)) {p1 p2 p3 : TK × St}
    (h1 : tkNext x n (tk0 C) y = p1) (h2 : tkNext x n p1.1 p1.2 = p2) (h3 : tkNext x n p2.1 p2.2 = p3) :
    p1.1.k = 2 ∧ p2.1.k = 3 ∧ p3.1.k = 0 ∧ p3.1.b = ((H % 4294967296 : Nat) : Int) ∧ p3.2.f = put y.f (3 + C).toNat (turnI H ((R % 4294967296 : Nat) : Int)) ∧ p3.2.s = y.s + 3 := by
  have hin3 : inB n (3 + C) = true := by
    have : 3 + C = (((3 + C).toNat : Nat) : Int) := by omega
    rw [this]; exact inB_nat (by omega)
  have hini : inB n (i : Int) = true := inB_nat hin
  have hl : (y.loaded n (3 + C)).toNat = H := by unfold St.loaded; rw [if_pos hin3, hH]; omega
  have e1 : p1 = (⟨C, H, 0, 0, 2⟩, y.load n (3 + C)) := by
    rw [← h1]
    show (({ C := C, X := (y.loaded n (3 + C)).toNat, r := 0, b := 0, k := if classC x (((y.loaded n (3 + C)).toNat % 4294967296 : Nat) : Int) = C then 2 else 0 } : TK), y.load n (3 + C)) = _
    rw [hl, if_pos hB]
  have f1 : p1.2.f = y.f := by rw [e1]; exact St.load_f _ _ _
  have s1 : p1.2.s = y.s + 1 := by rw [e1]; exact St.load_s _ _ _
  have hl2 : (p1.2.loaded n (i : Int)).toNat = R := by unfold St.loaded; rw [if_pos hini, f1, Int.toNat_natCast, hR]; omega
  have e2 : p2 = (⟨C, H, ((R % 4294967296 : Nat) : Int), 0, 3⟩, p1.2.load n (i : Int)) := by
    rw [← h2]
    have : p1.1 = ⟨C, H, 0, 0, 2⟩ := by rw [e1]
    rw [this]
    show (({ C := C, X := H, r := (((p1.2.loaded n (blockC x ((H % 4294967296 : Nat) : Int))).toNat % 4294967296 : Nat) : Int), b := 0, k := 3 } : TK), p1.2.load n (blockC x ((H % 4294967296 : Nat) : Int))) = _
    rw [hi, hl2]
  have f2 : p2.2.f = y.f := by rw [e2]; exact (St.load_f _ _ _).trans f1
  have s2 : p2.2.s = y.s + 2 := by rw [e2]; have := St.load_s p1.2 n (i : Int); show (p1.2.load n (i : Int)).s = _; omega
  have hsw : p2.2.swapped n (3 + C) (H : Int) = true := by unfold St.swapped; rw [hin3, f2, hH]; simp
  have e3 : p3 = (⟨C, H, ((R % 4294967296 : Nat) : Int), ((H % 4294967296 : Nat) : Int), 0⟩, p2.2.swap n (3 + C) (H : Int) (turnI H ((R % 4294967296 : Nat) : Int))) := by
    rw [← h3]
    have : p2.1 = ⟨C, H, ((R % 4294967296 : Nat) : Int), 0, 3⟩ := by rw [e2]
    rw [this]
    show ((if p2.2.swapped n (3 + C) (H : Int) then _ else _ : TK), p2.2.swap n (3 + C) (H : Int) (turnI H ((R % 4294967296 : Nat) : Int))) = _
    rw [if_pos hsw]
  refine ⟨by rw [e1], by rw [e2], by rw [e3], by rw [e3], ?_, ?_⟩
  · rw [e3]; show (p2.2.swap n (3 + C) (H : Int) _).f = _; rw [St.swap_f, if_pos hsw, f2]
  · rw [e3]; have := St.swap_s p2.2 n (3 + C) (H : Int) (turnI H ((R % 4294967296 : Nat) : Int)); show (p2.2.swap n (3 + C) (H : Int) _).s = _; omega

end Go.Proofs.YtkpffnihnhlghaaDoor
