/- The lists of an arena as made; a list is told in one way alone. -/
import Derived.Test.YtkpffnihnhlghaaDoorHList
import Derived.Test.YtkpffnihnhlghaaDoorHCfg
namespace Go.Proofs.YtkpffnihnhlghaaDoor
open Go.RowKit
theorem ListR.unique {x : Cfg} {f : Nat → Nat} {cls : Nat} {L L' : List Int} {E E' : List (Int × Int)} (h : ListR x f cls L E) (h' : ListR x f cls L' E') : L = L' ∧ E = E' := by
  obtain ⟨k, hk, hg, hs⟩ := h
  obtain ⟨k', hk', hg', hs'⟩ := h'
  have e : k = k' := by
    rcases Nat.lt_trichotomy k k' with hlt | he | hlt
    · have g := hg' k hlt
      rcases hs with ⟨h1, -⟩ | ⟨-, h1, -⟩ | ⟨-, -, h1, -⟩
      · exact absurd h1 g.1
      · exact absurd g.2 h1
      · omega
    · exact he
    · have g := hg k' hlt
      rcases hs' with ⟨h1, -⟩ | ⟨-, h1, -⟩ | ⟨-, -, h1, -⟩
      · exact absurd h1 g.1
      · exact absurd g.2 h1
      · omega
  subst e
  rcases hs with ⟨h1, h2, h3⟩ | ⟨h0, h1, h2, h3⟩ | ⟨h0, h1, -, h2, h3⟩
  · rcases hs' with ⟨g1, g2, g3⟩ | ⟨g0, -⟩ | ⟨g0, -⟩
    · exact ⟨h2.trans g2.symm, h3.trans g3.symm⟩
    · exact absurd h1 g0
    · exact absurd h1 g0
  · rcases hs' with ⟨g1, -⟩ | ⟨g0, g1, g2, g3⟩ | ⟨g0, g1, -⟩
    · exact absurd g1 h0
    · exact ⟨h2.trans g2.symm, h3.trans g3.symm⟩
    · exact absurd g1 h1
  · rcases hs' with ⟨g1, -⟩ | ⟨g0, g1, g2, g3⟩ | ⟨g0, g1, -, g2, g3⟩
    · exact absurd g1 h0
    · exact absurd h1 g1
    · exact ⟨h2.trans g2.symm, h3.trans g3.symm⟩

theorem bw_at {x : Cfg} (hr : Right x) (P : Nat → Bool) (k b : Nat) (h1 : 1 ≤ b) (h2 : b ≤ k) (hk : (k : Int) ≤ x.n0 + x.n1) : bw x P k (adr x b) = if P b = true then (b : Int) + 1 else 0 := by
  induction k with
  | zero => omega
  | succ k ih =>
    by_cases e : b = k + 1
    · subst e
      have h0 : ∀ m, m ≤ k → bw x P m (adr x (k + 1)) = 0 := by
        intro m hm
        induction m with
        | zero => rfl
        | succ m ihm => rw [bw, if_neg (fun h => adr_inj hr (m + 1) (k + 1) (by omega) (by omega) (by omega) h.1.symm), ihm (by omega)]
      rw [bw, h0 k (by omega)]
      by_cases hp : P (k + 1) = true
      · rw [if_pos ⟨rfl, hp⟩, if_pos hp]; omega
      · rw [if_neg (fun h => hp h.2), if_neg hp]
    · rw [bw, if_neg (fun h => adr_inj hr b (k + 1) h1 (by omega) (by omega) h.1), ih (by omega) (by omega)]
/-- A made arena's words. -/
noncomputable def madeF (x : Cfg) : Nat → Nat := fun j => (wordsC x j).toNat
theorem made_3 (x : Cfg) : wordsC x 3 = if 0 < x.n0 then 1 else 0 := by simp [wordsC, fw]
theorem made_4 (x : Cfg) : wordsC x 4 = if 0 < x.n1 then x.n0 + 1 else 0 := by simp [wordsC, fw]
theorem made_b {x : Cfg} (hr : Right x) (b : Nat) (h1 : 1 ≤ b) (h2 : (b : Int) ≤ x.n0 + x.n1) : wordsC x (adr x b) = if (b : Int) ≠ x.n0 ∧ (b : Int) < x.n0 + x.n1 then (b : Int) + 1 else 0 := by
  have hl := (adr_low hr b h1 h2).1
  unfold wordsC fw
  rw [if_neg (by omega), if_neg (by omega), if_neg (by omega), if_neg (by omega), if_neg (by omega), bw_at hr _ _ b h1 (by omega) (by omega)]
  simp
theorem made_class {x : Cfg} (hr : Right x) (b : Int) (cls : Nat) (hc : cls ≤ 1) (h1 : (if cls = 0 then 1 else x.n0 + 1) ≤ b) (h2 : b < (if cls = 0 then 1 else x.n0 + 1) + cntC x cls) : classC x b = (cls : Int) := by
  have hb := hr.b
  unfold cntC at h2
  rcases (show cls = 0 ∨ cls = 1 by omega) with rfl | rfl
  · simp at h1 h2
    rw [class_0 (by omega) (by omega)]; rfl
  · simp at h1 h2
    rw [class_1 (by omega) (by omega)]; rfl
/-- The block that is the i-th of the class. -/
def nthB (x : Cfg) (cls : Nat) (i : Nat) : Int := (if cls = 0 then 1 else x.n0 + 1) + (i : Int)
theorem made_seq {x : Cfg} (hr : Right x) (cls : Nat) (hc : cls ≤ 1) (i : Nat) : (i : Int) ≤ cntC x cls → ((blkH (madeF x) (wdH x (madeF x) cls i) : Nat) : Int) = if (i : Int) < cntC x cls then nthB x cls i else 0 := by
  have hb := hr.b
  have hcn : 0 ≤ cntC x cls ∧ cntC x cls ≤ 12 := by unfold cntC; split <;> omega
  induction i with
  | zero =>
    intro _
    rcases (show cls = 0 ∨ cls = 1 by omega) with rfl | rfl
    · have e : wordsC x 3 = _ := made_3 x
      show (((wordsC x 3).toNat % 4294967296 : Nat) : Int) = _
      rw [e]
      simp only [cntC, nthB, if_pos]
      by_cases g : 0 < x.n0
      · rw [if_pos g, if_pos (by simpa using g)]; rfl
      · rw [if_neg g, if_neg (by simpa using g)]; rfl
    · have e : wordsC x 4 = _ := made_4 x
      show (((wordsC x 4).toNat % 4294967296 : Nat) : Int) = _
      rw [e]
      simp only [cntC, nthB]
      by_cases g : 0 < x.n1
      · rw [if_pos g]; simp; rw [if_pos g]; omega
      · rw [if_neg g]; simp; intro h; omega
  | succ i ih =>
    intro hi
    have h1 := ih (by omega)
    rw [if_pos (by omega)] at h1
    have hB : 1 ≤ nthB x cls i ∧ nthB x cls i ≤ x.n0 + x.n1 := by
      have := class_in (made_class hr (nthB x cls i) cls hc (by unfold nthB; omega) (by unfold nthB; omega))
      exact this
    obtain ⟨B, hBe⟩ : ∃ B : Nat, nthB x cls i = (B : Int) := ⟨(nthB x cls i).toNat, by omega⟩
    have hw : wdH x (madeF x) cls (i + 1) = (adr x B : Nat) := by
      show blockC x ((blkH (madeF x) (wdH x (madeF x) cls i) : Nat) : Int) = _
      rw [h1, hBe]
      exact (adr_low hr B (by omega) (by omega)).2.1.symm
    have hv : ((blkH (madeF x) (wdH x (madeF x) cls (i + 1)) : Nat) : Int) = wordsC x (adr x B) := by
      rw [hw]
      show (((wordsC x ((adr x B : Nat) : Int).toNat).toNat % 4294967296 : Nat) : Int) = _
      rw [Int.toNat_natCast, made_b hr B (by omega) (by omega)]
      split <;> omega
    rw [hv, made_b hr B (by omega) (by omega), ← hBe]
    unfold nthB cntC at *
    rcases (show cls = 0 ∨ cls = 1 by omega) with rfl | rfl
    · simp only [if_pos] at *
      by_cases g : ((i + 1 : Nat) : Int) < x.n0
      · rw [if_pos g, if_pos (by omega)]; omega
      · rw [if_neg g, if_neg (by omega)]
    · simp at *
      by_cases g : (i : Int) + 1 < x.n1
      · rw [if_pos g, if_pos (by omega)]; omega
      · rw [if_neg g, if_neg (by omega)]
/-- What List tells of a made arena. -/
theorem made_list {x : Cfg} (hr : Right x) (cls : Nat) (hc : cls ≤ 1) : ListR x (madeF x) cls ((List.range (cntC x cls).toNat).map (nthB x cls)) [] := by
  have hb := hr.b
  have hcn : 0 ≤ cntC x cls ∧ cntC x cls ≤ 12 := by unfold cntC; split <;> omega
  have hs := made_seq hr cls hc
  refine ⟨(cntC x cls).toNat, by omega, fun i hi => ?_, .inl ⟨?_, ?_, rfl⟩⟩
  · have h := hs i (by omega)
    rw [if_pos (by omega)] at h
    have hB := made_class hr (nthB x cls i) cls hc (by unfold nthB; omega) (by unfold nthB; omega)
    have := class_in hB
    exact ⟨by omega, by rw [h]; exact hB⟩
  · have h := hs (cntC x cls).toNat (by omega)
    rw [if_neg (by omega)] at h
    omega
  · refine List.map_congr_left fun i hi => ?_
    have hi := List.mem_range.1 hi
    have h := hs i (by omega)
    rw [if_pos (by omega)] at h
    exact h.symm

end Go.Proofs.YtkpffnihnhlghaaDoor
