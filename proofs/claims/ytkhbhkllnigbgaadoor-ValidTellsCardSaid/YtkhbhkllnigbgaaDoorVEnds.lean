/- What follows of any words: the law's helper ends. -/
import Derived.Test.YtkhbhkllnigbgaaDoorVSp8
namespace Go.Proofs.YtkhbhkllnigbgaaDoor
open Go.ChangeShapes Go.WideShapes Go.ChangeAt Go.RowKit
/-- What is told of any words, under a right schema. -/
theorem lookP_ends {s : Sch} (hR : RightS s) (f : Nat → Nat) (N : Nat) : (lookP s f N).2 ≤ N + 240 ∧ (((lookP s f N).1 = [] ∧ (lookP s f N).2 < N) ∨ (lookP s f N).1 = [(21, 0)] ∨ ∃ p k : Nat, (lookP s f N).1 = [(0, (p : Int)), ((k : Int), 0)] ∧ (k = 10 ∨ k = 16 ∨ k = 23)) := by
  unfold lookP
  rw [if_neg (by rw [okS_true hR]; decide)]
  by_cases hN : N = 0 ∨ 200 < N
  · rw [if_pos hN]
    exact ⟨by simp, .inr (.inl rfl)⟩
  · rw [if_neg hN]
    by_cases hf : ¬ f 0 % 4294967296 = N ∨ s.n ≤ f 0 / 4294967296
    · rw [if_pos hf]
      exact ⟨by simp, .inr (.inr ⟨0, 10, rfl, .inl rfl⟩)⟩
    · rw [if_neg hf]
      have h := bodyV_in hR f N (by omega)
      rcases vr_cases (bodyV s f N) with ⟨c, e⟩ | ⟨k, p, c, e⟩
      · rw [e] at h ⊢
        have h1 : c ≤ N - 1 := h.ok rfl
        exact ⟨by show c ≤ N + 240; omega, .inl ⟨rfl, by show c < N; omega⟩⟩
      · rw [e] at h ⊢
        have h1 : c ≤ N - 1 + 72 := h.le
        exact ⟨by show c ≤ N + 240; omega, .inr (.inr ⟨p, k, rfl, h.code k p rfl⟩)⟩

end Go.Proofs.YtkhbhkllnigbgaaDoor
