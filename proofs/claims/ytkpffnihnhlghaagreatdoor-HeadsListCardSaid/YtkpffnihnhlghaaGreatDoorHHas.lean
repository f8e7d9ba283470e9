/- Has; a list that ends has no block twice. -/
import Derived.Test.YtkpffnihnhlghaaGreatDoorHRow
namespace Go.Proofs.YtkpffnihnhlghaaGreatDoor
open Go.RowKit
theorem IRw.take {W : World} {v : Value} {L : List Int} (h : IRw W v L) (i : Nat) (hi : i ≤ L.length) : ∃ A cap, v = .slice A L.length cap ∧ IRw W (.slice A i cap) (L.take i) := by
  obtain ⟨A, cap, e, hc⟩ := h
  refine ⟨A, cap, e, A, cap, by rw [List.length_take, Nat.min_eq_left hi], fun h0 => ?_⟩
  rw [List.length_take, Nat.min_eq_left hi] at h0
  obtain ⟨b, o, h1, h2, h3⟩ := hc (by omega)
  refine ⟨b, o, h1, h2, fun j hj => ?_⟩
  rw [List.length_take, Nat.min_eq_left hi] at hj
  rw [h3 j (by omega), List.getElem_take]
set_option maxRecDepth 100000 in
set_option maxHeartbeats 1000000 in
theorem has_any (L : List Int) (hL : L.length ≤ 1000) (n : Int) (v : Value) (w : World) (h : IRw w v L) : Calls Tryz.prog 35 #[v, .int .i64 n] w fun e w' => e = .returned (.bool (decide (n ∈ L))) ∧ Below w.heap.size w w' := by
  obtain ⟨A, cap, rfl, hc⟩ := h
  have HC := Lib.hid hc
  clear hc
  obtain ⟨m, HM⟩ : ∃ m, Hid (L.length = m) := ⟨_, Lib.hid rfl⟩
  rw [HM.out] at hL ⊢
  go_enter Tryz.func35, Tryz.ntmps35
  go_wp2_with fail
  go_loopw [5] (fun iv wr => ∃ i : Nat, i ≤ m ∧ iv = .int .i64 i ∧ Hid ((∀ (j : Nat) (h : j < L.length), j < i → ¬ L[j] = n) ∧ Below w.heap.size w wr)) (fun iv _ => m - (intOf iv).toNat)
  case atStart => exact ⟨0, by omega, rfl, Lib.hid ⟨fun _ _ h => absurd h (Nat.not_lt_zero _), Below.refl _ _⟩⟩
  case round =>
    obtain ⟨i, hi, rfl, HB⟩ := hrel
    by_cases hin : i < m
    · obtain ⟨b, o, rfl, hb, hcc⟩ := HC.out (by have := HM.out; omega)
      have hil : i < L.length := by have := HM.out; omega
      have e1 := (HB.out.2.cell (p := ⟨b, o + i, none⟩) hb).trans (hcc i hil)
      obtain ⟨z, HZ⟩ : ∃ z, Hid (L[i] = z) := ⟨_, Lib.hid rfl⟩
      rw [HZ.out] at e1
      clear hcc
      have g0 : (0 : Int) ≤ (i : Int) := by omega
      have g1 : (i : Int) < (m : Int) := by omega
      have hbw : b < wr.heap.size := Nat.lt_of_lt_of_le hb HB.out.2.size
      by_cases hz : z = n
      · subst hz
        have HIN : Hid (decide (z ∈ L) = true) := Lib.hid (by rw [decide_eq_true_eq, ← HZ.out]; exact List.getElem_mem hil)
        go_wp2_with fail
        go_ret
        exact ⟨by rw [HIN.out]; rfl, HB.out.2⟩
      · have dz : (z == n) = false := by simpa using hz
        have HB2 : Hid ((∀ (j : Nat) (h : j < L.length), j < i + 1 → ¬ L[j] = n) ∧ Below w.heap.size w wr) := Lib.hid ⟨fun j hj h => by
          by_cases e : j = i
          · subst e; rw [HZ.out]; exact hz
          · exact HB.out.1 j hj (by omega), HB.out.2⟩
        go_wp2_with fail
        go_roundw
        case rel => exact ⟨i + 1, by omega, by go_num, HB2⟩
        case measure => simp [intOf]; omega
    · have g1 : ¬ (i : Int) < (m : Int) := by omega
      have HNO : Hid (decide (n ∈ L) = false) := Lib.hid (by
        rw [decide_eq_false_iff_not]
        intro h
        obtain ⟨j, hj, e⟩ := List.getElem_of_mem h
        exact HB.out.1 j hj (by have := HM.out; omega) e)
      go_wp2
      go_ret
      exact ⟨by rw [HNO.out]; rfl, HB.out.2⟩
/-- Where two blocks are one, all behind are. -/
theorem wd_same {x : Cfg} {f : Nat → Nat} {cls i j : Nat} (h : blkH f (wdH x f cls i) = blkH f (wdH x f cls j)) (t : Nat) : blkH f (wdH x f cls (i + t)) = blkH f (wdH x f cls (j + t)) := by
  induction t with
  | zero => exact h
  | succ t ih =>
    show blkH f (blockC x ((blkH f (wdH x f cls (i + t)) : Nat) : Int)) = blkH f (blockC x ((blkH f (wdH x f cls (j + t)) : Nat) : Int))
    rw [ih]
theorem no_twice {x : Cfg} {f : Nat → Nat} {cls k : Nat} (hg : ∀ i, i < k → ¬ blkH f (wdH x f cls i) = 0 ∧ classC x (blkH f (wdH x f cls i) : Nat) = (cls : Int)) (h0 : blkH f (wdH x f cls k) = 0) {i j : Nat} (hij : i < j) (hj : j < k) : ¬ blkH f (wdH x f cls i) = blkH f (wdH x f cls j) := by
  intro h
  have h1 := wd_same h (k - j)
  rw [show j + (k - j) = k by omega, h0] at h1
  exact (hg (i + (k - j)) (by omega)).1 h1
/-- A list that is told: of its class alone, each block once, no more than there are. -/
theorem ListR.once {x : Cfg} {f : Nat → Nat} {cls : Nat} {L : List Int} {E : List (Int × Int)} (h : ListR x f cls L E) (hcn : 0 ≤ cntC x cls) : (L.length : Int) ≤ cntC x cls ∧ (∀ (i : Nat) (hi : i < L.length), classC x L[i] = (cls : Int)) ∧ (∀ (i : Nat) (hi : i < L.length), ¬ L[i] ∈ L.take i) ∧ (E = [] ∨ (L = [] ∧ ∃ p k : Int, E = [(0, p), (k, 0)] ∧ (k = 10 ∨ k = 16))) := by
  obtain ⟨k, hk, hg, ⟨h0, rfl, rfl⟩ | ⟨-, -, rfl, rfl⟩ | ⟨-, -, -, rfl, rfl⟩⟩ := h
  · refine ⟨by simpa using hk, fun i hi => ?_, fun i hi hm => ?_, .inl rfl⟩
    · simp at hi
      simp only [List.getElem_map, List.getElem_range]
      exact (hg i hi).2
    · simp at hi
      obtain ⟨j, hj, e⟩ := List.getElem_of_mem hm
      simp at hj
      simp only [List.getElem_take, List.getElem_map, List.getElem_range] at e
      exact no_twice hg h0 (i := j) (j := i) (by omega) hi (by omega)
  · exact ⟨by simpa using hcn, fun i hi => absurd hi (Nat.not_lt_zero _), fun i hi => absurd hi (Nat.not_lt_zero _), .inr ⟨rfl, _, _, rfl, .inl rfl⟩⟩
  · exact ⟨by simpa using hcn, fun i hi => absurd hi (Nat.not_lt_zero _), fun i hi => absurd hi (Nat.not_lt_zero _), .inr ⟨rfl, _, _, rfl, .inr rfl⟩⟩

end Go.Proofs.YtkpffnihnhlghaaGreatDoor
