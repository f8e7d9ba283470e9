/- What both lists have, rising, is what there is from 1 on in either. -/
import Derived.Test.YtkpffnihnhlghaaGreatDoorHFreeA
namespace Go.Proofs.YtkpffnihnhlghaaGreatDoor
open Go.RowKit
def firstN (n : Nat) : List Int := (List.range n).map (fun i : Nat => (i : Int) + 1)
theorem firstN_mem {n : Nat} {z : Int} : z ∈ firstN n ↔ 1 ≤ z ∧ z ≤ (n : Int) := by
  unfold firstN
  rw [List.mem_map]
  constructor
  · rintro ⟨i, hi, rfl⟩
    have := List.mem_range.1 hi
    omega
  · rintro ⟨h1, h2⟩
    exact ⟨(z - 1).toNat, List.mem_range.2 (by omega), by omega⟩
theorem firstN_lt (n : Nat) : (firstN n).Pairwise (· < ·) := by
  unfold firstN
  rw [List.pairwise_iff_getElem]
  intro i j hi hj hij
  simp; omega
theorem srt_filter {L : List Int} {n : Nat} (h : L.Pairwise (· ≠ ·)) (hr : ∀ z ∈ L, 1 ≤ z ∧ z ≤ (n : Int)) : srt L = (firstN n).filter (fun z => decide (z ∈ L)) := by
  have h1 : ((firstN n).filter (fun z => decide (z ∈ L))).Pairwise (· < ·) := (firstN_lt n).filter _
  have hp : (srt L).Perm ((firstN n).filter (fun z => decide (z ∈ L))) := by
    refine (srt_perm L).trans ((List.perm_ext_iff_of_nodup h (h1.imp fun h => by omega)).2 fun z => ?_)
    rw [List.mem_filter, firstN_mem]
    constructor
    · intro hz; exact ⟨hr z hz, by simpa using hz⟩
    · rintro ⟨_, hz⟩; simpa using hz
  exact List.Perm.eq_of_pairwise (le := fun a b : Int => a ≤ b) (fun a b _ _ h1 h2 => by omega) (srt_le L) (h1.imp fun h => by omega) hp
/-- Of two lists of a right config's classes. -/
theorem both_in {x : Cfg} {f : Nat → Nat} {L0 L1 : List Int} {E0 E1 : List (Int × Int)} {n : Nat} (hn : ∀ c, 0 ≤ cntC x c) (hs : x.n0 + x.n1 = (n : Int)) (h0 : ListR x f 0 L0 E0) (h1 : ListR x f 1 L1 E1) : ∀ z ∈ L0 ++ L1, 1 ≤ z ∧ z ≤ (n : Int) := by
  obtain ⟨_, a1, _, _⟩ := h0.once (hn 0)
  obtain ⟨_, b1, _, _⟩ := h1.once (hn 1)
  intro z hz
  rcases List.mem_append.1 hz with hz | hz
  · obtain ⟨i, hi, rfl⟩ := List.getElem_of_mem hz
    have := class_in (cls := 0) (a1 i hi)
    omega
  · obtain ⟨i, hi, rfl⟩ := List.getElem_of_mem hz
    have := class_in (cls := 1) (b1 i hi)
    omega

end Go.Proofs.YtkpffnihnhlghaaGreatDoor
