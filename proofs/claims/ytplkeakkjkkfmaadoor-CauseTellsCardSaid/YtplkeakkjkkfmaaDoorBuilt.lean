/- What the laws' own 'built' makes: a trouble, and the document's parts of it. -/
import Derived.Test.YtplkeakkjkkfmaaDoorRef
import Derived.Test.YtplkeakkjkkfmaaDoorSaid
import Derived.OpenShut
namespace Go.Proofs.YtplkeakkjkkfmaaDoor
open Go.RowKit

/-- The cells of a step. -/
structure StepAt (w : World) (b off : Nat) (N : Int) (wd fr : Bool) : Prop where
  n : w.cell? ⟨b, off, none⟩ = some (.int .i64 N)
  word : w.cell? ⟨b, off + 1, none⟩ = some (.bool wd)
  far : w.cell? ⟨b, off + 2, none⟩ = some (.bool fr)
  fits : In64 N
/-- Steps that can be read. -/
structure Script (w : World) (A : Option Addr) (len : Nat) : Prop where
  max : len ≤ maxLen
  at_ : ∀ i, i < len → ∃ b off N wd fr, A = some ⟨b, off, none⟩ ∧ b < w.heap.size ∧ StepAt w b (off + i * 3) N wd fr

/-- A trouble that may be. -/
structure Good (p : List (Int × Int)) : Prop where
  ok : Ok p
  fit : Fit p

theorem good_nil : Good [] := ⟨trivial, fun _ h => by cases h⟩
theorem good_because {p : List (Int × Int)} (h : Good p) (c : Int) (hc : In64 c) : Good (becauseP c p) := by
  unfold becauseP
  split
  · exact h
  · rename_i h0
    exact ⟨⟨fun h => absurd h h0, h.ok⟩, fun x hx => by
      rcases List.mem_cons.1 hx with rfl | hx
      · exact ⟨hc, by unfold In64; simp⟩
      · exact h.fit x hx⟩
theorem good_at {p : List (Int × Int)} (h : Good p) (n : Int) (hn : In64 n) : Good (atP p n) := by
  unfold atP
  split
  · exact good_nil
  · rename_i h0
    exact ⟨⟨fun _ e => h0 (by simp [e]), h.ok⟩, fun x hx => by
      rcases List.mem_cons.1 hx with rfl | hx
      · exact ⟨by unfold In64; simp, hn⟩
      · exact h.fit x hx⟩
theorem because_len (c : Int) (p : List (Int × Int)) : (becauseP c p).length ≤ p.length + 1 := by unfold becauseP; split <;> simp
theorem at_len (p : List (Int × Int)) (n : Int) : (atP p n).length ≤ p.length + 1 := by unfold atP; split <;> simp

theorem in64_bits (N : Int) : In64 (bits BinOp.and IntKind.i64 N 31) := by
  exact bounds_i64 (wf_bits _ _ _ _)

set_option maxRecDepth 100000 in
set_option maxHeartbeats 1000000 in
theorem built_any (A : Option Addr) (len cap : Nat) (w : World) (hS : Script w A len) :
    Calls Tryd.prog 9 #[.slice A len cap] w fun e w' => ∃ p v, e = .returned (.tuple #[enc p, v]) ∧ Good p ∧ p.length ≤ 20 ∧ Row w.heap.size v p w' ∧ Below w.heap.size w w' := by
  have hmax := hS.max
  unfold maxLen at hmax
  have HS := Lib.hid hS; clear hS
  go_enter Tryd.func9, Tryd.ntmps9
  go_wp2
  go_loopw [4, 5, 6] (fun a b i wr => ∃ (k : Nat) (p : List (Int × Int)), k ≤ len ∧ k ≤ 20 ∧ p.length ≤ k ∧ i = .int .i64 k ∧ a = enc p ∧ Hid (Good p) ∧ Hid (Row w.heap.size b p wr) ∧ Below w.heap.size w wr) (fun _ _ i _ => 20 - (intOf i).toNat)
  case atStart => exact ⟨0, [], by omega, by omega, by simp, rfl, rfl, good_nil, row_nil _ _, Below.refl _ _⟩
  case round =>
    obtain ⟨k, p, hk, hk20, hp, rfl, rfl, HG, HR, hB⟩ := hrel
    by_cases hlt : k < len ∧ k < 20
    · obtain ⟨h1, h2⟩ := hlt
      obtain ⟨b, off, N, wd, fr, rfl, hb, hst⟩ := HS.out.at_ k h1
      have c0 : wr.cell? ⟨b, off + k * 3, none⟩ = some (.int .i64 N) := (hB.cell (p := ⟨b, off + k * 3, none⟩) hb).trans hst.n
      have c1 : wr.cell? ⟨b, off + k * 3 + 1, none⟩ = some (.bool wd) := (hB.cell (p := ⟨b, off + k * 3 + 1, none⟩) hb).trans hst.word
      have c2 : wr.cell? ⟨b, off + k * 3 + 2, none⟩ = some (.bool fr) := (hB.cell (p := ⟨b, off + k * 3 + 2, none⟩) hb).trans hst.far
      have hN := hst.fits
      clear hst
      have hz : w.heap.size ≤ wr.heap.size := hB.size
      have hand := in64_bits N
      have hd20 : decide ((k : Int) < 20) = true := by simp; omega
      cases wd <;> cases fr
      all_goals go_wp2_with fail
      · refine (because_any _ p _).mono ?_
        rintro e w' ⟨rfl, rfl⟩
        go_wp2_with fail
        refine (ref_because w.heap.size _ p (by omega) u5 _ (by simp; omega) (HR.out.below ((Below.refl _ wr).alloc (Nat.le_refl _) _))).mono ?_
        rintro e w2 ⟨v', rfl, hR2, hb2⟩
        have HR2 := Lib.hid hR2; clear hR2
        have hB2 : Below w.heap.size w w2 := (hB.alloc hz _).trans (hb2.mono (by simp; omega))
        clear hb2
        go_wp2
        go_roundw
        case rel => exact ⟨k + 1, _, by omega, by omega, by have := because_len (bits BinOp.and IntKind.i64 N 31) p; omega, by go_num, rfl, good_because HG.out _ hand, HR2, hB2⟩
        case measure => simp [intOf]; omega
      · refine (because_any _ p _).mono ?_
        rintro e w' ⟨rfl, rfl⟩
        go_wp2_with fail
        refine (ref_because w.heap.size _ p (by omega) u5 _ (by simp; omega) (HR.out.below ((Below.refl _ wr).alloc (Nat.le_refl _) _))).mono ?_
        rintro e w2 ⟨v', rfl, hR2, hb2⟩
        have HR2 := Lib.hid hR2; clear hR2
        have hB2 : Below w.heap.size w w2 := (hB.alloc hz _).trans (hb2.mono (by simp; omega))
        clear hb2
        go_wp2
        go_roundw
        case rel => exact ⟨k + 1, _, by omega, by omega, by have := because_len N p; omega, by go_num, rfl, good_because HG.out _ hN, HR2, hB2⟩
        case measure => simp [intOf]; omega
      all_goals
        refine (at_any p N _).mono ?_
        rintro e w' ⟨rfl, rfl⟩
        go_wp2_with fail
        refine (ref_at w.heap.size N p (by omega) u5 _ (by simp; omega) (HR.out.below ((Below.refl _ wr).alloc (Nat.le_refl _) _))).mono ?_
        rintro e w2 ⟨v', rfl, hR2, hb2⟩
        have HR2 := Lib.hid hR2; clear hR2
        have hB2 : Below w.heap.size w w2 := (hB.alloc hz _).trans (hb2.mono (by simp; omega))
        clear hb2
        go_wp2
        go_roundw
        case rel => exact ⟨k + 1, _, by omega, by omega, by have := at_len p N; omega, by go_num, rfl, good_at HG.out _ hN, HR2, hB2⟩
        case measure => simp [intOf]; omega
    · have hge : decide ((k : Int) < (len : Int)) = false ∨ (decide ((k : Int) < (len : Int)) = true ∧ decide ((k : Int) < 20) = false) := by
        by_cases h1 : k < len
        · right; simp; omega
        · left; simp; omega
      rcases hge with h1 | ⟨h1, h2⟩
      all_goals
        go_wp2
        all_goals (go_ret2; exact ⟨p, _, rfl, HG.out, by omega, HR.out, hB⟩)

end Go.Proofs.YtplkeakkjkkfmaaDoor
