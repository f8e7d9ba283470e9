/- The chapter's example; what cause.Top tells; rows of numbers that are laid. -/
import Derived.Test.YtojlimpooeehhaaDoorTGet2
import Derived.Test.YtojlimpooeehhaaDoorTMade2
import Derived.Test.YtojlimpooeehhaaDoorCsTop
namespace Go.Proofs.YtojlimpooeehhaaDoor
open Go.ChangeShapes Go.WideShapes Go.ChangeAt Go.RowKit
theorem top_none (w : World) (hE : Cs.ErrT w) : Calls Tryd.prog 28 #[.nilIface] w fun r w' => r = .returned (.int .i64 0) ∧ Below w.heap.size w w' := by
  have h := Cs.top_any [] (by simp [Cs.Ok]) (by simp) w hE
  exact h
theorem top_one (c : Int) (hc : ¬ c = 0) (w : World) (hE : Cs.ErrT w) : Calls Tryd.prog 28 #[.iface 57 (.int .i64 c)] w fun r w' => r = .returned (.int .i64 c) ∧ Below w.heap.size w w' := by
  have h := Cs.top_any [(c, 0)] (by simpa [Cs.Ok] using hc) (by simp) w hE
  rw [Cs.top_code _ _ hc, Cs.enc_code _ _ hc] at h
  exact h
theorem top_err (c : Nat) (w : World) (hE : Cs.ErrT w) : Calls Tryd.prog 28 #[errV c] w fun r w' => r = .returned (.int .i64 (c : Int)) ∧ Below w.heap.size w w' := by
  by_cases h : c = 0
  · subst h; exact top_none w hE
  · unfold errV; rw [if_neg h]; exact top_one c (by omega) w hE
theorem prow1 (w : World) (i : Int) : PRow (w.alloc (.cells #[.int .i64 i] 3)) (some ⟨w.heap.size, 0, none⟩) [i] := fun _ => by
  have r := World.rowIs_alloc w #[.int .i64 i] 3 (fun _ => .int .i64 i) (by intro j hj; match j, hj with | 0, _ => rfl)
  refine ⟨w.heap.size, 0, rfl, by simp, fun j hj => ?_⟩
  obtain rfl : j = 0 := by simpa using hj
  exact r.cell (i := 0) (by simp)
theorem prow2 (w : World) (i k : Int) : PRow (w.alloc (.cells #[.int .i64 i, .int .i64 k] 3)) (some ⟨w.heap.size, 0, none⟩) [i, k] := fun _ => by
  have r := World.rowIs_alloc w #[.int .i64 i, .int .i64 k] 3 (fun j => if j = 0 then .int .i64 i else .int .i64 k) (by intro j hj; match j, hj with | 0, _ => rfl | 1, _ => rfl)
  refine ⟨w.heap.size, 0, rfl, by simp, fun j hj => ?_⟩
  obtain rfl | rfl : j = 0 ∨ j = 1 := by simp at hj; omega
  · exact r.cell (i := 0) (by simp)
  · exact r.cell (i := 1) (by simp)
theorem prow3 (w : World) (i k l : Int) : PRow (w.alloc (.cells #[.int .i64 i, .int .i64 k, .int .i64 l] 3)) (some ⟨w.heap.size, 0, none⟩) [i, k, l] := fun _ => by
  have r := World.rowIs_alloc w #[.int .i64 i, .int .i64 k, .int .i64 l] 3 (fun j => if j = 0 then .int .i64 i else if j = 1 then .int .i64 k else .int .i64 l) (by intro j hj; match j, hj with | 0, _ => rfl | 1, _ => rfl | 2, _ => rfl)
  refine ⟨w.heap.size, 0, rfl, by simp, fun j hj => ?_⟩
  obtain rfl | rfl | rfl : j = 0 ∨ j = 1 ∨ j = 2 := by simp at hj; omega
  · exact r.cell (i := 0) (by simp)
  · exact r.cell (i := 1) (by simp)
  · exact r.cell (i := 2) (by simp)

/-- The chapter's example. -/
def exS6 : Sch := ⟨1, fun _ => 2, fun _ j => if j = 0 then 1 else 3, fun _ _ => 0⟩
def exT : Tr := .mk 0 ⟨#[]⟩ 0 (fun _ => 0) 2 (fun j => if j = 0 then .mk 7 ⟨#[]⟩ 0 (fun _ => 0) 0 (fun _ => .leaf) else .mk 0 ⟨#[]⟩ 2 (fun i => if i = 0 then 5 else 6) 0 (fun _ => .leaf))
theorem exS6_right : RightS exS6 := by
  refine ⟨by decide, by decide, fun i hi => ⟨by show 1 ≤ 2; omega, by show 2 ≤ 6; omega, fun j _ => ?_⟩⟩
  by_cases h : j = 0
  · simp [exS6, fieldOk, h]
  · simp [exS6, fieldOk, h]
theorem exT_get : getC exS6 0 exT [1, 0] = (5, 0) := by
  have h : chkC exS6 ((0 : Nat) : Int) exT = 0 := by rw [chkC_ok exS6_right (by decide)]; decide
  have h' : chkC exS6 0 exT = 0 := h
  rw [getC, if_pos h', if_neg (by simp)]
  decide
theorem exT_sm : Sm 2 exT := by
  refine ⟨by decide, by decide, by decide, by decide, fun j hj => absurd hj (Nat.not_lt_zero j), fun j hj => ?_⟩
  obtain rfl | rfl : j = 0 ∨ j = 1 := by have : j < 2 := hj; omega
  · exact ⟨by decide, by decide, by decide, by decide, fun j hj => absurd hj (Nat.not_lt_zero j), fun j hj => absurd hj (Nat.not_lt_zero j)⟩
  · refine ⟨by decide, by decide, by decide, by decide, fun j hj => ?_, fun j hj => absurd hj (Nat.not_lt_zero j)⟩
    show (if j = 0 then 5 else 6) < 18446744073709551616
    split <;> omega
theorem exS6_at (w : World) : SAt ((w.alloc (.cells #[.int .i64 1, .int .i64 0, .int .i64 3, .int .i64 0] 64)).alloc (.cells #[.slice (some ⟨w.heap.size, 0, none⟩) 2 2] 65)) (some ⟨w.heap.size + 1, 0, none⟩) exS6 := by
  have r1 := (World.rowIs_alloc w #[.int .i64 1, .int .i64 0, .int .i64 3, .int .i64 0] 64 (fun j => if j = 0 then .int .i64 1 else if j = 2 then .int .i64 3 else .int .i64 0) (by intro j hj; match j, hj with | 0, _ => rfl | 1, _ => rfl | 2, _ => rfl | 3, _ => rfl)).alloc (.cells #[.slice (some ⟨w.heap.size, 0, none⟩) 2 2] 65)
  have r2 := World.rowIs_alloc (w.alloc (.cells #[.int .i64 1, .int .i64 0, .int .i64 3, .int .i64 0] 64)) #[.slice (some ⟨w.heap.size, 0, none⟩) 2 2] 65 (fun _ => .slice (some ⟨w.heap.size, 0, none⟩) 2 2) (by intro j hj; match j, hj with | 0, _ => rfl)
  simp only [World.size_alloc] at r2
  refine ⟨fun _ => ⟨w.heap.size + 1, 0, rfl, by simp, fun i hi => ?_⟩⟩
  obtain rfl : i = 0 := by have : i < 1 := hi; omega
  refine ⟨_, 2, r2.cell (i := 0) (by simp), ⟨fun _ => ⟨w.heap.size, 0, rfl, by simp; omega, fun j hj => ?_⟩⟩⟩
  obtain rfl | rfl : j = 0 ∨ j = 1 := by have : j < 2 := hj; omega
  · exact ⟨r1.cell (i := 0) (by simp), r1.cell (i := 1) (by simp)⟩
  · exact ⟨r1.cell (i := 2) (by simp), r1.cell (i := 3) (by simp)⟩
theorem exT_at (w : World) : TAt ((w.alloc (.cells #[.int .u64 5, .int .u64 6] 30)).alloc (.cells #[.int .u64 7, .string ⟨#[]⟩, .slice none 0 0, .slice none 0 0, .int .u64 0, .string ⟨#[]⟩, .slice (some ⟨w.heap.size, 0, none⟩) 2 2, .slice none 0 0] 34)) (fun _ => True) exT none (some ⟨w.heap.size + 1, 0, none⟩) := by
  have r1 := (World.rowIs_alloc w #[.int .u64 5, .int .u64 6] 30 (fun j => if j = 0 then .int .u64 5 else .int .u64 6) (by intro j hj; match j, hj with | 0, _ => rfl | 1, _ => rfl)).alloc (.cells #[.int .u64 7, .string ⟨#[]⟩, .slice none 0 0, .slice none 0 0, .int .u64 0, .string ⟨#[]⟩, .slice (some ⟨w.heap.size, 0, none⟩) 2 2, .slice none 0 0] 34)
  have r2 := World.rowIs_alloc (w.alloc (.cells #[.int .u64 5, .int .u64 6] 30)) #[.int .u64 7, .string ⟨#[]⟩, .slice none 0 0, .slice none 0 0, .int .u64 0, .string ⟨#[]⟩, .slice (some ⟨w.heap.size, 0, none⟩) 2 2, .slice none 0 0] 34 (fun j => if j = 0 then .int .u64 7 else if j = 4 then .int .u64 0 else if j = 1 then .string ⟨#[]⟩ else if j = 5 then .string ⟨#[]⟩ else if j = 6 then .slice (some ⟨w.heap.size, 0, none⟩) 2 2 else .slice none 0 0) (by intro j hj; match j, hj with | 0, _ => rfl | 1, _ => rfl | 2, _ => rfl | 3, _ => rfl | 4, _ => rfl | 5, _ => rfl | 6, _ => rfl | 7, _ => rfl)
  simp only [World.size_alloc] at r2
  refine ⟨none_row _ _ _, fun _ => ⟨w.heap.size + 1, 0, rfl, trivial, by simp, fun j hj => ?_⟩⟩
  obtain rfl | rfl : j = 0 ∨ j = 1 := by omega
  · exact ⟨none, 0, none, 0, ⟨r2.cell (i := 0) (by simp), r2.cell (i := 1) (by simp), r2.cell (i := 2) (by simp), r2.cell (i := 3) (by simp)⟩, flat_tat _ _ _ _ _ _⟩
  · refine ⟨some ⟨w.heap.size, 0, none⟩, 2, none, 0, ⟨r2.cell (i := 4) (by simp), r2.cell (i := 5) (by simp), r2.cell (i := 6) (by simp), r2.cell (i := 7) (by simp)⟩, ?_, fun h => absurd h (Nat.lt_irrefl 0)⟩
    refine ⟨⟨fun j hj => ?_, fun _ => ⟨w.heap.size, 0, rfl, by simp; omega, fun j hj => ?_⟩⟩, fun _ _ _ => trivial⟩
    · show (if j = 0 then 5 else 6) < 18446744073709551616
      split <;> omega
    · obtain rfl | rfl : j = 0 ∨ j = 1 := by omega
      · exact r1.cell (i := 0) (by simp)
      · exact r1.cell (i := 1) (by simp)

theorem awake_get (W : World) (As At Ap : Option Addr) (hs : SAt W As exS6) (ht : TAt W (fun _ => True) exT none At) (hp : PRow W Ap [1, 0]) : Calls Tryd.prog 32 #[.slice As 1 1, .int .i64 0, .agg #[.int .u64 0, .string ⟨#[]⟩, .slice none 0 0, .slice At 2 2], .slice Ap 2 2] W fun e w' => e = .returned (.tuple #[.int .u64 5, .nilIface]) ∧ Below W.heap.size W w' := by
  have h := tget_any exS6 As 1 0 exT none At 0 2 2 Ap 2 [1, 0] W hs exT_sm ht hp (by simp) (by simp)
  rw [exT_get] at h
  exact h
set_option maxRecDepth 100000 in
set_option maxHeartbeats 2000000 in
theorem awake_any (w : World) (hE : Cs.ErrT w) : Calls Tryd.prog 12 #[] w fun e w' => e = .returned (.bool true) ∧ Below w.heap.size w w' := by
  have HE := Lib.hid hE
  clear hE
  have hs := exS6_at w
  have ht := exT_at ((w.alloc (.cells #[.int .i64 1, .int .i64 0, .int .i64 3, .int .i64 0] 64)).alloc (.cells #[.slice (some ⟨w.heap.size, 0, none⟩) 2 2] 65))
  simp only [World.size_alloc] at ht
  have hp := prow2 ((((w.alloc (.cells #[.int .i64 1, .int .i64 0, .int .i64 3, .int .i64 0] 64)).alloc (.cells #[.slice (some ⟨w.heap.size, 0, none⟩) 2 2] 65)).alloc (.cells #[.int .u64 5, .int .u64 6] 30)).alloc (.cells #[.int .u64 7, .string ⟨#[]⟩, .slice none 0 0, .slice none 0 0, .int .u64 0, .string ⟨#[]⟩, .slice (some ⟨w.heap.size + 1 + 1, 0, none⟩) 2 2, .slice none 0 0] 34)) 1 0
  simp only [World.size_alloc] at hp
  have hs5 := ((hs.below ((Below.refl _ _).alloc (Nat.le_refl _) (.cells #[.int .u64 5, .int .u64 6] 30))).below ((Below.refl _ _).alloc (Nat.le_refl _) (.cells #[.int .u64 7, .string ⟨#[]⟩, .slice none 0 0, .slice none 0 0, .int .u64 0, .string ⟨#[]⟩, .slice (some ⟨w.heap.size + 1 + 1, 0, none⟩) 2 2, .slice none 0 0] 34))).below ((Below.refl _ _).alloc (Nat.le_refl _) (.cells #[.int .i64 1, .int .i64 0] 3))
  have ht5 := ht.below ((Below.refl _ _).alloc (Nat.le_refl _) (.cells #[.int .i64 1, .int .i64 0] 3))
  have HG := Lib.hid (awake_get _ _ _ _ hs5 ht5 hp)
  clear hs ht hp hs5 ht5
  go_enter Tryd.func12, Tryd.ntmps12
  go_wp2_with fail
  refine HG.out.mono ?_
  rintro e w1 ⟨rfl, hb⟩
  have HB := Lib.hid (Below.step (B := w.heap.size) (a := w) (by (repeat (first | with_reducible exact Below.refl _ _ | with_reducible refine Below.drew ?_ | (with_reducible refine Below.setCell ?_ ?side _; case side => exact (by first | (simp; done) | (simp; omega) | omega)) | (with_reducible refine Below.alloc ?_ ?side _; case side => exact (by first | (simp; done) | (simp; omega) | omega))))) hb (by first | (simp; done) | (simp; omega) | omega))
  clear hb HG
  go_wp2_with fail
  refine (top_none _ (HE.out.below HB.out)).mono ?_
  rintro e w2 ⟨rfl, hb⟩
  have HB2 := Lib.hid (Below.step HB.out hb HB.out.size)
  clear hb
  go_wp2
  go_ret
  exact ⟨rfl, HB2.out⟩

end Go.Proofs.YtojlimpooeehhaaDoor
