/- The chapter's example; what cause.Top tells. -/
import Derived.Test.YtkhbhkllnigbgaaDoorBMsg
import Derived.Test.YtkhbhkllnigbgaaDoorTMade2
namespace Go.Proofs.YtkhbhkllnigbgaaDoor
open Go.ChangeShapes Go.WideShapes Go.ChangeAt Go.RowKit
theorem top_none (w : World) (hE : Cs.ErrT w) : Calls Tryd.prog 21 #[.nilIface] w fun r w' => r = .returned (.int .i64 0) ∧ Below w.heap.size w w' := by
  have h := Cs.top_any [] (by simp [Cs.Ok]) (by simp) w hE
  exact h
theorem top_one (c : Int) (hc : ¬ c = 0) (w : World) (hE : Cs.ErrT w) : Calls Tryd.prog 21 #[.iface 55 (.int .i64 c)] w fun r w' => r = .returned (.int .i64 c) ∧ Below w.heap.size w w' := by
  have h := Cs.top_any [(c, 0)] (by simpa [Cs.Ok] using hc) (by simp) w hE
  rw [Cs.top_code _ _ hc, Cs.enc_code _ _ hc] at h
  exact h
theorem top_err (c : Nat) (w : World) (hE : Cs.ErrT w) : Calls Tryd.prog 21 #[errV c] w fun r w' => r = .returned (.int .i64 (c : Int)) ∧ Below w.heap.size w w' := by
  by_cases h : c = 0
  · subst h; exact top_none w hE
  · unfold errV; rw [if_neg h]; exact top_one c (by omega) w hE
/-- The chapter's example. -/
def exS6 : Sch := ⟨1, fun _ => 2, fun _ j => if j = 0 then 1 else 3, fun _ _ => 0⟩
def exT : Tr := .mk 0 ⟨#[]⟩ 0 (fun _ => 0) 2 (fun j => if j = 0 then .mk 7 ⟨#[]⟩ 0 (fun _ => 0) 0 (fun _ => .leaf) else .mk 0 ⟨#[]⟩ 2 (fun i => if i = 0 then 5 else 6) 0 (fun _ => .leaf))
theorem exS6_right : RightS exS6 := by
  refine ⟨by decide, by decide, fun i hi => ⟨by show 1 ≤ 2; omega, by show 2 ≤ 6; omega, fun j _ => ?_⟩⟩
  by_cases h : j = 0
  · simp [exS6, fieldOk, h]
  · simp [exS6, fieldOk, h]
theorem exT_sm : Sm 2 exT := by
  refine ⟨by decide, by decide, by decide, by decide, fun j hj => absurd hj (Nat.not_lt_zero j), fun j hj => ?_⟩
  obtain rfl | rfl : j = 0 ∨ j = 1 := by have : j < 2 := hj; omega
  · exact ⟨by decide, by decide, by decide, by decide, fun j hj => absurd hj (Nat.not_lt_zero j), fun j hj => absurd hj (Nat.not_lt_zero j)⟩
  · refine ⟨by decide, by decide, by decide, by decide, fun j hj => ?_, fun j hj => absurd hj (Nat.not_lt_zero j)⟩
    show (if j = 0 then 5 else 6) < 18446744073709551616
    split <;> omega
theorem exS6_at (w : World) : SAt ((w.alloc (.cells #[.int .i64 1, .int .i64 0, .int .i64 3, .int .i64 0] 95)).alloc (.cells #[.slice (some ⟨w.heap.size, 0, none⟩) 2 2] 96)) (some ⟨w.heap.size + 1, 0, none⟩) exS6 := by
  have r1 := (World.rowIs_alloc w #[.int .i64 1, .int .i64 0, .int .i64 3, .int .i64 0] 95 (fun j => if j = 0 then .int .i64 1 else if j = 2 then .int .i64 3 else .int .i64 0) (by intro j hj; match j, hj with | 0, _ => rfl | 1, _ => rfl | 2, _ => rfl | 3, _ => rfl)).alloc (.cells #[.slice (some ⟨w.heap.size, 0, none⟩) 2 2] 96)
  have r2 := World.rowIs_alloc (w.alloc (.cells #[.int .i64 1, .int .i64 0, .int .i64 3, .int .i64 0] 95)) #[.slice (some ⟨w.heap.size, 0, none⟩) 2 2] 96 (fun _ => .slice (some ⟨w.heap.size, 0, none⟩) 2 2) (by intro j hj; match j, hj with | 0, _ => rfl)
  simp only [World.size_alloc] at r2
  refine ⟨fun _ => ⟨w.heap.size + 1, 0, rfl, by simp, fun i hi => ?_⟩⟩
  obtain rfl : i = 0 := by have : i < 1 := hi; omega
  refine ⟨_, 2, r2.cell (i := 0) (by simp), ⟨fun _ => ⟨w.heap.size, 0, rfl, by simp; omega, fun j hj => ?_⟩⟩⟩
  obtain rfl | rfl : j = 0 ∨ j = 1 := by have : j < 2 := hj; omega
  · exact ⟨r1.cell (i := 0) (by simp), r1.cell (i := 1) (by simp)⟩
  · exact ⟨r1.cell (i := 2) (by simp), r1.cell (i := 3) (by simp)⟩
theorem exT_at (w : World) : TAt ((w.alloc (.cells #[.int .u64 5, .int .u64 6] 26)).alloc (.cells #[.int .u64 7, .string ⟨#[]⟩, .slice none 0 0, .slice none 0 0, .int .u64 0, .string ⟨#[]⟩, .slice (some ⟨w.heap.size, 0, none⟩) 2 2, .slice none 0 0] 41)) (fun _ => True) exT none (some ⟨w.heap.size + 1, 0, none⟩) := by
  have r1 := (World.rowIs_alloc w #[.int .u64 5, .int .u64 6] 26 (fun j => if j = 0 then .int .u64 5 else .int .u64 6) (by intro j hj; match j, hj with | 0, _ => rfl | 1, _ => rfl)).alloc (.cells #[.int .u64 7, .string ⟨#[]⟩, .slice none 0 0, .slice none 0 0, .int .u64 0, .string ⟨#[]⟩, .slice (some ⟨w.heap.size, 0, none⟩) 2 2, .slice none 0 0] 41)
  have r2 := World.rowIs_alloc (w.alloc (.cells #[.int .u64 5, .int .u64 6] 26)) #[.int .u64 7, .string ⟨#[]⟩, .slice none 0 0, .slice none 0 0, .int .u64 0, .string ⟨#[]⟩, .slice (some ⟨w.heap.size, 0, none⟩) 2 2, .slice none 0 0] 41 (fun j => if j = 0 then .int .u64 7 else if j = 4 then .int .u64 0 else if j = 1 then .string ⟨#[]⟩ else if j = 5 then .string ⟨#[]⟩ else if j = 6 then .slice (some ⟨w.heap.size, 0, none⟩) 2 2 else .slice none 0 0) (by intro j hj; match j, hj with | 0, _ => rfl | 1, _ => rfl | 2, _ => rfl | 3, _ => rfl | 4, _ => rfl | 5, _ => rfl | 6, _ => rfl | 7, _ => rfl)
  simp only [World.size_alloc] at r2
  refine ⟨none_row _ _ _, fun _ => ⟨w.heap.size + 1, 0, rfl, trivial, by simp, fun j hj => ?_⟩⟩
  obtain rfl | rfl : j = 0 ∨ j = 1 := by omega
  · exact ⟨none, 0, none, 0, ⟨r2.cell (i := 0) (by simp), r2.cell (i := 1) (by simp), r2.cell (i := 2) (by simp), r2.cell (i := 3) (by simp)⟩, flat_tat _ _ _ _ _ _⟩
  · refine ⟨some ⟨w.heap.size, 0, none⟩, 2, none, 0, ⟨r2.cell (i := 4) (by simp), r2.cell (i := 5) (by simp), r2.cell (i := 6) (by simp), r2.cell (i := 7) (by simp)⟩, ?_, fun h => absurd h (Nat.lt_irrefl 0)⟩
    refine ⟨⟨fun j hj => ?_, fun _ => ⟨w.heap.size, 0, rfl, by simp; omega, fun j hj => ?_⟩⟩, fun _ _ _ => trivial⟩
    · show (if j = 0 then 5 else 6) < 18446744073709551616
      split <;> omega
    · obtain rfl | rfl : j = 0 ∨ j = 1 := by omega
      · exact r1.cell (i := 0) (by simp)
      · exact r1.cell (i := 1) (by simp)

def exW : List Nat := [5, 7, 8589934593, 5, 6]
theorem exT_chk : chkC exS6 0 exT = 0 := by
  have h : chkC exS6 ((0 : Nat) : Int) exT = chk exS6 5 0 exT := chkC_ok exS6_right (by decide) exT
  rw [Int.natCast_zero] at h
  rw [h]
  decide
theorem exT_wds : wds true exT = 4 := by decide
theorem exT_code : bcode exS6 0 exT = 0 := by
  rw [bcode, if_pos exT_chk, sizeC, if_pos exT_chk, exT_wds, if_neg (by omega)]
theorem exT_msg : bmsg exS6 0 exT = exW := by
  rw [bmsg, if_pos exT_code]
  decide
theorem exW_row (w : World) : WRow (w.alloc (.cells #[.int .u64 5, .int .u64 7, .int .u64 8589934593, .int .u64 5, .int .u64 6] 26)) (some ⟨w.heap.size, 0, none⟩) 5 (nth exW) :=
  wrow_of_rowIs (World.rowIs_alloc w #[.int .u64 5, .int .u64 7, .int .u64 8589934593, .int .u64 5, .int .u64 6] 26 _ (by intro j hj; match j, hj with | 0, _ => rfl | 1, _ => rfl | 2, _ => rfl | 3, _ => rfl | 4, _ => rfl)) (fun j _ => nth_lt (L := exW) (fun x hx => by simp [exW] at hx; omega) j)

end Go.Proofs.YtkhbhkllnigbgaaDoor
