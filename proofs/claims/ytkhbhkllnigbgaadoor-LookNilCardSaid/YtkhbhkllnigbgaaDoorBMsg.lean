/- A message is built. -/
import Derived.Test.YtkhbhkllnigbgaaDoorBThree
import Derived.Test.YtkhbhkllnigbgaaDoorBSmall
import Derived.Deep.RegionLaw
namespace Go.Proofs.YtkhbhkllnigbgaaDoor
open Go.ChangeShapes Go.WideShapes Go.ChangeAt Go.RowKit
theorem chkC_0 {s : Sch} {t : Int} {x : Tr} (h : chkC s t x = 0) : RightS s ∧ ∃ m : Nat, t = m ∧ m < s.n ∧ chk s 5 m x = 0 := by
  unfold chkC at h
  by_cases g : okS s = true ∧ hasT s t
  · rw [if_pos g] at h
    have g2 := g.2
    unfold hasT at g2
    exact ⟨right_of_okS g.1, t.toNat, by omega, by omega, h⟩
  · rw [if_neg g] at h; cases h
/-- Which trouble Build tells, and what it builds. -/
noncomputable def bcode (s : Sch) (t : Int) (x : Tr) : Nat := if chkC s t x = 0 then (if 200 < sizeC s t x then 21 else 0) else chkC s t x
noncomputable def bmsg (s : Sch) (t : Int) (x : Tr) : List Nat := if bcode s t x = 0 then msgL s t.toNat x else []
/-- A row of words, in blocks made since B. -/
structure MRow (B : Nat) (W : World) (A : Option Addr) (L : List Nat) : Prop where
  row : WRow W A L.length (nth L)
  new : 0 < L.length → ∀ a, A = some a → B ≤ a.block
theorem MRow.below {B : Nat} {W W' : World} {A : Option Addr} {L : List Nat} (h : MRow B W A L) (hb : Below W.heap.size W W') : MRow B W' A L := ⟨h.row.below hb, h.new⟩
theorem MRow.nil (B : Nat) (W : World) (A : Option Addr) : MRow B W A [] := ⟨⟨fun j hj => absurd hj (Nat.not_lt_zero j), fun h => absurd h (Nat.lt_irrefl 0)⟩, fun h => absurd h (Nat.lt_irrefl 0)⟩
theorem mk_words (n : Nat) (hn : n ≤ 1000) (w : World) : (Instr.makeSlice 22 (.int .i64 0) (.int .i64 (n : Int))).run Tryd.prog w = .ok (.slice (some ⟨w.heap.size, 0, none⟩) 0 n) (w.alloc (.cells (madeCells #[.int .u64 0] n) 26)) := by
  obtain ⟨i, hi, hz1, hz2, hz3⟩ := info_parts info_u64
  have hr := run_make (P := Tryd.prog) w 22 26 i (.int .u64 0) Tryd.underlying22 hi hz1 .i64 .i64 0 n (by omega) (by omega) (by rw [hz3]; omega) (by omega)
  simp only [Int.toNat_natCast, hz2, Nat.mul_one] at hr
  exact hr
theorem bmsg_len {s : Sch} {t : Int} {x : Tr} (h : bcode s t x = 0) : (bmsg s t x).length = sizeC s t x ∧ sizeC s t x ≤ 200 ∧ chkC s t x = 0 := by
  by_cases h0 : chkC s t x = 0
  · by_cases hl : 200 < sizeC s t x
    · rw [bcode, if_pos h0, if_pos hl] at h; cases h
    · obtain ⟨hR, m, rfl, hm, hc⟩ := chkC_0 h0
      exact ⟨by rw [bmsg, if_pos h, Int.toNat_natCast, msgL_len hR hm hc, sizeC, if_pos h0], by omega, h0⟩
  · rw [bcode, if_neg h0] at h; exact absurd h h0
theorem bmsg_none {s : Sch} {t : Int} {x : Tr} (h : ¬ bcode s t x = 0) : bmsg s t x = [] := if_neg h
theorem bmsg_le (s : Sch) (t : Int) (x : Tr) : (bmsg s t x).length ≤ 200 := by
  by_cases h : bcode s t x = 0
  · have := bmsg_len h; omega
  · rw [bmsg_none h]; simp

end Go.Proofs.YtkhbhkllnigbgaaDoor
