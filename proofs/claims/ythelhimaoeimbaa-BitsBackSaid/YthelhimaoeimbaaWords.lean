/- Words: a new row of Count words. -/
import Derived.Test.YthelhimaoeimbaaWord
import Derived.Deep.OwnRows
namespace Go.Proofs.Ythelhimaoeimbaa
open Go.ChangeShapes Go.WideShapes Go.ChangeAt Go.RowKit

theorem info31 : (Try.prog.info? 31).map (fun i => (i.zero, i.size, i.bytes)) = some (some (.int .u64 0), 1, 8) := by kernel_rfl

theorem row_next (s : ByteArray) (k j : Nat) : (if j = k then Value.int .u64 (wordOf s k : Nat) else if j < k then .int .u64 (wordOf s j : Nat) else .int .u64 0) = if j < k + 1 then .int .u64 (wordOf s j : Nat) else .int .u64 0 := by
  by_cases h : j = k
  · subst h; simp
  · rw [if_neg h]
    by_cases h1 : j < k
    · rw [if_pos h1, if_pos (by omega)]
    · rw [if_neg h1, if_neg (by omega)]

set_option maxRecDepth 100000 in
theorem words_some (s : ByteArray) (h0 : 1 ≤ s.size) (hm : s.size ≤ 140737488351232) (w : World) : Calls Try.prog 10 #[.string s] w fun e w' => e = .returned (.slice (some ⟨w.heap.size, 0, none⟩) ((s.size + 7) / 8) ((s.size + 7) / 8)) ∧ w'.rowIs w.heap.size 31 ((s.size + 7) / 8) (fun j => .int .u64 (wordOf s j : Nat)) ∧ Below w.heap.size w w' := by
  obtain ⟨n, Hn⟩ : ∃ n, Hid ((s.size + 7) / 8 = n) := ⟨_, Lib.hid rfl⟩
  have hn := Hn.out
  rw [hn]
  have hmk := run_make_row' (P := Try.prog) 22 31 (.int .u64 0) 8 Try.underlying22 info31 rfl .i64 .i64 n (by omega) (by omega)
  clear hn
  go_enter Try.func10, Try.ntmps10
  go_wp2_with fail
  refine (count_pos s.size (by omega) (by omega) _).mono ?_
  rintro e w' ⟨rfl, rfl⟩
  rw [Hn.out]
  go_wp2
  go_loopw [11] (fun i wr => ∃ k : Nat, k ≤ n ∧ i = .int .i64 k ∧ Hid (wr.rowIs w.heap.size 31 n (fun j => if j < k then .int .u64 (wordOf s j : Nat) else .int .u64 0)) ∧ Hid (Below w.heap.size w wr)) (fun i _ => n - (intOf i).toNat)
  case atStart => exact ⟨0, Nat.zero_le _, rfl, Lib.hid ((World.rowIs_made w _ n 31).congr fun j _ => by simp), Lib.hid ((Below.refl _ w).alloc (Nat.le_refl _) _)⟩
  case round =>
    obtain ⟨k, hk, rfl, Hrow, Hb⟩ := hrel
    by_cases hlt : k < n
    · have h8 : 8 * k < s.size := by have := Hn.out; omega
      have hfz := Hrow.out.frozen k
      have hcl := Hrow.out.cell hlt
      go_wp2_with fail
      refine (word_in s k h8 hm _).mono ?_
      rintro e w' ⟨rfl, rfl⟩
      go_wp2
      go_roundw
      case rel => exact ⟨k + 1, by omega, by go_num, Lib.hid ((Hrow.out.set k _).congr fun j hj => row_next s k j), Lib.hid (Hb.out.setCell (Nat.le_refl _) _)⟩
      case measure => simp [intOf]; omega
    · have he : k = n := by omega
      subst he
      go_wp2
      go_ret
      exact ⟨rfl, Hrow.out.congr fun j hj => by simp [hj], Hb.out⟩

end Go.Proofs.Ythelhimaoeimbaa
