/- Words of any text, the document's own Words, Same, short. -/
import Derived.Test.YthelhimaoeimbaaRefWord
namespace Go.Proofs.Ythelhimaoeimbaa
open Go.ChangeShapes Go.WideShapes Go.ChangeAt Go.RowKit

set_option maxRecDepth 100000 in
theorem words_any (s : ByteArray) (hm : s.size ≤ 140737488351232) (w : World) : Calls Try.prog 10 #[.string s] w fun e w' => e = .returned (.slice (some ⟨w.heap.size, 0, none⟩) ((s.size + 7) / 8) ((s.size + 7) / 8)) ∧ w'.rowIs w.heap.size 31 ((s.size + 7) / 8) (fun j => .int .u64 (wordOf s j : Nat)) ∧ Below w.heap.size w w' := by
  obtain ⟨n, Hn⟩ : ∃ n, Hid ((s.size + 7) / 8 = n) := ⟨_, Lib.hid rfl⟩
  have hn := Hn.out
  rw [hn]
  have hmk := run_make_row' (P := Try.prog) 22 31 (.int .u64 0) 8 Try.underlying22 info31 rfl .i64 .i64 n (by omega) (by omega)
  clear hn
  go_enter Try.func10, Try.ntmps10
  go_wp2_with fail
  refine (count_nat s.size (by omega) _).mono ?_
  rintro e w' ⟨rfl, rfl⟩
  rw [show cnt s.size = n from Hn.out]
  go_wp2
  go_loopw [11] (fun i wr => ∃ k : Nat, k ≤ n ∧ i = .int .i64 k ∧ Hid (wr.rowIs w.heap.size 31 n (fun j => if j < k then .int .u64 (wordOf s j : Nat) else .int .u64 0)) ∧ Hid (Below w.heap.size w wr)) (fun i _ => n - (intOf i).toNat)
  case atStart => exact ⟨0, Nat.zero_le _, rfl, Lib.hid ((World.rowIs_made w _ n 31).congr fun j _ => by simp), Lib.hid ((Below.refl _ w).alloc (Nat.le_refl _) _)⟩
  case round =>
    obtain ⟨k, hk, rfl, Hrow, Hb⟩ := hrel
    by_cases hlt : k < n
    · have h8 : 8 * k < s.size := by have := Hn.out; omega
      have hfz := Hrow.out.frozen k
      have hcl := Hrow.out.cell hlt
      go_wp2_with fail
      refine (word_in s k h8 hm _).mono ?_
      rintro e w' ⟨rfl, rfl⟩
      go_wp2
      go_roundw
      case rel => exact ⟨k + 1, by omega, by go_num, Lib.hid ((Hrow.out.set k _).congr fun j hj => row_next s k j), Lib.hid (Hb.out.setCell (Nat.le_refl _) _)⟩
      case measure => simp [intOf]; omega
    · have he : k = n := by omega
      subst he
      go_wp2
      go_ret
      exact ⟨rfl, Hrow.out.congr fun j hj => by simp [hj], Hb.out⟩


theorem wrow_of_rowIs {W : World} {g n : Nat} {f : Nat → Nat} (h : W.rowIs g 31 n (fun j => .int .u64 (f j : Nat))) (hf : ∀ j, f j < 18446744073709551616) (hg : g < W.heap.size) : WRow W (some ⟨g, 0, none⟩) n f :=
  ⟨fun j _ => hf j, fun _ => ⟨g, 0, rfl, hg, fun j hj => by rw [Nat.zero_add]; exact h.cell hj⟩⟩

def cellsW (f : Nat → Nat) (n : Nat) : List Value := (List.range n).map fun j => Value.int .u64 (f j : Nat)
theorem cellsW_succ (f : Nat → Nat) (n : Nat) : cellsW f (n + 1) = cellsW f n ++ [.int .u64 (f n : Nat)] := by
  simp [cellsW, List.range_succ]
theorem cellsW_length (f : Nat → Nat) (n : Nat) : (cellsW f n).length = n := by simp [cellsW]

/-- v is a row of the first m words, made since w. -/
structure RAt (f : Nat → Nat) (w : World) (m : Nat) (v : Value) (W : World) : Prop where
  own : W.ownsRow w.heap.size 31 1 v m (cellsW f m)
  below : Below w.heap.size w W
theorem RAt.next {f : Nat → Nat} {w W w1 : World} {m : Nat} {v v' : Value} (h : RAt f w m v W)
    (ho : w1.ownsRow w.heap.size 31 1 v' (m + 1) (cellsW f m ++ [.int .u64 (f m : Nat)])) (hg : (W.alloc (.cells #[.int .u64 (f m : Nat)] 31)).grownBy w1 v.ownBlock) : RAt f w (m + 1) v' w1 := by
  refine ⟨by rw [cellsW_succ]; exact ho, ?_⟩
  refine (h.below.alloc h.below.size _).trans ⟨hg.os, hg.tape, hg.output, hg.size, fun k hk => hg.block k ?_ ?_⟩
  · have := h.below.size; simp; omega
  · intro e
    have := (h.own.lt k e.symm).1
    omega
theorem RAt.row {f : Nat → Nat} {w W : World} {m : Nat} {v : Value} (h : RAt f w m v W) (hf : ∀ j, f j < 18446744073709551616) : ∃ A c, v = .slice A m c ∧ WRow W A m f := by
  rcases h.own.2 with ⟨rfl, rfl⟩ | ⟨g, cap, cur, rfl, hg, hh, _⟩
  · exact ⟨none, 0, rfl, fun j _ => hf j, fun h => absurd h (by omega)⟩
  · refine ⟨_, _, rfl, fun j _ => hf j, fun _ => ⟨g, 0, rfl, (Array.getElem?_eq_some_iff.1 hh).1, fun j hj => ?_⟩⟩
    have := h.own.cells (g := g) rfl j (.int .u64 (f j : Nat)) (by simp [cellsW, hj])
    rw [show (⟨g, 0, none⟩ : Addr).add j = ⟨g, 0 + j, none⟩ from by unfold Addr.add; split <;> simp_all] at this
    exact this

set_option maxRecDepth 100000 in
set_option maxHeartbeats 1000000 in
theorem rwords_any (s : ByteArray) (hm : s.size ≤ 1000) (w : World) : Calls Try.prog 11 #[.string s] w fun e w' => ∃ v, e = .returned v ∧ RAt (wordOf s) w (cnt s.size) v w' := by
  obtain ⟨i0, hi, hz1, hz2, hz3⟩ := info_parts info31
  obtain ⟨n, Hn⟩ : ∃ n, Hid (cnt s.size = n) := ⟨_, Lib.hid rfl⟩
  rw [Hn.out]
  have hn : n ≤ 200 := by have := Hn.out; unfold cnt at this; omega
  go_enter Try.func11, Try.ntmps11
  go_wp2
  go_loopw [3, 4] (fun tv iv wr => ∃ (i : Nat) (a : Option Addr) (c : Nat), i ≤ n ∧ iv = .int .i64 i ∧ tv = .slice a i c ∧ Hid (RAt (wordOf s) w i (.slice a i c) wr)) (fun _ iv _ => n - (intOf iv).toNat)
  case atStart => exact ⟨0, none, 0, by omega, rfl, rfl, Lib.hid ⟨World.ownsRow_nil _ _ _ _, Below.refl _ _⟩⟩
  case round =>
    obtain ⟨i, a, c, hin, rfl, rfl, Ht⟩ := hrel
    go_wp2_with fail
    refine (rcount_nat s.size (by omega) _).mono ?_
    rintro e w' ⟨rfl, rfl⟩
    rw [Hn.out]
    by_cases hlt : i < n
    · have h8 : 8 * i < s.size := by have := Hn.out; unfold cnt at this; omega
      have hzz := Ht.out.below.size
      go_wp2_with fail
      refine (rword_in s i h8 (by omega) _).mono ?_
      rintro e w' ⟨rfl, rfl⟩
      go_wp2_with (at_builtin; refine wpList_append_own _ rfl _ _ 22 rfl w.heap.size 31 i0 (.int .u64 0) 1 8 Try.underlying22 hi hz1 hz2 hz3 rfl (by decide) _ _ _ rfl (Ht.out.own.alloc _) ⟨_, 0, none⟩ 1 1 [.int .u64 (wordOf s i : Nat)] rfl rfl (cell_one_new _ _ _) (by simp [Value.oneCell']) (by unfold maxLen; omega) (by omega) (by simp; omega) ?_; intro v' w1 hown' hgrow _; obtain ⟨g', cap', rfl⟩ := ownsRow_succ hown'; have Hnx := Lib.hid (Ht.out.next hown' hgrow); clear hown' hgrow)
      go_roundw
      case rel => exact ⟨i + 1, _, cap', by omega, by go_num, rfl, Hnx⟩
      case measure => simp [intOf]; omega
    · have he : i = n := by omega
      subst he
      go_wp2
      go_ret
      exact ⟨_, rfl, Ht.out⟩

set_option maxRecDepth 100000 in
theorem same_any (w : World) (A A' : Option Addr) (L c c' : Nat) (f : Nat → Nat) (hL : L ≤ 1000) (hr : WRow w A L f) (hr' : WRow w A' L f) : Calls Try.prog 9 #[.slice A L c, .slice A' L c'] w fun e w' => e = .returned (.bool true) ∧ ∃ m, w' = w.drewN m := by
  have Hr := Lib.hid hr
  have Hr' := Lib.hid hr'
  clear hr hr'
  go_enter Try.func9, Try.ntmps9
  go_wp2
  go_loopw [5] (fun iv wr => ∃ i m : Nat, i ≤ L ∧ iv = .int .i64 i ∧ wr = w.drewN m) (fun iv _ => L - (intOf iv).toNat)
  case atStart => exact ⟨0, 0, by omega, rfl, rfl⟩
  case round =>
    obtain ⟨i, m, hi, rfl, rfl⟩ := hrel
    by_cases hlt : i < L
    · obtain ⟨b, off, rfl, hb, hcl⟩ := Hr.out.some_ (by omega)
      obtain ⟨b', off', rfl, hb', hcl'⟩ := Hr'.out.some_ (by omega)
      have h1 := hcl i hlt
      have h2 := hcl' i hlt
      clear hcl hcl'
      have h3 := fun n : Nat => show (w.drewN n).cell? _ = _ from h1
      have h4 := fun n : Nat => show (w.drewN n).cell? _ = _ from h2
      go_wp2
      go_quiet (fail)
      go_wp2
      go_roundw
      case rel => exact ⟨i + 1, _, by omega, by go_num, rfl⟩
      case measure => simp [intOf]; omega
    · have he : i = L := by omega
      subst he
      go_wp2
      go_ret
      exact ⟨rfl, m, rfl⟩

set_option maxRecDepth 100000 in
theorem short_any (s : ByteArray) (hs : s.size ≤ 9223372036854775807) (w : World) : Calls Try.prog 6 #[.string s] w fun e w' => ∃ t : ByteArray, e = .returned (.string t) ∧ t.size ≤ 60 ∧ w = w' := by
  by_cases h : 60 < s.size
  · have h0 : decide (60 < s.size) = true := by simpa using h
    go_enter Try.func6, Try.ntmps6
    go_wp2
    go_ret
    refine ⟨_, rfl, ?_, rfl⟩
    simp
    omega
  · have h0 : decide (60 < s.size) = false := by simpa using h
    go_enter Try.func6, Try.ntmps6
    go_wp2
    go_ret
    exact ⟨s, rfl, by omega, rfl⟩

end Go.Proofs.Ythelhimaoeimbaa
