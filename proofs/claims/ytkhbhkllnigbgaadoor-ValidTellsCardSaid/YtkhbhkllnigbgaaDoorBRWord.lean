/- The document's own words of a text. -/
import Derived.Test.YtkhbhkllnigbgaaDoorBSmall
import Derived.Test.YtkhbhkllnigbgaaDoorQApp
import Derived.LoopTactic
import Derived.WalkMore
import Derived.Lib.IndexBytes
namespace Go.Proofs.YtkhbhkllnigbgaaDoor
open Go.ChangeShapes Go.WideShapes Go.ChangeAt Go.RowKit
def byteAt (f : Nat → Nat) (i : Nat) : Nat := f (i / 8) / 256 ^ (i % 8) % 256
/-- The digits of a number by 256. -/
theorem leN_digit : ∀ (l : List UInt8) (k : Nat), leN l / 256 ^ k % 256 = (l[k]?.map UInt8.toNat).getD 0
  | [], k => by simp [leN]
  | b :: l, 0 => by
    have := b.toNat_lt
    simp [leN]
  | b :: l, k + 1 => by
    have hb := b.toNat_lt
    rw [leN, Nat.pow_succ, Nat.mul_comm (256 ^ k), ← Nat.div_div_eq_div_mul, show (b.toNat + 256 * leN l) / 256 = leN l by omega, leN_digit l k]
    simp

theorem byteAt_word (s : ByteArray) (i : Nat) : byteAt (wordOf s) i = (s.data.toList[i]?.map UInt8.toNat).getD 0 := by
  rw [byteAt, wordOf, leN_digit, List.getElem?_take_of_lt (by omega), List.getElem?_drop, show i / 8 * 8 + i % 8 = i by omega]

theorem rcount_nat (n : Nat) (h : n ≤ 1000) (w : World) : Calls Tryd.prog 115 #[.int .i64 (n : Int)] w fun e w' => e = .returned (.int .i64 ((cnt n : Nat) : Int)) ∧ w = w' := rcount_any n h w
set_option maxRecDepth 100000 in
theorem rword_neg (s : ByteArray) (i : Int) (hi : i < 0) (w : World) : Calls Tryd.prog 146 #[.string s, .int .i64 i] w fun e w' => e = .returned (.int .u64 0) ∧ w = w' := by
  have h9 : decide (i < 0) = true := by simpa using hi
  go_enter Tryd.func146, Tryd.ntmps146
  go_wp2
  go_ret
  exact ⟨rfl, rfl⟩
set_option maxRecDepth 100000 in
theorem rword_out (s : ByteArray) (i : Nat) (hi : s.size ≤ 8 * i) (hm : s.size ≤ 1000) (w : World) : Calls Tryd.prog 146 #[.string s, .int .i64 i] w fun e w' => e = .returned (.int .u64 0) ∧ w = w' := by
  have h9 : decide ((i : Int) < 0) = false := by simp
  have h7 : decide ((cnt s.size : Nat) ≤ i) = true := by unfold cnt; simp; omega
  go_enter Tryd.func146, Tryd.ntmps146
  go_wp2_with fail
  refine (rcount_nat s.size (by omega) _).mono ?_
  rintro e w' ⟨rfl, rfl⟩
  go_wp2
  go_ret
  exact ⟨rfl, rfl⟩

theorem byte_step (x t : Nat) : 256 * (x / 256 ^ (t + 1)) + x / 256 ^ t % 256 = x / 256 ^ t := by
  rw [Nat.pow_succ, ← Nat.div_div_eq_div_mul]
  omega

set_option maxRecDepth 100000 in
theorem rword_in (s : ByteArray) (i : Nat) (hi : 8 * i < s.size) (hm : s.size ≤ 1000) (w : World) : Calls Tryd.prog 146 #[.string s, .int .i64 i] w fun e w' => e = .returned (.int .u64 (wordOf s i : Nat)) ∧ w = w' := by
  have h9 : decide ((i : Int) < 0) = false := by simp
  have h7 : decide ((cnt s.size : Nat) ≤ i) = false := by unfold cnt; simp; omega
  have hx := wordOf_lt s i
  have Hb : Hid (∀ t, t < 8 → wordOf s i / 256 ^ t % 256 = (s.data.toList[8 * i + t]?.map UInt8.toNat).getD 0) := Lib.hid fun t ht => by
    have := byteAt_word s (8 * i + t)
    rw [byteAt, show (8 * i + t) / 8 = i by omega, show (8 * i + t) % 8 = t by omega] at this
    exact this
  obtain ⟨x, Hx⟩ : ∃ x, Hid (wordOf s i = x) := ⟨_, Lib.hid rfl⟩
  rw [Hx.out] at Hb hx ⊢
  go_enter Tryd.func146, Tryd.ntmps146
  go_wp2_with fail
  refine (rcount_nat s.size (by omega) _).mono ?_
  rintro e w' ⟨rfl, rfl⟩
  go_wp2
  go_loop [5, 6] (fun wv kv => ∃ j : Nat, j ≤ 8 ∧ kv = .int .i64 ((j : Int) - 1) ∧ wv = .int .u64 (x / 256 ^ j : Nat)) (fun _ kv => (intOf kv + 1).toNat)
  case atStart => exact ⟨8, by omega, rfl, by rw [Nat.div_eq_of_lt hx]; rfl⟩
  case round =>
    obtain ⟨j, hj, rfl, rfl⟩ := hrel
    cases j with
    | zero =>
      go_wp2
      go_ret
      exact ⟨by simp, rfl⟩
    | succ t =>
      have e1 : ((t + 1 : Nat) : Int) - 1 = t := by omega
      rw [e1]
      have hst := byte_step x t
      have hle : x / 256 ^ t ≤ x := Nat.div_le_self _ _
      have hb := Hb.out t (by omega)
      obtain ⟨z, Hz⟩ : ∃ z, Hid (x / 256 ^ t = z) := ⟨_, Lib.hid rfl⟩
      rw [Hz.out] at hst hle hb
      by_cases hin : 8 * i + t < s.size
      · have hs : s.data.toList[8 * i + t]? = some s[8 * i + t] := by
          rw [Array.getElem?_toList]
          exact Array.getElem?_eq_getElem (by simpa using hin)
        rw [hs] at hb
        simp at hb
        clear hs
        generalize x / 256 ^ (t + 1) = y at *
        go_wp2
        go_round
        case rel => exact ⟨t, by omega, by go_num, by rw [Hz.out]; congr 1; omega⟩
        case measure => simp [intOf]
      · have hs : s.data.toList[8 * i + t]? = none := List.getElem?_eq_none (by simp; omega)
        rw [hs] at hb
        simp at hb
        clear hs
        generalize x / 256 ^ (t + 1) = y at *
        go_wp2
        go_round
        case rel => exact ⟨t, by omega, by go_num, by rw [Hz.out]; congr 1; omega⟩
        case measure => simp [intOf]

set_option maxRecDepth 100000 in
set_option maxHeartbeats 1000000 in
theorem rwords_any (s : ByteArray) (hm : s.size ≤ 1000) (w : World) : Calls Tryd.prog 114 #[.string s] w fun e w' => ∃ v, e = .returned v ∧ RAt (wordOf s) w (cnt s.size) v w' := by
  obtain ⟨i0, hi, hz1, hz2, hz3⟩ := info_parts info_u64
  obtain ⟨n, Hn⟩ : ∃ n, Hid (cnt s.size = n) := ⟨_, Lib.hid rfl⟩
  rw [Hn.out]
  have hn : n ≤ 200 := by have := Hn.out; unfold cnt at this; omega
  go_enter Tryd.func114, Tryd.ntmps114
  go_wp2
  go_loopw [3, 4] (fun tv iv wr => ∃ (i : Nat) (a : Option Addr) (c : Nat), i ≤ n ∧ iv = .int .i64 i ∧ tv = .slice a i c ∧ Hid (RAt (wordOf s) w i (.slice a i c) wr)) (fun _ iv _ => n - (intOf iv).toNat)
  case atStart => exact ⟨0, none, 0, by omega, rfl, rfl, Lib.hid ⟨World.ownsRow_nil _ _ _ _, Below.refl _ _⟩⟩
  case round =>
    obtain ⟨i, a, c, hin, rfl, rfl, Ht⟩ := hrel
    go_wp2_with fail
    refine (rcount_nat s.size (by omega) _).mono ?_
    rintro e w' ⟨rfl, rfl⟩
    rw [Hn.out]
    by_cases hlt : i < n
    · have h8 : 8 * i < s.size := by have := Hn.out; unfold cnt at this; omega
      have hzz := Ht.out.below.size
      go_wp2_with fail
      refine (rword_in s i h8 (by omega) _).mono ?_
      rintro e w' ⟨rfl, rfl⟩
      go_wp2_with (at_builtin; refine wpList_append_own _ rfl _ _ 22 rfl w.heap.size 26 i0 (.int .u64 0) 1 8 Tryd.underlying22 hi hz1 hz2 hz3 rfl (by decide) _ _ _ rfl (Ht.out.own.alloc _) ⟨_, 0, none⟩ 1 1 [.int .u64 (wordOf s i : Nat)] rfl rfl (cell_one_new _ _ _) (by simp [Value.oneCell']) (by unfold maxLen; omega) (by omega) (by simp; omega) ?_; intro v' w1 hown' hgrow _; obtain ⟨g', cap', rfl⟩ := ownsRow_succ hown'; have Hnx := Lib.hid (Ht.out.next hown' hgrow); clear hown' hgrow)
      go_roundw
      case rel => exact ⟨i + 1, _, cap', by omega, by go_num, rfl, Hnx⟩
      case measure => simp [intOf]; omega
    · have he : i = n := by omega
      subst he
      go_wp2
      go_ret
      exact ⟨_, rfl, Ht.out⟩


end Go.Proofs.YtkhbhkllnigbgaaDoor
