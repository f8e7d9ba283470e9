/- The document's own answers (intaglioref02): Word. -/
import Derived.Test.YthelhimaoeimbaaRef
namespace Go.Proofs.Ythelhimaoeimbaa
open Go.ChangeShapes Go.WideShapes Go.ChangeAt Go.RowKit

set_option maxRecDepth 100000 in
theorem rword_neg (s : ByteArray) (i : Int) (hi : i < 0) (w : World) : Calls Try.prog 15 #[.string s, .int .i64 i] w fun e w' => e = .returned (.int .u64 0) ∧ w = w' := by
  have h9 : decide (i < 0) = true := by simpa using hi
  go_enter Try.func15, Try.ntmps15
  go_wp2
  go_ret
  exact ⟨rfl, rfl⟩
set_option maxRecDepth 100000 in
theorem rword_out (s : ByteArray) (i : Nat) (hi : s.size ≤ 8 * i) (hm : s.size ≤ 140737488351232) (w : World) : Calls Try.prog 15 #[.string s, .int .i64 i] w fun e w' => e = .returned (.int .u64 0) ∧ w = w' := by
  have h9 : decide ((i : Int) < 0) = false := by simp
  have h7 : decide ((cnt s.size : Nat) ≤ i) = true := by unfold cnt; simp; omega
  go_enter Try.func15, Try.ntmps15
  go_wp2_with fail
  refine (rcount_nat s.size (by omega) _).mono ?_
  rintro e w' ⟨rfl, rfl⟩
  go_wp2
  go_ret
  exact ⟨rfl, rfl⟩

theorem byte_step (x t : Nat) : 256 * (x / 256 ^ (t + 1)) + x / 256 ^ t % 256 = x / 256 ^ t := by
  rw [Nat.pow_succ, ← Nat.div_div_eq_div_mul]
  omega

set_option maxRecDepth 100000 in
theorem rword_in (s : ByteArray) (i : Nat) (hi : 8 * i < s.size) (hm : s.size ≤ 140737488351232) (w : World) : Calls Try.prog 15 #[.string s, .int .i64 i] w fun e w' => e = .returned (.int .u64 (wordOf s i : Nat)) ∧ w = w' := by
  have h9 : decide ((i : Int) < 0) = false := by simp
  have h7 : decide ((cnt s.size : Nat) ≤ i) = false := by unfold cnt; simp; omega
  have hx := wordOf_lt s i
  have Hb : Hid (∀ t, t < 8 → wordOf s i / 256 ^ t % 256 = (s.data.toList[8 * i + t]?.map UInt8.toNat).getD 0) := Lib.hid fun t ht => by
    have := byteAt_word s (8 * i + t)
    rw [byteAt, show (8 * i + t) / 8 = i by omega, show (8 * i + t) % 8 = t by omega] at this
    exact this
  obtain ⟨x, Hx⟩ : ∃ x, Hid (wordOf s i = x) := ⟨_, Lib.hid rfl⟩
  rw [Hx.out] at Hb hx ⊢
  go_enter Try.func15, Try.ntmps15
  go_wp2_with fail
  refine (rcount_nat s.size (by omega) _).mono ?_
  rintro e w' ⟨rfl, rfl⟩
  go_wp2
  go_loop [5, 6] (fun wv kv => ∃ j : Nat, j ≤ 8 ∧ kv = .int .i64 ((j : Int) - 1) ∧ wv = .int .u64 (x / 256 ^ j : Nat)) (fun _ kv => (intOf kv + 1).toNat)
  case atStart => exact ⟨8, by omega, rfl, by rw [Nat.div_eq_of_lt hx]; rfl⟩
  case round =>
    obtain ⟨j, hj, rfl, rfl⟩ := hrel
    cases j with
    | zero =>
      go_wp2
      go_ret
      exact ⟨by simp, rfl⟩
    | succ t =>
      have e1 : ((t + 1 : Nat) : Int) - 1 = t := by omega
      rw [e1]
      have hst := byte_step x t
      have hle : x / 256 ^ t ≤ x := Nat.div_le_self _ _
      have hb := Hb.out t (by omega)
      obtain ⟨z, Hz⟩ : ∃ z, Hid (x / 256 ^ t = z) := ⟨_, Lib.hid rfl⟩
      rw [Hz.out] at hst hle hb
      by_cases hin : 8 * i + t < s.size
      · have hs : s.data.toList[8 * i + t]? = some s[8 * i + t] := by
          rw [Array.getElem?_toList]
          exact Array.getElem?_eq_getElem (by simpa using hin)
        rw [hs] at hb
        simp at hb
        clear hs
        generalize x / 256 ^ (t + 1) = y at *
        go_wp2
        go_round
        case rel => exact ⟨t, by omega, by go_num, by rw [Hz.out]; congr 1; omega⟩
        case measure => simp [intOf]
      · have hs : s.data.toList[8 * i + t]? = none := List.getElem?_eq_none (by simp; omega)
        rw [hs] at hb
        simp at hb
        clear hs
        generalize x / 256 ^ (t + 1) = y at *
        go_wp2
        go_round
        case rel => exact ⟨t, by omega, by go_num, by rw [Hz.out]; congr 1; omega⟩
        case measure => simp [intOf]

theorem rword_any (s : ByteArray) (i : Int) (hm : s.size ≤ 140737488351232) (w : World) : Calls Try.prog 15 #[.string s, .int .i64 i] w fun e w' => e = .returned (.int .u64 (if i < 0 then 0 else (wordOf s i.toNat : Nat))) ∧ w = w' := by
  by_cases h : i < 0
  · rw [if_pos h]; exact rword_neg s i h w
  · rw [if_neg h]
    obtain ⟨n, rfl⟩ : ∃ n : Nat, i = n := ⟨i.toNat, by omega⟩
    rw [Int.toNat_natCast]
    by_cases h' : 8 * n < s.size
    · exact rword_in s n h' hm w
    · have : wordOf s n = 0 := by
        rw [wordOf, List.drop_eq_nil_of_le (by simp; omega)]; rfl
      rw [this]
      exact rword_out s n (by omega) hm w

end Go.Proofs.Ythelhimaoeimbaa
