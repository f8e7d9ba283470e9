/- What Errno.Error tells: the words, and the number's digits. -/
import Derived.Test.YtplkeakkjkkfmaaDoorMake
import Derived.Lib.ItoaLen
import Derived.Lib.ItoaMem
namespace Go.Proofs.YtplkeakkjkkfmaaDoor
open Go.RowKit

/-- The digit of a number's last place. -/
def dgt (n : Nat) : UInt8 := UInt8.ofNat (48 + n % 10)

theorem dgt_nat (n : Nat) : (dgt n).toNat = 48 + n % 10 := by
  unfold dgt; simp [UInt8.toNat_ofNat']; omega

theorem one_byte (W : World) (n : Nat) : (convert 70 9 (.slice (some ⟨W.heap.size, 0, none⟩) 1 1)).run Tryd.prog (W.alloc (.cells #[.int .u8 (48 + (n : Int) % 10)] 5)) = .ok (.string ⟨[dgt n].toArray⟩) (W.alloc (.cells #[.int .u8 (48 + (n : Int) % 10)] 5)) := by
  refine run_convert_bytes_back _ 70 9 5 ⟨W.heap.size, 0, none⟩ 1 [dgt n] Tryd.underlying70 Tryd.underlying5 Tryd.underlying9 ?_
  intro j hj
  match j, hj with
  | 0, _ =>
    have : ((dgt n).toNat : Int) = 48 + (n : Int) % 10 := by rw [dgt_nat]; omega
    simp [Addr.add, this]

theorem one_byte' (k : Nat) (W : World) : (convert 70 9 (.slice (some ⟨W.heap.size, 0, none⟩) 1 1)).run Tryd.prog (W.alloc (.cells #[.int .u8 (48 + (k : Int) / 10 % 10)] 5)) = .ok (.string ⟨#[dgt (k / 10)]⟩) (W.alloc (.cells #[.int .u8 (48 + (k : Int) / 10 % 10)] 5)) := by
  have h := one_byte W (k / 10)
  have e : (((k / 10 : Nat) : Int)) = (k : Int) / 10 := by omega
  rw [e] at h
  exact h

theorem bytes_app (a b : Array UInt8) : (⟨a⟩ ++ ⟨b⟩ : ByteArray) = ⟨a ++ b⟩ := by
  apply ByteArray.ext; simp

/-- What the loop has told so far of n: k is still to tell, but for its last digit. -/
structure Told (n k : Nat) (l : List UInt8) : Prop where
  eq : Lib.decDigits n = (if k < 10 then [] else Lib.decDigits (k / 10)) ++ l
  le : k * 10 ^ (l.length - 1) ≤ n
  pos : 1 ≤ l.length

theorem told_start (n : Nat) : Told n n [dgt n] := by
  refine ⟨?_, by simp, by simp⟩
  rw [Lib.decDigits]
  by_cases h : n < 10
  · have : n % 10 = n := Nat.mod_eq_of_lt h
    simp [h, dgt, this]
  · simp [h, dgt]

theorem told_next {n k : Nat} {l : List UInt8} (h : Told n k l) (hk : 10 ≤ k) : Told n (k / 10) (dgt (k / 10) :: l) := by
  refine ⟨?_, ?_, by simp⟩
  · rw [h.eq, if_neg (by omega), Lib.decDigits]
    by_cases h9 : k / 10 < 10
    · have : k / 10 % 10 = k / 10 := Nat.mod_eq_of_lt h9
      simp [h9, dgt, this]
    · simp [h9, dgt]
  · have h1 := h.le
    have h2 := h.pos
    obtain ⟨m, hm⟩ : ∃ m, l.length = m + 1 := ⟨l.length - 1, by omega⟩
    simp only [List.length_cons, hm, Nat.add_sub_cancel] at h1 ⊢
    calc k / 10 * 10 ^ (m + 1) = (k / 10 * 10) * 10 ^ m := by rw [Nat.pow_succ]; ac_rfl
      _ ≤ k * 10 ^ m := Nat.mul_le_mul_right _ (Nat.div_mul_le_self k 10)
      _ ≤ n := h1

theorem told_len {n k : Nat} {l : List UInt8} (h : Told n k l) (hk : 10 ≤ k) (hn : n < 18446744073709551616) : l.length ≤ 19 := by
  rcases Nat.lt_or_ge l.length 20 with h' | h'
  · omega
  · exfalso
    have h1 := h.le
    have h2 : 10 ^ 19 ≤ 10 ^ (l.length - 1) := Nat.pow_le_pow_right (by omega) (by omega)
    have h3 : 10 * 10 ^ 19 ≤ k * 10 ^ (l.length - 1) := Nat.mul_le_mul hk h2
    omega

theorem told_end {n k : Nat} {l : List UInt8} (h : Told n k l) (hk : k < 10) : Lib.decDigits n = l := by
  have := h.eq
  rwa [if_pos hk] at this

/-- 'intaglio: error '. -/
def errWord : List UInt8 := [105, 110, 116, 97, 103, 108, 105, 111, 58, 32, 101, 114, 114, 111, 114, 32]

set_option maxRecDepth 100000 in
set_option maxHeartbeats 1000000 in
theorem error_pos (n : Nat) (hn : n < 9223372036854775808) (w : World) : Calls Tryd.prog 32 #[.int .i64 n] w fun e w' => e = .returned (.string ⟨(errWord ++ Lib.decDigits n).toArray⟩) ∧ Below w.heap.size w w' := by
  have hconv := one_byte
  have h9 : decide ((n : Int) < 0) = false := by simp
  have Hst := Lib.hid (told_start n)
  go_enter Tryd.func32, Tryd.ntmps32
  go_wp2
  go_loopw [3, 5] (fun nv s wr => ∃ (k : Nat) (l : List UInt8), nv = .int .u64 k ∧ s = .string ⟨l.toArray⟩ ∧ k ≤ n ∧ l.length ≤ 20 ∧ Hid (Told n k l) ∧ Below w.heap.size w wr) (fun nv _ _ => (intOf nv).toNat)
  case atStart => exact ⟨n, [dgt n], rfl, rfl, Nat.le_refl _, by simp, Hst, (Below.refl _ w).alloc (Nat.le_refl _) _⟩
  case round =>
    obtain ⟨k, l, rfl, rfl, hkn, hl, HT, hB⟩ := hrel
    by_cases hk : 10 ≤ k
    · have hl' := told_len HT.out hk (by omega)
      have Hnx := Lib.hid (told_next HT.out hk)
      have hkz : k / 10 < k := by omega
      clear hconv
      have hconv := one_byte' k
      go_wp2
      go_roundw
      case rel => exact ⟨k / 10, dgt (k / 10) :: l, by go_num, by rw [bytes_app]; simp, by omega, by simp; omega, Hnx, hB.alloc hB.size _⟩
      case measure => simp [intOf]; omega
    · have He := Lib.hid (told_end HT.out (by omega))
      have hk' : k < 10 := by omega
      go_wp2
      go_ret
      refine ⟨?_, hB⟩
      rw [He.out, bytes_app, bytes_app]
      simp [errWord]

theorem wrap_neg_neg (n : Nat) (hn : n ≤ 9223372036854775808) : IntKind.u64.wrap (-IntKind.u64.wrap (-(n : Int))) = n := by
  simp only [IntKind.wrap_u64]
  omega

set_option maxRecDepth 100000 in
set_option maxHeartbeats 1000000 in
theorem error_neg (n : Nat) (h1 : 1 ≤ n) (hn : n ≤ 9223372036854775808) (w : World) : Calls Tryd.prog 32 #[.int .i64 (-(n : Int))] w fun e w' => e = .returned (.string ⟨(errWord ++ 45 :: Lib.decDigits n).toArray⟩) ∧ Below w.heap.size w w' := by
  have hconv := one_byte
  have h9 : decide (0 < n) = true := by simp; omega
  have hww := wrap_neg_neg n hn
  have Hst := Lib.hid (told_start n)
  go_enter Tryd.func32, Tryd.ntmps32
  go_wp2
  go_loopw [3, 5] (fun nv s wr => ∃ (k : Nat) (l : List UInt8), nv = .int .u64 k ∧ s = .string ⟨l.toArray⟩ ∧ k ≤ n ∧ l.length ≤ 20 ∧ Hid (Told n k l) ∧ Below w.heap.size w wr) (fun nv _ _ => (intOf nv).toNat)
  case atStart => exact ⟨n, [dgt n], rfl, rfl, Nat.le_refl _, by simp, Hst, (Below.refl _ w).alloc (Nat.le_refl _) _⟩
  case round =>
    obtain ⟨k, l, rfl, rfl, hkn, hl, HT, hB⟩ := hrel
    by_cases hk : 10 ≤ k
    · have hl' := told_len HT.out hk (by omega)
      have Hnx := Lib.hid (told_next HT.out hk)
      have hkz : k / 10 < k := by omega
      clear hconv
      have hconv := one_byte' k
      go_wp2
      go_roundw
      case rel => exact ⟨k / 10, dgt (k / 10) :: l, by go_num, by rw [bytes_app]; simp, by omega, by simp; omega, Hnx, hB.alloc hB.size _⟩
      case measure => simp [intOf]; omega
    · have He := Lib.hid (told_end HT.out (by omega))
      have hk' : k < 10 := by omega
      go_wp2
      go_ret
      refine ⟨?_, hB⟩
      rw [He.out, bytes_app, bytes_app]
      simp [errWord]

/-- A code's text. -/
def codeText (c : Int) : List UInt8 := errWord ++ Lib.itoa c

theorem error_any (c : Int) (h0 : -9223372036854775808 ≤ c) (h1 : c ≤ 9223372036854775807) (w : World) : Calls Tryd.prog 32 #[.int .i64 c] w fun e w' => e = .returned (.string ⟨(codeText c).toArray⟩) ∧ Below w.heap.size w w' := by
  unfold codeText
  by_cases h : c < 0
  · obtain ⟨n, rfl⟩ : ∃ n : Nat, c = -(n : Int) := ⟨c.natAbs, by omega⟩
    rw [Lib.itoa_neg n (by omega)]
    exact error_neg n (by omega) (by omega) w
  · obtain ⟨n, rfl⟩ : ∃ n : Nat, c = (n : Int) := ⟨c.toNat, by omega⟩
    rw [Lib.itoa_nonneg]
    exact error_pos n (by omega) w

end Go.Proofs.YtplkeakkjkkfmaaDoor
