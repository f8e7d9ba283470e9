/- The document's own answers (intaglioref01): digits, Codes, Word, Top, Root, Has. -/
import Derived.Test.YtplkeakkjkkfmaaDoorChains
namespace Go.Proofs.YtplkeakkjkkfmaaDoor
open Go.RowKit

theorem digits_step (k : Nat) (hk : 10 ≤ k) (l : List UInt8) : Lib.decDigits k ++ l = Lib.decDigits (k / 10) ++ (dgt k :: l) := by
  rw [Lib.decDigits, dif_neg (by omega)]
  simp [dgt]
theorem digits_last (k : Nat) (hk : k < 10) : Lib.decDigits k = [dgt k] := by
  rw [Lib.decDigits, dif_pos hk]
  have : k % 10 = k := Nat.mod_eq_of_lt hk
  simp [dgt, this]

theorem one_byte_small (k : Nat) (hk : k < 10) (W : World) : (convert 70 9 (.slice (some ⟨W.heap.size, 0, none⟩) 1 1)).run Tryd.prog (W.alloc (.cells #[.int .u8 (48 + (k : Int))] 5)) = .ok (.string ⟨[dgt k].toArray⟩) (W.alloc (.cells #[.int .u8 (48 + (k : Int))] 5)) := by
  have h := one_byte W k
  have e : (k : Int) % 10 = k := by omega
  rw [e] at h
  exact h

/-- What the loop has told so far of n: k is still to tell. -/
structure ToldR (n k : Nat) (l : List UInt8) : Prop where
  eq : Lib.decDigits n = Lib.decDigits k ++ l
  le : k * 10 ^ l.length ≤ n
theorem toldR_start (n : Nat) : ToldR n n [] := ⟨by simp, by simp⟩
theorem toldR_next {n k : Nat} {l : List UInt8} (h : ToldR n k l) (hk : 10 ≤ k) : ToldR n (k / 10) (dgt k :: l) := by
  refine ⟨by rw [h.eq, digits_step k hk], ?_⟩
  have h1 := h.le
  calc k / 10 * 10 ^ (l.length + 1) = (k / 10 * 10) * 10 ^ l.length := by rw [Nat.pow_succ]; ac_rfl
    _ ≤ k * 10 ^ l.length := Nat.mul_le_mul_right _ (Nat.div_mul_le_self k 10)
    _ ≤ n := h1
theorem toldR_len {n k : Nat} {l : List UInt8} (h : ToldR n k l) (hk : 10 ≤ k) (hn : n < 18446744073709551616) : l.length ≤ 19 := by
  rcases Nat.lt_or_ge l.length 20 with h' | h'
  · omega
  · exfalso
    have h1 := h.le
    have h2 : 10 ^ 20 ≤ 10 ^ l.length := Nat.pow_le_pow_right (by omega) h'
    have h3 : 10 * 10 ^ 20 ≤ k * 10 ^ l.length := Nat.mul_le_mul hk h2
    omega
theorem toldR_end {n k : Nat} {l : List UInt8} (h : ToldR n k l) (hk : k < 10) : Lib.decDigits n = dgt k :: l := by
  rw [h.eq, digits_last k hk]; rfl

set_option maxRecDepth 100000 in
set_option maxHeartbeats 1000000 in
theorem digits_pos (n : Nat) (hn : n < 9223372036854775808) (w : World) : Calls Tryd.prog 36 #[.int .i64 n] w fun e w' => e = .returned (.string ⟨(Lib.decDigits n).toArray⟩) ∧ Below w.heap.size w w' := by
  have h9 : decide ((n : Int) < 0) = false := by simp
  have Hst := Lib.hid (toldR_start n)
  go_enter Tryd.func36, Tryd.ntmps36
  go_wp2
  go_loopw [3, 4] (fun nv s wr => ∃ (k : Nat) (l : List UInt8), nv = .int .u64 k ∧ s = .string ⟨l.toArray⟩ ∧ k ≤ n ∧ l.length ≤ 20 ∧ Hid (ToldR n k l) ∧ Below w.heap.size w wr) (fun nv _ _ => (intOf nv).toNat)
  case atStart => exact ⟨n, [], rfl, rfl, Nat.le_refl _, by simp, Hst, Below.refl _ w⟩
  case round =>
    obtain ⟨k, l, rfl, rfl, hkn, hl, HT, hB⟩ := hrel
    by_cases hk : 10 ≤ k
    · have hl' := toldR_len HT.out hk (by omega)
      have Hnx := Lib.hid (toldR_next HT.out hk)
      have hconv := one_byte wr k
      go_wp2
      go_roundw
      case rel => exact ⟨k / 10, dgt k :: l, by go_num, by rw [bytes_app]; simp, by omega, by simp; omega, Hnx, hB.alloc hB.size _⟩
      case measure => simp [intOf]; omega
    · have He := Lib.hid (toldR_end HT.out (by omega))
      have hk' : k < 10 := by omega
      have hconv := one_byte_small k hk' wr
      go_wp2
      go_ret
      refine ⟨?_, hB.alloc hB.size _⟩
      rw [He.out, bytes_app]
      simp

set_option maxRecDepth 100000 in
set_option maxHeartbeats 1000000 in
theorem digits_neg (n : Nat) (h1 : 1 ≤ n) (hn : n ≤ 9223372036854775808) (w : World) : Calls Tryd.prog 36 #[.int .i64 (-(n : Int))] w fun e w' => e = .returned (.string ⟨(45 :: Lib.decDigits n).toArray⟩) ∧ Below w.heap.size w w' := by
  have h9 : decide (0 < n) = true := by simp; omega
  have hww := wrap_neg_neg n hn
  have Hst := Lib.hid (toldR_start n)
  go_enter Tryd.func36, Tryd.ntmps36
  go_wp2
  go_loopw [3, 4] (fun nv s wr => ∃ (k : Nat) (l : List UInt8), nv = .int .u64 k ∧ s = .string ⟨l.toArray⟩ ∧ k ≤ n ∧ l.length ≤ 20 ∧ Hid (ToldR n k l) ∧ Below w.heap.size w wr) (fun nv _ _ => (intOf nv).toNat)
  case atStart => exact ⟨n, [], rfl, rfl, Nat.le_refl _, by simp, Hst, Below.refl _ w⟩
  case round =>
    obtain ⟨k, l, rfl, rfl, hkn, hl, HT, hB⟩ := hrel
    by_cases hk : 10 ≤ k
    · have hl' := toldR_len HT.out hk (by omega)
      have Hnx := Lib.hid (toldR_next HT.out hk)
      have hconv := one_byte wr k
      go_wp2
      go_roundw
      case rel => exact ⟨k / 10, dgt k :: l, by go_num, by rw [bytes_app]; simp, by omega, by simp; omega, Hnx, hB.alloc hB.size _⟩
      case measure => simp [intOf]; omega
    · have He := Lib.hid (toldR_end HT.out (by omega))
      have hk' : k < 10 := by omega
      have hconv := one_byte_small k hk' wr
      go_wp2
      go_ret
      refine ⟨?_, hB.alloc hB.size _⟩
      rw [He.out, bytes_app]
      rw [bytes_app]; simp

theorem digits_any (c : Int) (h : In64 c) (w : World) : Calls Tryd.prog 36 #[.int .i64 c] w fun e w' => e = .returned (.string ⟨(Lib.itoa c).toArray⟩) ∧ Below w.heap.size w w' := by
  obtain ⟨h0, h1⟩ := h
  by_cases h : c < 0
  · obtain ⟨n, rfl⟩ : ∃ n : Nat, c = -(n : Int) := ⟨c.natAbs, by omega⟩
    rw [Lib.itoa_neg n (by omega)]
    exact digits_neg n (by omega) (by omega) w
  · obtain ⟨n, rfl⟩ : ∃ n : Nat, c = (n : Int) := ⟨c.toNat, by omega⟩
    rw [Lib.itoa_nonneg]
    exact digits_pos n (by omega) w

end Go.Proofs.YtplkeakkjkkfmaaDoor
