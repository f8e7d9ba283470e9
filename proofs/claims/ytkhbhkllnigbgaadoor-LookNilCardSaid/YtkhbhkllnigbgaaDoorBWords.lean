/- A text's words: bits.Count, Word, Words. -/
import Derived.Test.YtkhbhkllnigbgaaDoorQAll
import Derived.LoopTactic
import Derived.WalkSpells
import Derived.Outline
import Derived.Lib.Hide
import Derived.Lib.IndexBytes
import Derived.WalkMore
import Derived.Deep.LoopGhost
import Derived.Deep.OwnRows
import Derived.Laws.Bits64
import Derived.Laws.BitsAllLaws
namespace Go.Proofs.YtkhbhkllnigbgaaDoor
open Go.ChangeShapes Go.WideShapes Go.ChangeAt Go.RowKit
/-- The number whose digits by 256 are these bytes, the lowest one first. -/
def leN : List UInt8 → Nat
  | [] => 0
  | b :: l => b.toNat + 256 * leN l

theorem leN_append (l : List UInt8) (b : UInt8) : leN (l ++ [b]) = leN l + b.toNat * 256 ^ l.length := by
  induction l with
  | nil => simp [leN]
  | cons a l ih => simp only [List.cons_append, leN, ih, List.length_cons, Nat.pow_succ, Nat.mul_add, Nat.add_assoc]; congr 2; ac_rfl
theorem leN_lt (l : List UInt8) : leN l < 256 ^ l.length := by
  induction l with
  | nil => simp [leN]
  | cons a l ih => simp only [leN, List.length_cons, Nat.pow_succ]; have := a.toNat_lt; omega
theorem leN_step (r : ByteArray) (k : Nat) (hk : k < 8) (h : k < r.size) : bits .or .u64 ((leN (r.data.toList.take k) : Nat) : Int) (IntKind.u64.wrap (IntKind.u64.wrap (r[k].toNat : Int) * 2 ^ (k * 8))) = ((leN (r.data.toList.take (k + 1)) : Nat) : Int) := by
  have hl : (r.data.toList.take k).length = k := by simp; omega
  have e1 : r.data.toList.take (k + 1) = r.data.toList.take k ++ [r[k]] := by
    rw [List.take_add_one]
    congr 1
    have : r.data.toList[k]? = some r[k] := by
      rw [Array.getElem?_toList]
      exact Array.getElem?_eq_getElem (by simpa using h)
    rw [this]; rfl
  have hb : r[k].toNat < 256 := r[k].toNat_lt
  have h1 := leN_lt (r.data.toList.take k)
  rw [hl] at h1
  have hp : (256 : Nat) ^ k = 2 ^ (k * 8) := by rw [show (256 : Nat) = 2 ^ 8 from rfl, ← Nat.pow_mul, Nat.mul_comm]
  have hq : (2 : Nat) ^ (k * 8) * 256 ≤ 2 ^ 64 := by
    rw [show (256 : Nat) = 2 ^ 8 from rfl, ← Nat.pow_add]
    exact Nat.pow_le_pow_right (by omega) (by omega)
  have h2 : r[k].toNat * 2 ^ (k * 8) < 18446744073709551616 := by
    have : r[k].toNat * 2 ^ (k * 8) < 256 * 2 ^ (k * 8) := Nat.mul_lt_mul_of_pos_right hb (Nat.pow_pos (by omega))
    have e : (2 : Nat) ^ 64 = 18446744073709551616 := rfl
    omega
  have h3 : leN (r.data.toList.take k) < 18446744073709551616 := by
    have e : (2 : Nat) ^ 64 = 18446744073709551616 := rfl
    rw [hp] at h1; omega
  have e2 : IntKind.u64.wrap (r[k].toNat : Int) = (r[k].toNat : Int) := by rw [IntKind.wrap_u64]; omega
  have e3 : IntKind.u64.wrap ((r[k].toNat : Int) * 2 ^ (k * 8)) = ((r[k].toNat * 2 ^ (k * 8) : Nat) : Int) := by
    have e : (r[k].toNat : Int) * 2 ^ (k * 8) = ((r[k].toNat * 2 ^ (k * 8) : Nat) : Int) := by rw [Int.natCast_mul, Int.natCast_pow]; rfl
    rw [e, IntKind.wrap_u64]
    omega
  rw [e2, e3, u64_or_nat _ _ h3 h2, e1, leN_append, hl, hp, Nat.or_comm, nat_join (k * 8) _ _ (Nat.mul_mod_left _ _) (by rw [← hp]; exact h1), Nat.add_comm]

set_option maxRecDepth 100000 in
theorem bcount_le (n : Int) (h : n ≤ 0) (w : World) : Calls Tryd.prog 158 #[.int .i64 n] w fun e w' => e = .returned (.int .i64 0) ∧ w = w' := by
  go_enter Tryd.func158, Tryd.ntmps158
  go_wp2
  go_ret
  exact ⟨rfl, rfl⟩
set_option maxRecDepth 100000 in
theorem bcount_pos (n : Nat) (h0 : 1 ≤ n) (h1 : n ≤ 9223372036854775807) (w : World) : Calls Tryd.prog 158 #[.int .i64 n] w fun e w' => e = .returned (.int .i64 (((n + 7) / 8 : Nat) : Int)) ∧ w = w' := by
  have h2 : (((n + 7) / 8 : Nat) : Int) = ((n : Int) - 1) / 8 + 1 := by omega
  rw [h2]
  go_enter Tryd.func158, Tryd.ntmps158
  go_wp2
  go_ret
  exact ⟨rfl, rfl⟩

theorem bcount_nat (n : Nat) (h1 : n ≤ 9223372036854775807) (w : World) : Calls Tryd.prog 158 #[.int .i64 n] w fun e w' => e = .returned (.int .i64 (((n + 7) / 8) : Nat)) ∧ w = w' := by
  by_cases h : 1 ≤ n
  · exact bcount_pos n h h1 w
  · have h0 : n = 0 := by omega
    subst h0
    exact bcount_le 0 (by omega) w

theorem btake_same (r : ByteArray) (k : Nat) (h : k = r.size) (h8 : k ≤ 8) : r.data.toList.take k = r.data.toList.take 8 := by
  have : r.data.toList.length = r.size := by simp
  rw [List.take_of_length_le (by omega), List.take_of_length_le (by omega)]

/-- The i-th eight bytes of a text as a number. -/
def wordOf (s : ByteArray) (i : Nat) : Nat := leN ((s.data.toList.drop (i * 8)).take 8)
theorem wordOf_eq (s : ByteArray) (i : Nat) {r : ByteArray} (h : s.extract (i * 8) s.size = r) : wordOf s i = leN (r.data.toList.take 8) := by
  rw [wordOf, ← h, Lib.extract_to_end]

theorem binfo : (Tryd.prog.info? 26).map (fun i => (i.zero, i.size, i.bytes)) = some (some (.int .u64 0), 1, 8) := by kernel_rfl

theorem brow_next (s : ByteArray) (k j : Nat) : (if j = k then Value.int .u64 (wordOf s k : Nat) else if j < k then .int .u64 (wordOf s j : Nat) else .int .u64 0) = if j < k + 1 then .int .u64 (wordOf s j : Nat) else .int .u64 0 := by
  by_cases h : j = k
  · subst h; simp
  · rw [if_neg h]
    by_cases h1 : j < k
    · rw [if_pos h1, if_pos (by omega)]
    · rw [if_neg h1, if_neg (by omega)]


end Go.Proofs.YtkhbhkllnigbgaaDoor
