/- A type in one word; a schema's words. -/
import Derived.Test.YtojlimpooeehhaaDoorQTell
import Derived.ProofKit
import Derived.OpenShut
import Derived.ShutString
import Derived.Laws.Bits64
import Derived.Laws.BitsAllLaws
namespace Go.Proofs.YtojlimpooeehhaaDoor
open Go.ChangeShapes Go.WideShapes Go.ChangeAt Go.RowKit
theorem quiet_eq {P : Program} {f : FuncId} {args : Array Value} {w : World} {n : Nat} {v : Value}
    (h : Calls P f args (w.drewN n) fun e w' => e = .returned v ∧ w.drewN n = w') : Calls P f args (w.drewN n) fun e w'' => e = .returned v ∧ ∃ m, w'' = w.drewN m :=
  h.mono fun _ _ ⟨he, hm⟩ => ⟨he, n, hm.symm⟩
theorem below_drewN {B : Nat} {a b : World} (h : Below B a b) (m : Nat) : Below B a (b.drewN m) := ⟨h.os, h.tape, h.output, h.size, h.block⟩
theorem pow6 (j : Nat) : 2 ^ (j * 6) = 64 ^ j := by rw [Nat.mul_comm, Nat.pow_mul]
/-- A part more is put into a word. -/
theorem or_part (a x p : Nat) (ha : a < 2 ^ p) (h : a + x * 2 ^ p < 18446744073709551616) : bits .or .u64 (a : Int) (IntKind.u64.wrap ((x : Int) * 2 ^ p)) = ((a + x * 2 ^ p : Nat) : Int) := by
  have e : (x : Int) * 2 ^ p = ((x * 2 ^ p : Nat) : Int) := by rw [Int.natCast_mul, Int.natCast_pow]; rfl
  have e2 : IntKind.u64.wrap ((x * 2 ^ p : Nat) : Int) = ((x * 2 ^ p : Nat) : Int) := by rw [IntKind.wrap_u64]; omega
  rw [e, e2, u64_or_nat _ _ (by omega) (by omega), Nat.or_comm, ← Nat.shiftLeft_eq, ← Nat.shiftLeft_add_eq_or_of_lt ha, Nat.add_comm]

theorem row_put (f : Nat → Nat) (m j : Nat) : (if j = m then Value.int .u64 (f m : Nat) else .int .u64 (if j < m then f j else 0 : Nat)) = .int .u64 (if j < m + 1 then f j else 0 : Nat) := by
  by_cases e : j = m
  · subst e; simp
  · by_cases h : j < m
    · rw [if_neg e, if_pos h, if_pos (by omega)]
    · rw [if_neg e, if_neg h, if_neg (by omega)]
theorem info_u64 : (Tryd.prog.info? 30).map (fun i => (i.zero, i.size, i.bytes)) = some (some (.int .u64 0), 1, 8) := by kernel_rfl

end Go.Proofs.YtojlimpooeehhaaDoor
