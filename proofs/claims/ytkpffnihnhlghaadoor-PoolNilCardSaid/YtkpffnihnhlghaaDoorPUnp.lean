/- Unpack. -/
import Derived.Test.YtkpffnihnhlghaaDoorPPack
namespace Go.Proofs.YtkpffnihnhlghaaDoor
open Go.RowKit
def zeroC : Cfg := ⟨0, 0, 0, 0, 0, 0, 0, 0, 0⟩
/-- The parts that Unpack has read so far. -/
def upTo (n k j : Nat) : Value := .int .i64 (if j < k then (dg n j : Int) else 0)
theorem upTo_put (n k j : Nat) : (if j = k then Value.int .i64 (dg n k : Int) else upTo n k j) = upTo n (k + 1) j := by
  unfold upTo
  by_cases e : j = k
  · subst e; simp
  · by_cases h : j < k
    · rw [if_neg e, if_pos h, if_pos (by omega)]
    · rw [if_neg e, if_neg h, if_neg (by omega)]
theorem upTo_all (n j : Nat) (h : j < 9) : upTo n 9 j = .int .i64 (dg n j : Int) := by rw [upTo, if_pos h]

/-- What Unpack answers. -/
noncomputable def unpOk (n : Nat) : Bool := rightB (unpC n) && decide (n < 9223372036854775808)
noncomputable def unpV (n : Nat) : Cfg := if unpOk n then unpC n else zeroC
noncomputable def unpE (n : Nat) : Value := if unpOk n then .nilIface else .iface 46 (.int .i64 10)

theorem drewN_row {w : World} {b t n m : Nat} {f : Nat → Value} (h : w.rowIs b t n f) : (w.drewN m).rowIs b t n f := h.of_block rfl


end Go.Proofs.YtkpffnihnhlghaaDoor
