/- HeadsTurn: the law's walk. -/
import Derived.Test.YtkpffnihnhlghaaGreatDoorHAwake
namespace Go.Proofs.YtkpffnihnhlghaaGreatDoor
open Go.RowKit
theorem still_call {P : Program} {F : FuncId} {args : Array Value} {r : Value} {B : Nat} {a W : World} (hc : ∀ W, Calls P F args W fun e W' => e = .returned r ∧ W = W') (H : Hid (Below B a W)) : Calls P F args W fun e W' => e = .returned r ∧ Hid (Below B a W') :=
  (hc W).mono fun _ _ ⟨he, hb⟩ => ⟨he, hb ▸ H⟩
theorem i_and_1 (i : Nat) (hi : i < 4611686018427387904) : bits .and .i64 (i : Int) 1 = ((i % 2 : Nat) : Int) := by
  show IntKind.i64.wrap ((BitVec.ofInt 64 (i : Int) &&& BitVec.ofInt 64 1).toNat : Int) = _
  have e : (BitVec.ofInt 64 (i : Int) &&& BitVec.ofInt 64 1).toNat = i % 2 := by
    rw [BitVec.toNat_and, BitVec.ofInt_natCast, BitVec.toNat_ofNat, Nat.mod_eq_of_lt (by omega)]
    exact Nat.and_two_pow_sub_one_eq_mod i 1
  rw [e]
  simp [IntKind.wrap, IntKind.bits, IntKind.signed]
  omega

end Go.Proofs.YtkpffnihnhlghaaGreatDoor
