/- BuildRefs: the law's walk. -/
import Derived.Test.YtifbaphfjamdlaaDoorBAwake
namespace Go.Proofs.YtifbaphfjamdlaaDoor
open Go.ChangeShapes Go.WideShapes Go.ChangeAt Go.RowKit
theorem refN_mod (o n : Int) : ((refN o n % 4294967296 : Nat) : Int) = o % 4294967296 := by unfold refN; omega
theorem refN_div (o n : Int) : ((refN o n / 4294967296 : Nat) : Int) = n % 4294967296 := by unfold refN; omega
theorem refN_back (m : Nat) (h : m < 18446744073709551616) : refN ((m : Int) % 4294967296) ((m : Int) / 4294967296) = m := by unfold refN; omega
theorem and_low_i64 (o : Int) : bits .and .i64 o 4294967295 = o % 4294967296 := by
  have e : (BitVec.ofInt 64 (4294967295 : Int)).toNat = 2 ^ 32 - 1 := by decide
  have h : (BitVec.ofInt 64 o &&& BitVec.ofInt 64 (4294967295 : Int)).toNat = (o % 4294967296).toNat := by
    rw [BitVec.toNat_and, e, Nat.and_two_pow_sub_one_eq_mod, BitVec.toNat_ofInt]
    omega
  show IntKind.i64.wrap ((BitVec.ofInt 64 o &&& BitVec.ofInt 64 (4294967295 : Int)).toNat : Int) = _
  rw [h]
  exact (IntWalk.i64_in _ (by omega)).trans (by omega)
theorem and_low_u64 (m : Nat) (h : m < 18446744073709551616) : bits .and .u64 (m : Int) 4294967295 = ((m % 4294967296 : Nat) : Int) := by
  have h1 := u64_and_nat m 4294967295 h (by omega)
  rw [show ((4294967295 : Nat) : Int) = 4294967295 from rfl] at h1
  rw [h1, show (4294967295 : Nat) = 2 ^ 32 - 1 from rfl, Nat.and_two_pow_sub_one_eq_mod]
set_option maxRecDepth 100000 in
set_option maxHeartbeats 4000000 in
theorem lawRefs_any (o n : Int) (m : Nat) (hm : m < 18446744073709551616) (w : World) (hE : Cs.ErrT w) :
    Calls Tryd.prog 4 #[.int .i64 o, .int .i64 n, .int .u64 (m : Nat)] w fun e w' => e = .returned (.bool true) ∧ Below w.heap.size w w' := by
  have HE := Lib.hid hE
  have HM := Lib.hid (refN_back m hm)
  have H1 := Lib.hid (refN_mod o n)
  have H2 := Lib.hid (refN_div o n)
  have a1 := and_low_i64 o
  have a2 := and_low_i64 n
  have a3 := and_low_u64 m hm
  clear hE
  go_enter Tryd.func4, Tryd.ntmps4
  go_wp2_with fail
  refine (awake7_any _ HE.out).mono ?_
  rintro e w1 ⟨rfl, hb⟩
  go_wp2_with fail
  refine (bpart_any m hm _).mono ?_
  rintro e w2 ⟨rfl, rfl⟩
  go_wp2_with fail
  refine (bref_any o n _).mono ?_
  rintro e w2 ⟨rfl, rfl⟩
  go_wp2_with fail
  refine (bpart_any (refN o n) (refN_lt o n) _).mono ?_
  rintro e w2 ⟨rfl, rfl⟩
  rw [H1.out, H2.out]
  go_wp2_with fail
  refine (bref_any o n _).mono ?_
  rintro e w2 ⟨rfl, rfl⟩
  go_wp2_with fail
  refine (r7ref_any o n _).mono ?_
  rintro e w2 ⟨rfl, rfl⟩
  go_wp2_with fail
  refine (bref_any _ _ _).mono ?_
  rintro e w2 ⟨rfl, rfl⟩
  rw [HM.out]
  go_wp2
  go_ret
  refine ⟨?_, hb⟩
  rfl

end Go.Proofs.YtifbaphfjamdlaaDoor
