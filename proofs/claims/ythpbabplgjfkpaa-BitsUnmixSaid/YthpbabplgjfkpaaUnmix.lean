/-
  PROVED: intagliolaw02.BitsUnmix answers true for every input, and each argument reads behind the call as it read before.
  CONDITIONS: none.
-/
import Derived.Test.YthpbabplgjfkpaaAwake
namespace Go.Proofs.Ythpbabplgjfkpaa
open Go.ChangeShapes Go.WideShapes Go.ChangeAt Go.RowKit

theorem unmix_spelt (Z : V) (z1 z2 z3 z4 : Int) (h1 : z1 = bits .xor .u64 (bits .xor .u64 (Z.toNat : Int) ((Z.toNat : Int) / 2147483648)) ((Z.toNat : Int) / 4611686018427387904)) (h2 : z2 = IntKind.u64.wrap (z1 * 3573116690164977347))
    (h3 : z3 = bits .xor .u64 (bits .xor .u64 z2 (z2 / 134217728)) (z2 / 18014398509481984)) (h4 : z4 = IntKind.u64.wrap (z3 * 10871156337175269513)) :
    bits .xor .u64 (bits .xor .u64 z4 (z4 / 1073741824)) (z4 / 1152921504606846976) = ((unmixV Z).toNat : Int) := by
  have e2 : z2 = (((Z ^^^ Z >>> 31 ^^^ Z >>> 62) * 0x319642b2d24d8ec3#64 : V).toNat : Int) := by
    rw [h2, h1, show (2147483648 : Int) = ((2 ^ 31 : Nat) : Int) from rfl, show (4611686018427387904 : Int) = ((2 ^ 62 : Nat) : Int) from rfl, v_shr, v_shr, v_xor, v_xor]
    exact v_mul _ 0x319642b2d24d8ec3#64
  unfold unmixV
  simp only
  generalize ((Z ^^^ Z >>> 31 ^^^ Z >>> 62) * 0x319642b2d24d8ec3#64 : V) = A at e2 ⊢
  have e4 : z4 = (((A ^^^ A >>> 27 ^^^ A >>> 54) * 0x96de1b173f119089#64 : V).toNat : Int) := by
    rw [h4, h3, e2, show (134217728 : Int) = ((2 ^ 27 : Nat) : Int) from rfl, show (18014398509481984 : Int) = ((2 ^ 54 : Nat) : Int) from rfl, v_shr, v_shr, v_xor, v_xor]
    exact v_mul _ 0x96de1b173f119089#64
  rw [e4, show (1073741824 : Int) = ((2 ^ 30 : Nat) : Int) from rfl, show (1152921504606846976 : Int) = ((2 ^ 60 : Nat) : Int) from rfl, v_shr, v_shr, v_xor, v_xor]

set_option maxRecDepth 100000 in
theorem unmix_any (X : V) (w : World) : Calls Try.prog 7 #[.int .u64 (X.toNat : Int)] w fun e w' => e = .returned (.bool true) ∧ Below w.heap.size w w' := by
  have hm := unmix_spelt (mixV X) _ _ _ _ rfl rfl rfl rfl
  rw [unmix_mix] at hm
  go_enter Try.func7, Try.ntmps7
  go_wp2_with fail
  refine (mix_any X _).mono ?_
  rintro e w' ⟨rfl, rfl⟩
  go_wp2_with fail
  refine (awake_any _).mono ?_
  rintro e w1 ⟨rfl, hb⟩
  go_wp2
  go_ret
  exact ⟨rfl, hb⟩

end Go.Proofs.Ythpbabplgjfkpaa
