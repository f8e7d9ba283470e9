/-
  PROVED: intagliolaw02.BitsMix answers true for every input, and each argument reads behind the call as it read before.
  CONDITIONS: none.
-/
import Derived.Test.YthpbabplgjfkpaaLift
namespace Go.Proofs.Ythpbabplgjfkpaa
open Go.ChangeShapes Go.WideShapes Go.ChangeAt Go.RowKit

theorem many_bound (many : Int) : ∃ n : Nat, wrap64 (1 + (wrap64 (many.tmod 20 + 20)).tmod 20) = (n : Int) ∧ 1 ≤ n ∧ n ≤ 20 := by
  have h1 : -20 < many.tmod 20 := Int.lt_tmod_of_pos many (by decide)
  have h2 : many.tmod 20 < 20 := Int.tmod_lt_of_pos many (by decide)
  have e1 : wrap64 (many.tmod 20 + 20) = many.tmod 20 + 20 := by unfold wrap64; omega
  rw [e1, Int.tmod_eq_emod_of_nonneg (by omega)]
  refine ⟨(1 + (many.tmod 20 + 20) % 20).toNat, ?_, by omega, by omega⟩
  unfold wrap64
  omega
theorem add_spelt (X : V) (k : Nat) (hk : k ≤ 20) : IntKind.u64.wrap ((X.toNat : Int) + (k : Int)) = ((X + BitVec.ofNat 64 k).toNat : Int) := by
  have e : (BitVec.ofNat 64 k).toNat = k := by rw [BitVec.toNat_ofNat]; exact Nat.mod_eq_of_lt (by omega)
  rw [← v_add, e]
theorem mix_other (X : V) (k : Nat) (h1 : 1 ≤ k) (hk : k ≤ 20) : (((mixV (X + BitVec.ofNat 64 k)).toNat : Int) == ((mixV X).toNat : Int)) = false := by
  rw [v_eq, beq_eq_false_iff_ne]
  intro h
  have := congrArg BitVec.toNat (mix_inj h)
  rw [BitVec.toNat_add, BitVec.toNat_ofNat] at this
  have := vlt X
  omega

theorem mix_nought (w : World) : Calls Try.prog 10 #[.int .u64 0] w fun e w' => e = .returned (.int .u64 0) ∧ w = w' := by
  have h := mix_any 0#64 w
  rw [mix_zero] at h
  exact h

set_option maxRecDepth 100000 in
theorem lawMix_any (X : V) (many : Int) (w : World) : Calls Try.prog 5 #[.int .u64 (X.toNat : Int), .int .i64 many] w fun e w' => e = .returned (.bool true) ∧ Below w.heap.size w w' := by
  go_enter Try.func5, Try.ntmps5
  go_wp2_with fail
  refine (awake_any _).mono ?_
  rintro e w1 ⟨rfl, hb⟩
  have Hb := Lib.hid hb; clear hb
  go_wp2_with fail
  refine (mix_any X _).mono ?_
  rintro e w' ⟨rfl, rfl⟩
  go_wp2
  obtain ⟨n, hn, hn1, hn2⟩ := many_bound many
  rw [hn]
  clear hn
  go_loop [8] (fun i => ∃ k : Nat, 1 ≤ k ∧ k ≤ n + 1 ∧ i = .int .i64 k) (fun i => 30 - (intOf i).toNat)
  case atStart => exact ⟨1, by omega, by omega, rfl⟩
  case round =>
    obtain ⟨k, hk1, hk2, rfl⟩ := hrel
    by_cases hlt : k ≤ n
    · have hd := mix_other X k hk1 (by omega)
      have Ha := Lib.hid (add_spelt X k (by omega))
      go_wp2_with fail
      rw [Ha.out]
      refine (mix_any _ _).mono ?_
      rintro e w' ⟨rfl, rfl⟩
      go_wp2
      go_round
      case rel => exact ⟨k + 1, by omega, by omega, by go_num⟩
      case measure => simp [intOf]; omega
    · go_wp2_with fail
      refine (mix_nought _).mono ?_
      rintro e w' ⟨rfl, rfl⟩
      go_wp2_with fail
      refine (refMix_any X _).mono ?_
      rintro e w' ⟨rfl, rfl⟩
      go_wp2
      go_ret
      exact ⟨rfl, Hb.out⟩

set_option maxRecDepth 100000 in
theorem lawMix_lifted (os : Os) (started : os.Started) (H : Type) (enc : TypeId × Value → H) :
    ReturnsInHanded {} Try.checked os 5 .any (Rows.bitsMixSpec.pre6 enc Try.prog Try.f5 Rows.bitsMixRow.domain false) (Rows.bitsMixSpec.post enc Try.prog Try.f5 false true false false) := by
  refine returnsInHanded_of_change (C := Try.checked) own started (by kernel_rfl) Try.func5
    (ChangeSpec.witness6 (enc := enc) (C := Try.checked) false ⟨#[], #[.int .u64 0, .int .i64 0], []⟩ 8 (by kernel_rfl) (by kernel_rfl) (by kernel_rfl) (by kernel_rfl)) ?_
  intro W base args ds gs before hval0 hW hcnd _
  have hval : ∀ (j : Nat) t v, Try.f5.params[j]? = some t → args[j]? = some v → Value.okWide Try.prog W .any base t v := hval0
  have hW' := hW
  obtain ⟨p, q, hA0, hV, rfl, hfz, hnd⟩ := hW
  have hA : DataW.TrodAll enc Try.prog W 0 (fun _ => true) true Try.f5.params.toList args.toList ds p := hA0
  rw [Try.params5] at hA hval
  obtain ⟨v0, v1, d0, d1, p0, p1, rfl, rfl, rfl, h0, h1⟩ := trodAll_two hA
  obtain ⟨rfl, rfl⟩ := trodVars_none hV
  obtain ⟨a0, rfl, rfl, rfl, w0⟩ := open_int Try.underlying22 (hval 0 22 v0 rfl rfl) h0
  obtain ⟨a1, rfl, rfl, rfl, w1⟩ := open_int Try.underlying3 (hval 1 3 v1 rfl rfl) h1
  clear hA0 hval0

  obtain ⟨X, rfl⟩ := vec_of w0
  refine (lawMix_any X a1 W).mono fun e W' ⟨he, bel⟩ => ?_
  subst he
  exact ⟨_, rfl, _, _, _, [], _, [], hW', trodAll_mk1 (shut_bool Try.underlying4 _), trodAll_mk2 (shut_int Try.underlying22 w0) (shut_int Try.underlying3 w1), rfl, bel.frame _, fun h => by cases h⟩

/-- The statement. -/
theorem lawMix_holds : Rows.BitsMixSaid :=
  OpenClaim.holds_of_wide 5 Try.f5 rfl rfl rfl rfl rfl rfl rfl ⟨rfl, rfl, rfl, rfl, rfl⟩ rfl rfl rfl rfl rfl (by kernel_rfl) Try.func5 (by kernel_rfl)
    (of_decide_eq_true (by kernel_rfl)) (by unfold Func.isWrapper; first | (rw [if_pos (by decide +kernel)]; kernel_rfl) | (rw [if_neg (by decide +kernel)]; exact ⟨rfl, rfl⟩))
    (fun os started H enc _ => lawMix_lifted os started H enc)

#print axioms lawMix_holds
end Go.Proofs.Ythpbabplgjfkpaa
