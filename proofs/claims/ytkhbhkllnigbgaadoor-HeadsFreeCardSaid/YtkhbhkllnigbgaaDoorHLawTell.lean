/- HeadsTell: the law's walk. -/
import Derived.Test.YtkhbhkllnigbgaaDoorHAwake
namespace Go.Proofs.YtkhbhkllnigbgaaDoor
open Go.RowKit
theorem low32 (q : Int) : bits .and .i64 q 4294967295 = q % 4294967296 := by
  show IntKind.i64.wrap ((BitVec.ofInt 64 q &&& BitVec.ofInt 64 4294967295).toNat : Int) = _
  have e : (BitVec.ofInt 64 q &&& BitVec.ofInt 64 4294967295).toNat = (BitVec.ofInt 64 q).toNat % 4294967296 := by
    rw [BitVec.toNat_and]
    exact Nat.and_two_pow_sub_one_eq_mod _ 32
  rw [e, BitVec.toNat_ofInt]
  have h : (((q % ((2 ^ 64 : Nat) : Int)).toNat % 4294967296 : Nat) : Int) = q % 4294967296 := by omega
  rw [h]
  simp [IntKind.wrap, IntKind.bits, IntKind.signed]
  omega
set_option maxRecDepth 100000 in
set_option maxHeartbeats 2000000 in
theorem lawTell_any (X : Nat) (hX : X < 18446744073709551616) (t : Nat) (ht : t < 4294967296) (b : Int) (w : World) (hE : Cs.ErrT w) (hL : Lim w) : Calls Tryd.prog 6 #[.int .u64 (X : Int), .int .u32 (t : Int), .int .i64 b] w fun e w' => e = .returned (.bool true) ∧ Below w.heap.size w w' := by
  have ha := awake10_any w hE hL
  have h32 := low32 b
  obtain ⟨B, hB⟩ : ∃ B : Nat, b % 4294967296 = (B : Int) := ⟨(b % 4294967296).toNat, by omega⟩
  have hB2 : B < 4294967296 := by omega
  obtain ⟨M, hM⟩ : ∃ M : Nat, (t : Int) * 4294967296 + b % 4294967296 = (M : Int) := ⟨t * 4294967296 + B, by omega⟩
  have hM2 : M < 18446744073709551616 := by omega
  have hMt : M / 4294967296 = t := by omega
  have hMb : M % 4294967296 = B := by omega
  have hm1 := fun w => hmake_any t ht b w
  have hm2 := fun w => rmake_any t ht b w
  have ht1 := fun w => htag_any M hM2 w
  have hb1 := fun w => hblock_any M w
  have ht2 := fun w => htag_any X hX w
  have hb2 := fun w => hblock_any X w
  have hm3 := fun w => hmake_any (X / 4294967296) (by omega) ((X % 4294967296 : Nat) : Int) w
  have hX3 : ((X / 4294967296 : Nat) : Int) * 4294967296 + ((X % 4294967296 : Nat) : Int) % 4294967296 = (X : Int) := by omega
  have hu1 := fun w => hturn_any X hX b w
  have hu2 := fun w => rturn_any X hX b w
  simp only [hM] at hm1 hm2
  simp only [hMt] at ht1
  simp only [hMb] at hb1
  simp only [hX3] at hm3
  rw [hB] at h32
  generalize (((X / 4294967296 + 1) % 4294967296 : Nat) : Int) * 4294967296 + b % 4294967296 = U at hu1 hu2
  generalize X / 4294967296 = Xt at ht2 hm3
  generalize X % 4294967296 = Xb at hb2 hm3
  have HA := Lib.hid ha
  have HM1 := Lib.hid hm1
  have HM2 := Lib.hid hm2
  have HT1 := Lib.hid ht1
  have HB1 := Lib.hid hb1
  have HT2 := Lib.hid ht2
  have HB2 := Lib.hid hb2
  have HM3 := Lib.hid hm3
  have HU1 := Lib.hid hu1
  have HU2 := Lib.hid hu2
  clear ha hm1 hm2 ht1 hb1 ht2 hb2 hm3 hu1 hu2 hM hMt hMb hX3 hB hB2 hM2 hE hL
  go_enter Tryd.func6, Tryd.ntmps6
  go_wp2_with fail
  refine HA.out.mono ?_
  rintro e w1 ⟨rfl, hb⟩
  have HBE := Lib.hid hb
  clear hb
  go_wp2_with fail
  refine (HM1.out _).mono ?_
  rintro e w' ⟨rfl, rfl⟩
  go_wp2_with fail
  refine (HM2.out _).mono ?_
  rintro e w' ⟨rfl, rfl⟩
  go_wp2_with fail
  refine (HT1.out _).mono ?_
  rintro e w' ⟨rfl, rfl⟩
  go_wp2_with fail
  refine (HB1.out _).mono ?_
  rintro e w' ⟨rfl, rfl⟩
  go_wp2_with fail
  refine (HT2.out _).mono ?_
  rintro e w' ⟨rfl, rfl⟩
  go_wp2_with fail
  refine (HB2.out _).mono ?_
  rintro e w' ⟨rfl, rfl⟩
  go_wp2_with fail
  refine (HM3.out _).mono ?_
  rintro e w' ⟨rfl, rfl⟩
  go_wp2_with fail
  refine (HU1.out _).mono ?_
  rintro e w' ⟨rfl, rfl⟩
  go_wp2_with fail
  refine (HU2.out _).mono ?_
  rintro e w' ⟨rfl, rfl⟩
  go_wp2
  go_ret
  exact ⟨rfl, HBE.out⟩

end Go.Proofs.YtkhbhkllnigbgaaDoor
