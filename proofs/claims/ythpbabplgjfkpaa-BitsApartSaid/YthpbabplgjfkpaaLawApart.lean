/- BitsApart: the walk. -/
import Derived.Test.YthpbabplgjfkpaaLawSet
namespace Go.Proofs.Ythpbabplgjfkpaa
open Go.ChangeShapes Go.WideShapes Go.ChangeAt Go.RowKit

theorem mask_spelt (q : Int) (M : Nat) (hM : M < 1000) : ∃ n : Nat, 1 ≤ n ∧ n ≤ M + 1 ∧ wrap64 (1 + bits .and .i64 q (M : Int)) = (n : Int) := by
  obtain ⟨m, hm, hq⟩ := and_mask q M (by omega)
  refine ⟨1 + m, by omega, by omega, ?_⟩
  rw [hq]
  unfold wrap64
  omega

theorem over_spelt (X : V) (n : Nat) (hX : X.toNat < 2 ^ n) (hn : n ≤ 32) : ∃ Z : V, ¬ Z.toNat < 2 ^ n ∧ IntKind.u64.wrap ((X.toNat : Int) + IntKind.u64.wrap (2 ^ n)) = (Z.toNat : Int) := by
  have h1 : 2 ^ n ≤ 4294967296 := Nat.pow_le_pow_right (i := n) (j := 32) (n := 2) (by omega) hn
  have e : (2 : Int) ^ n = ((2 ^ n : Nat) : Int) := by rw [Int.natCast_pow]; rfl
  have ez : (BitVec.ofNat 64 (X.toNat + 2 ^ n)).toNat = X.toNat + 2 ^ n := by
    rw [BitVec.toNat_ofNat]; exact Nat.mod_eq_of_lt (by omega)
  refine ⟨BitVec.ofNat 64 (X.toNat + 2 ^ n), by omega, ?_⟩
  rw [ez, e, IntKind.wrap_u64, IntKind.wrap_u64]
  omega

set_option maxRecDepth 100000 in
set_option maxHeartbeats 300000 in
theorem lawApart_any (W X Y : V) (q0 q1 q2 : Int) (w : World) : Calls Try.prog 6 #[.int .u64 (W.toNat : Int), .agg #[.int .u64 (X.toNat : Int), .int .u64 (Y.toNat : Int)], .agg #[.int .i64 q0, .int .i64 q1, .int .i64 q2]] w fun e w' => e = .returned (.bool true) ∧ Below w.heap.size w w' := by
  obtain ⟨n, hn1, hn2, hn0⟩ := mask_spelt q0 31 (by decide)
  have hn : wrap64 (1 + bits .and .i64 q0 31) = (n : Int) := hn0
  clear hn0
  obtain ⟨a, ha1, ha0⟩ := and_mask q1 15 (by decide)
  have ha : bits .and .i64 q1 15 = (a : Int) := ha0
  clear ha0
  obtain ⟨m, hm1, hm2, hm0⟩ := mask_spelt q2 7 (by decide)
  have hm : wrap64 (1 + bits .and .i64 q2 7) = (m : Int) := hm0
  clear hm0
  obtain ⟨g, hg1, hg0⟩ := and_mask (q2 / 8) 7 (by decide)
  have hg : bits .and .i64 (q2 / 8) 7 = (g : Int) := hg0
  clear hg0
  have hx := x_spelt X n (by omega)
  have hy := x_spelt Y m (by omega)
  go_enter Try.func6, Try.ntmps6
  go_wp2_with fail
  refine (awake_any _).mono ?_
  rintro e w1 ⟨rfl, hb⟩
  have c0 := arr_cell hb 0
  have c1 := arr_cell hb 1
  have c2 := arr_cell hb 2
  have d0 := arr_cell (arr_below hb) 0
  have d1 := arr_cell (arr_below hb) 1
  simp only [World.size_alloc, List.getElem?_toArray, List.getElem?_cons_zero, List.getElem?_cons_succ] at c0 c1 c2 d0 d1
  have Hb := Lib.hid (arr_below (arr_below hb)); clear hb
  go_wp2_with fail
  have HX : Hid ((maskV X n).toNat < 2 ^ n) := Lib.hid (mask_fit X n (by omega))
  have HY : Hid ((maskV Y m).toNat < 2 ^ m) := Lib.hid (mask_fit Y m (by omega))
  obtain ⟨Z, hZ, hz⟩ := over_spelt (maskV X n) n HX.out (by omega)
  have HZ := Lib.hid hZ; clear hZ
  obtain ⟨b, Hbb⟩ : ∃ b : Nat, Hid (b = a + n + g) := ⟨_, Lib.hid rfl⟩
  have hto : (a : Int) + n + g = (b : Int) := by have := Hbb.out; omega
  have hab : a + n ≤ b := by have := Hbb.out; omega
  have hbm : b + m ≤ 64 := by have := Hbb.out; omega
  generalize maskV X n = A at HX hx hz ⊢
  generalize maskV Y m = B at HY hy ⊢
  refine (set_yes W a n A hn1 (by omega) HX.out _).mono ?_
  rintro e w' ⟨rfl, m1, rfl⟩
  go_wp2_with fail
  refine (set_yes (setV W a n A) b m B hm1 hbm HY.out _).mono ?_
  rintro e w' ⟨rfl, m2, rfl⟩
  go_wp2_with fail
  refine (set_yes W b m B hm1 hbm HY.out _).mono ?_
  rintro e w' ⟨rfl, m3, rfl⟩
  go_wp2_with fail
  refine (set_yes (setV W b m B) a n A hn1 (by omega) HX.out _).mono ?_
  rintro e w' ⟨rfl, m4, rfl⟩
  rw [set_swap W a n b m A B HX.out HY.out hab hbm]
  go_wp2_with fail
  refine (set_wide W a n Z hn1 (by omega) HZ.out _).mono ?_
  rintro e w' ⟨rfl, rfl⟩
  go_wp2_with fail
  refine (get_yes (setV (setV W b m B) a n A) a n hn1 (by omega) _).mono ?_
  rintro e w' ⟨rfl, m5, rfl⟩
  rw [get_set _ a n A HX.out (by omega)]
  go_wp2_with fail
  refine (get_yes (setV (setV W b m B) a n A) b m hm1 hbm _).mono ?_
  rintro e w' ⟨rfl, m6, rfl⟩
  rw [← set_swap W a n b m A B HX.out HY.out hab hbm, get_set _ b m B HY.out hbm]
  go_wp2
  go_ret
  exact ⟨rfl, below_drewN Hb.out _⟩

end Go.Proofs.Ythpbabplgjfkpaa
