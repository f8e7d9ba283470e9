/- BitsSet: the walk. -/
import Derived.Test.YthpbabplgjfkpaaBits
namespace Go.Proofs.Ythpbabplgjfkpaa
open Go.ChangeShapes Go.WideShapes Go.ChangeAt Go.RowKit

theorem n_spelt (q0 : Int) : ∃ n : Nat, 1 ≤ n ∧ n ≤ 64 ∧ wrap64 (1 + bits .and .i64 q0 63) = (n : Int) := by
  obtain ⟨m, hm, hq⟩ := and_mask q0 63 (by decide)
  refine ⟨1 + m, by omega, by omega, ?_⟩
  rw [show (63 : Int) = ((63 : Nat) : Int) from rfl, hq]
  unfold wrap64
  omega
theorem at_spelt (q1 : Int) (n : Nat) (h1 : 1 ≤ n) (h2 : n ≤ 64) : ∃ a : Nat, a + n ≤ 64 ∧ (wrap64 (wrap64 (q1.tmod (65 - (n : Int)) + 65) - (n : Int))).tmod (65 - (n : Int)) = (a : Int) := by
  have b1 : -(65 - (n : Int)) < q1.tmod (65 - (n : Int)) := Int.lt_tmod_of_pos q1 (by omega)
  have b2 : q1.tmod (65 - (n : Int)) < 65 - (n : Int) := Int.tmod_lt_of_pos q1 (by omega)
  have e1 : wrap64 (wrap64 (q1.tmod (65 - (n : Int)) + 65) - (n : Int)) = q1.tmod (65 - (n : Int)) + 65 - (n : Int) := by unfold wrap64; omega
  rw [e1]
  have b3 : (q1.tmod (65 - (n : Int)) + 65 - (n : Int)).tmod (65 - (n : Int)) < 65 - (n : Int) := Int.tmod_lt_of_pos _ (by omega)
  have b4 : 0 ≤ (q1.tmod (65 - (n : Int)) + 65 - (n : Int)).tmod (65 - (n : Int)) := Int.tmod_nonneg _ (by omega)
  exact ⟨((q1.tmod (65 - (n : Int)) + 65 - (n : Int)).tmod (65 - (n : Int))).toNat, by omega, by omega⟩
def maskV (X : V) (n : Nat) : V := X &&& onesV n
theorem x_spelt (X : V) (n : Nat) (h : n ≤ 64) : bits .and .u64 (X.toNat : Int) (IntKind.u64.wrap (IntKind.u64.wrap (2 ^ n) - 1)) = ((maskV X n).toNat : Int) := by
  rw [ones_spelt n h, v_and, maskV]

set_option maxRecDepth 100000 in
set_option maxHeartbeats 300000 in
theorem lawSet_any (W X : V) (q0 q1 : Int) (w : World) : Calls Try.prog 4 #[.int .u64 (W.toNat : Int), .int .u64 (X.toNat : Int), .agg #[.int .i64 q0, .int .i64 q1]] w fun e w' => e = .returned (.bool true) ∧ Below w.heap.size w w' := by
  obtain ⟨n, hn1, hn2, hn⟩ := n_spelt q0
  obtain ⟨a, ha1, ha⟩ := at_spelt q1 n hn1 hn2
  have hx := x_spelt X n hn2
  go_enter Try.func4, Try.ntmps4
  go_wp2_with fail
  refine (awake_any _).mono ?_
  rintro e w1 ⟨rfl, hb⟩
  have c0 := arr_cell hb 0
  have c1 := arr_cell hb 1
  simp only [List.getElem?_toArray, List.getElem?_cons_zero, List.getElem?_cons_succ] at c0 c1
  have Hb := Lib.hid (arr_below hb); clear hb
  go_wp2_with fail
  · have hYf : (maskV X n).toNat < 2 ^ n := mask_fit X n hn2
    clear hx
    generalize maskV X n = Y at hYf ⊢
    have HY := Lib.hid hYf
    clear hYf
    refine (set_yes W a n Y hn1 ha1 HY.out _).mono ?_
    rintro e w' ⟨rfl, m1, rfl⟩
    have hg : (((getV (setV W a n Y) a n).toNat : Int) != (Y.toNat : Int)) = false := by
      rw [get_set W a n Y HY.out ha1]; simp
    go_wp2_with fail
    refine (get_yes (setV W a n Y) a n hn1 ha1 _).mono ?_
    rintro e w' ⟨rfl, m2, rfl⟩
    go_wp2
    clear hn ha hg
    go_loop [13] (fun i => ∃ k : Nat, k ≤ 64 ∧ i = .int .i64 k) (fun i => 64 - (intOf i).toNat)
    case atStart => exact ⟨0, by omega, rfl⟩
    case round =>
      obtain ⟨k, hk, rfl⟩ := hrel
      by_cases hlt : k < 64
      · by_cases h1 : k < a
        · have t1 : decide ((k : Int) < a) = true := by simp; omega
          have hbit := bit_stays W a n Y HY.out ha1 k hlt (Or.inl h1)
          go_wp2
          all_goals go_round
          all_goals first | (simp [intOf]; omega) | exact ⟨k + 1, by omega, by go_num⟩
        · have t1 : decide ((k : Int) < a) = false := by simp; omega
          by_cases h2 : a + n ≤ k
          · have t2 : decide ((a : Int) + n ≤ k) = true := by simp; omega
            have hbit := bit_stays W a n Y HY.out ha1 k hlt (Or.inr h2)
            go_wp2
            all_goals go_round
            all_goals first | (simp [intOf]; omega) | exact ⟨k + 1, by omega, by go_num⟩
          · have t2 : decide ((a : Int) + n ≤ k) = false := by simp; omega
            go_wp2
            all_goals go_round
            all_goals first | (simp [intOf]; omega) | exact ⟨k + 1, by omega, by go_num⟩
      · go_wp2_with fail
        refine (get_yes W a n hn1 ha1 _).mono ?_
        rintro e w' ⟨rfl, m3, rfl⟩
        go_wp2_with fail
        refine (set_yes (setV W a n Y) a n (getV W a n) hn1 ha1 (get_fit W a n (by omega)) _).mono ?_
        rintro e w' ⟨rfl, m4, rfl⟩
        rw [set_back W a n Y HY.out ha1]
        go_wp2
        go_ret
        exact ⟨rfl, below_drewN Hb.out _⟩
  · have hYf : X.toNat < 2 ^ n := by
      have h64 : n = 64 := by omega
      rw [h64]; exact vlt X
    clear hx
    generalize X = Y at hYf ⊢
    have HY := Lib.hid hYf
    clear hYf
    refine (set_yes W a n Y hn1 ha1 HY.out _).mono ?_
    rintro e w' ⟨rfl, m1, rfl⟩
    have hg : (((getV (setV W a n Y) a n).toNat : Int) != (Y.toNat : Int)) = false := by
      rw [get_set W a n Y HY.out ha1]; simp
    go_wp2_with fail
    refine (get_yes (setV W a n Y) a n hn1 ha1 _).mono ?_
    rintro e w' ⟨rfl, m2, rfl⟩
    go_wp2
    clear hn ha hg
    go_loop [13] (fun i => ∃ k : Nat, k ≤ 64 ∧ i = .int .i64 k) (fun i => 64 - (intOf i).toNat)
    case atStart => exact ⟨0, by omega, rfl⟩
    case round =>
      obtain ⟨k, hk, rfl⟩ := hrel
      by_cases hlt : k < 64
      · by_cases h1 : k < a
        · have t1 : decide ((k : Int) < a) = true := by simp; omega
          have hbit := bit_stays W a n Y HY.out ha1 k hlt (Or.inl h1)
          go_wp2
          all_goals go_round
          all_goals first | (simp [intOf]; omega) | exact ⟨k + 1, by omega, by go_num⟩
        · have t1 : decide ((k : Int) < a) = false := by simp; omega
          by_cases h2 : a + n ≤ k
          · have t2 : decide ((a : Int) + n ≤ k) = true := by simp; omega
            have hbit := bit_stays W a n Y HY.out ha1 k hlt (Or.inr h2)
            go_wp2
            all_goals go_round
            all_goals first | (simp [intOf]; omega) | exact ⟨k + 1, by omega, by go_num⟩
          · have t2 : decide ((a : Int) + n ≤ k) = false := by simp; omega
            go_wp2
            all_goals go_round
            all_goals first | (simp [intOf]; omega) | exact ⟨k + 1, by omega, by go_num⟩
      · go_wp2_with fail
        refine (get_yes W a n hn1 ha1 _).mono ?_
        rintro e w' ⟨rfl, m3, rfl⟩
        go_wp2_with fail
        refine (set_yes (setV W a n Y) a n (getV W a n) hn1 ha1 (get_fit W a n (by omega)) _).mono ?_
        rintro e w' ⟨rfl, m4, rfl⟩
        rw [set_back W a n Y HY.out ha1]
        go_wp2
        go_ret
        exact ⟨rfl, below_drewN Hb.out _⟩

end Go.Proofs.Ythpbabplgjfkpaa
