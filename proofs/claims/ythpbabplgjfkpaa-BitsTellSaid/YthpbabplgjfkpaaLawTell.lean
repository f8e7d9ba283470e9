/- BitsTell: the walk. -/
import Derived.Test.YthpbabplgjfkpaaRef
namespace Go.Proofs.Ythpbabplgjfkpaa
open Go.ChangeShapes Go.WideShapes Go.ChangeAt Go.RowKit

set_option maxRecDepth 100000 in
theorem tells_fit (W X : V) (a n : Nat) (h1 : 1 ≤ n) (h2 : a + n ≤ 64) (hv : X.toNat < 2 ^ n) (w : World) : Calls Try.prog 9 #[.int .u64 (W.toNat : Int), .int .u64 (X.toNat : Int), .int .i64 a, .int .i64 n] w fun e w' => e = .returned (.bool true) ∧ ∃ m, w' = w.drewN m := by
  have HV := Lib.hid hv; clear hv
  go_enter Try.func9, Try.ntmps9
  go_wp2_with fail
  refine (set_yes W a n X h1 h2 HV.out _).mono ?_
  rintro e w' ⟨rfl, m1, rfl⟩
  go_wp2_with fail
  refine (refSet_yes W a n X h1 h2 HV.out _).mono ?_
  rintro e w' ⟨rfl, rfl⟩
  go_wp2_with fail
  refine (get_yes W a n h1 h2 _).mono ?_
  rintro e w' ⟨rfl, m2, rfl⟩
  go_wp2_with fail
  refine (refGet_yes W a n h1 h2 _).mono ?_
  rintro e w' ⟨rfl, rfl⟩
  go_wp2
  go_ret
  exact ⟨rfl, _, rfl⟩

set_option maxRecDepth 100000 in
theorem tells_wide (W X : V) (a n : Nat) (h1 : 1 ≤ n) (h2 : a + n ≤ 64) (hv : ¬ X.toNat < 2 ^ n) (w : World) : Calls Try.prog 9 #[.int .u64 (W.toNat : Int), .int .u64 (X.toNat : Int), .int .i64 a, .int .i64 n] w fun e w' => e = .returned (.bool true) ∧ ∃ m, w' = w.drewN m := by
  have HV := Lib.hid hv; clear hv
  go_enter Try.func9, Try.ntmps9
  go_wp2_with fail
  refine (set_wide W a n X h1 h2 HV.out _).mono ?_
  rintro e w' ⟨rfl, rfl⟩
  go_wp2_with fail
  refine (refSet_wide W a n X h1 h2 HV.out _).mono ?_
  rintro e w' ⟨rfl, rfl⟩
  go_wp2_with fail
  refine (get_yes W a n h1 h2 _).mono ?_
  rintro e w' ⟨rfl, m2, rfl⟩
  go_wp2_with fail
  refine (refGet_yes W a n h1 h2 _).mono ?_
  rintro e w' ⟨rfl, rfl⟩
  go_wp2
  go_ret
  exact ⟨rfl, _, rfl⟩

set_option maxRecDepth 100000 in
theorem tells_no (W X : V) (a n : Int) (h : ¬ (1 ≤ n ∧ n ≤ 64 ∧ 0 ≤ a ∧ a ≤ 64 - n)) (w : World) : Calls Try.prog 9 #[.int .u64 (W.toNat : Int), .int .u64 (X.toNat : Int), .int .i64 a, .int .i64 n] w fun e w' => e = .returned (.bool true) ∧ ∃ m, w' = w.drewN m := by
  have H := Lib.hid h; clear h
  go_enter Try.func9, Try.ntmps9
  go_wp2_with fail
  refine (set_not W a n X H.out _).mono ?_
  rintro e w' ⟨rfl, rfl⟩
  go_wp2_with fail
  refine (refSet_no W a n X H.out _).mono ?_
  rintro e w' ⟨rfl, rfl⟩
  go_wp2_with fail
  refine (get_no W a n H.out _).mono ?_
  rintro e w' ⟨rfl, rfl⟩
  go_wp2_with fail
  refine (refGet_no W a n H.out _).mono ?_
  rintro e w' ⟨rfl, rfl⟩
  go_wp2
  go_ret
  exact ⟨rfl, 0, rfl⟩

theorem tells_any (W X : V) (a n : Int) (w : World) : Calls Try.prog 9 #[.int .u64 (W.toNat : Int), .int .u64 (X.toNat : Int), .int .i64 a, .int .i64 n] w fun e w' => e = .returned (.bool true) ∧ ∃ m, w' = w.drewN m := by
  by_cases h : 1 ≤ n ∧ n ≤ 64 ∧ 0 ≤ a ∧ a ≤ 64 - n
  · obtain ⟨a', rfl⟩ : ∃ a' : Nat, a = a' := ⟨a.toNat, by omega⟩
    obtain ⟨n', rfl⟩ : ∃ n' : Nat, n = n' := ⟨n.toNat, by omega⟩
    by_cases hv : X.toNat < 2 ^ n'
    · exact tells_fit W X a' n' (by omega) (by omega) hv w
    · exact tells_wide W X a' n' (by omega) (by omega) hv w
  · exact tells_no W X a n h w

set_option maxRecDepth 100000 in
set_option maxHeartbeats 400000 in
theorem lawTell_any (W X : V) (q0 q1 : Int) (w : World) : Calls Try.prog 3 #[.int .u64 (W.toNat : Int), .int .u64 (X.toNat : Int), .agg #[.int .i64 q0, .int .i64 q1]] w fun e w' => e = .returned (.bool true) ∧ Below w.heap.size w w' := by
  obtain ⟨a, ha1, ha0⟩ := and_mask q0 63 (by decide)
  have ha : bits .and .i64 q0 63 = (a : Int) := ha0
  clear ha0
  obtain ⟨n, hn1, hn0⟩ := and_mask q1 127 (by decide)
  have hn : bits .and .i64 q1 127 = (n : Int) := hn0
  clear hn0
  obtain ⟨k, hk1, hk0⟩ := and_mask n 63 (by decide)
  have hk : bits .and .i64 n 63 = (k : Int) := hk0
  clear hk0
  go_enter Try.func3, Try.ntmps3
  go_wp2_with fail
  refine (awake_any _).mono ?_
  rintro e w1 ⟨rfl, hb⟩
  have c0 := arr_cell hb 0
  have c1 := arr_cell hb 1
  simp only [List.getElem?_toArray, List.getElem?_cons_zero, List.getElem?_cons_succ] at c0 c1
  have Hb := Lib.hid (arr_below hb); clear hb
  go_wp2_with fail
  refine (tells_any W X q0 q1 _).mono ?_
  rintro e w' ⟨rfl, m1, rfl⟩
  go_wp2_with fail
  refine (tells_any W X _ _ _).mono ?_
  rintro e w' ⟨rfl, m2, rfl⟩
  go_wp2_with fail
  rw [v_shr' X (64 - k)]
  refine (tells_any W _ _ _ _).mono ?_
  rintro e w' ⟨rfl, m3, rfl⟩
  go_wp2_with fail
  refine (mix_any W _).mono ?_
  rintro e w' ⟨rfl, rfl⟩
  go_wp2_with fail
  refine (refMix_any W _).mono ?_
  rintro e w' ⟨rfl, rfl⟩
  go_wp2
  go_ret
  exact ⟨rfl, below_drewN Hb.out _⟩

end Go.Proofs.Ythpbabplgjfkpaa
