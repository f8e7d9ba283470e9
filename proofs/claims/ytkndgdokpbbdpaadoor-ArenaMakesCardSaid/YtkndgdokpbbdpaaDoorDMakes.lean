/- ArenaMakes: the walk. -/
import Derived.Test.YtkndgdokpbbdpaaDoorDNil
import Derived.Test.YtkndgdokpbbdpaaDoorMask
namespace Go.Proofs.YtkndgdokpbbdpaaDoor
open Go.RowKit

set_option maxHeartbeats 400000 in
theorem new_low (n : Int) (h : n < 1) (w : World) : Calls Tryd.prog 8 #[.int .i64 n] w fun e w' => e = .returned (.pointer none) ∧ w = w' := by
  have hd : decide (n < 1) = true := by simpa using h
  go_enter Tryd.func8, Tryd.ntmps8
  go_wp2
  go_ret
  exact ⟨rfl, rfl⟩
set_option maxHeartbeats 400000 in
theorem new_high (n : Int) (h : 4096 < n) (w : World) : Calls Tryd.prog 8 #[.int .i64 n] w fun e w' => e = .returned (.pointer none) ∧ w = w' := by
  have hd : decide (n < 1) = false := by simp; omega
  have hd2 : decide (4096 < n) = true := by simpa using h
  go_enter Tryd.func8, Tryd.ntmps8
  go_wp2
  go_ret
  exact ⟨rfl, rfl⟩

set_option maxRecDepth 100000 in
set_option maxHeartbeats 2000000 in
theorem lawMakes_any (n m : Int) (w : World) (hE : Cs.ErrT w) : Calls Tryd.prog 4 #[.int .i64 n, .int .i64 m] w fun e w' => e = .returned (.bool true) ∧ Below w.heap.size w w' := by
  have HE := Lib.hid hE
  have hfk := fld_k
  clear hE
  obtain ⟨kd, hkd, HM0⟩ := and_mask m 4095 (by omega)
  have HM : bits .and .i64 m 4095 = (kd : Int) := HM0
  obtain ⟨k, hk1, hk2, HK⟩ : ∃ k : Nat, 1 ≤ k ∧ k ≤ 4096 ∧ 1 + (kd : Int) = (k : Int) := ⟨1 + kd, by omega, by omega, by omega⟩
  clear HM0
  go_enter Tryd.func4, Tryd.ntmps4
  go_wp2_with fail
  refine (awake_any _).mono ?_
  rintro e w1 ⟨rfl, hb⟩
  have H1 := Lib.hid hb
  clear hb
  go_wp2_with fail
  refine (new_some k hk1 hk2 _).mono ?_
  rintro e w2 ⟨rfl, hA, hb⟩
  have H2 := Lib.hid (H1.out.trans (hb.mono H1.out.size))
  have HA := Lib.hid hA
  clear hb hA H1 HM
  generalize w1.heap.size + 1 = p at *
  generalize w1.heap.size = c at *
  have hn : n < 1 ∨ 4096 < n ∨ ∃ j : Nat, n = j ∧ 1 ≤ j ∧ j ≤ 4096 := by
    by_cases h1 : n < 1
    · exact .inl h1
    · by_cases h2 : 4096 < n
      · exact .inr (.inl h2)
      · exact .inr (.inr ⟨n.toNat, by omega, by omega, by omega⟩)
  rcases hn with hn | hn | ⟨j, rfl, hj1, hj2⟩
  · have hd : decide (1 ≤ n) = false := by simp; omega
    go_wp2_with fail
    refine (new_low n hn _).mono ?_
    rintro e w3 ⟨rfl, rfl⟩
    have H3 := Lib.hid H2.out
    have HA3 := Lib.hid HA.out
    clear H2 HA
    go_wp2_with fail
    refine (words_any _ p c k St.zero HA3.out hk1 hk2).mono ?_
    rintro e w4 ⟨g, cap, F, rfl, hg, hcap, hrow, hF, hb⟩
    have H4 := Lib.hid (H3.out.trans (hb.mono H3.out.size))
    have HA4 := Lib.hid (Ar.below HA3.out hb HA3.out.obj.lt HA3.out.row.lt)
    have HR := Lib.hid hrow
    have HF := Lib.hid hF
    clear hb hrow hF H3 HA3
    go_wp2_with fail
    go_loop [9] (fun i => ∃ j : Nat, j ≤ k ∧ i = .int .i64 j) (fun i => k - (intOf i).toNat)
    case atStart => exact ⟨0, by omega, rfl⟩
    case round =>
      obtain ⟨j, hj, rfl⟩ := hrel
      by_cases hlt : j < k
      · have cj := HR.out.cell (i := j) (by omega)
        rw [HF.out j hlt] at cj
        simp only [St.zero] at cj
        go_wp2
        go_round
        case rel => exact ⟨j + 1, by omega, by go_num⟩
        case measure => simp [intOf]; omega
      · go_wp2_with fail
        refine (len_any _ p c k St.zero HA4.out).mono ?_
        rintro e w' ⟨rfl, rfl⟩
        go_wp2_with fail
        refine (steps_any _ p c k St.zero HA4.out).mono ?_
        rintro e w' ⟨rfl, rfl⟩
        go_wp2_with fail
        refine (last_any _ p c k St.zero HA4.out).mono ?_
        rintro e w5 ⟨rfl, hb⟩
        have H5 := Lib.hid (H4.out.trans (hb.mono H4.out.size))
        have HA5 := Lib.hid (Ar.below HA4.out hb HA4.out.obj.lt HA4.out.row.lt)
        clear hb H4 HA4
        go_wp2_with fail
        refine (err_any _ p c k St.zero HA5.out).mono ?_
        rintro e w' ⟨rfl, rfl⟩
        go_wp2_with fail
        refine (ctop_any none _ (HE.out.below H5.out)).mono ?_
        rintro e w6 ⟨rfl, hb⟩
        have H6 := Lib.hid (H5.out.trans (hb.mono H5.out.size))
        clear hb H5
        go_wp2
        go_ret
        exact ⟨rfl, H6.out⟩
  · have hd : decide (1 ≤ n) = true := by simp; omega
    have hd2 : decide (n ≤ 4096) = false := by simp; omega
    go_wp2_with fail
    refine (new_high n hn _).mono ?_
    rintro e w3 ⟨rfl, rfl⟩
    have H3 := Lib.hid H2.out
    have HA3 := Lib.hid HA.out
    clear H2 HA
    go_wp2_with fail
    refine (words_any _ p c k St.zero HA3.out hk1 hk2).mono ?_
    rintro e w4 ⟨g, cap, F, rfl, hg, hcap, hrow, hF, hb⟩
    have H4 := Lib.hid (H3.out.trans (hb.mono H3.out.size))
    have HA4 := Lib.hid (Ar.below HA3.out hb HA3.out.obj.lt HA3.out.row.lt)
    have HR := Lib.hid hrow
    have HF := Lib.hid hF
    clear hb hrow hF H3 HA3
    go_wp2_with fail
    go_loop [9] (fun i => ∃ j : Nat, j ≤ k ∧ i = .int .i64 j) (fun i => k - (intOf i).toNat)
    case atStart => exact ⟨0, by omega, rfl⟩
    case round =>
      obtain ⟨j, hj, rfl⟩ := hrel
      by_cases hlt : j < k
      · have cj := HR.out.cell (i := j) (by omega)
        rw [HF.out j hlt] at cj
        simp only [St.zero] at cj
        go_wp2
        go_round
        case rel => exact ⟨j + 1, by omega, by go_num⟩
        case measure => simp [intOf]; omega
      · go_wp2_with fail
        refine (len_any _ p c k St.zero HA4.out).mono ?_
        rintro e w' ⟨rfl, rfl⟩
        go_wp2_with fail
        refine (steps_any _ p c k St.zero HA4.out).mono ?_
        rintro e w' ⟨rfl, rfl⟩
        go_wp2_with fail
        refine (last_any _ p c k St.zero HA4.out).mono ?_
        rintro e w5 ⟨rfl, hb⟩
        have H5 := Lib.hid (H4.out.trans (hb.mono H4.out.size))
        have HA5 := Lib.hid (Ar.below HA4.out hb HA4.out.obj.lt HA4.out.row.lt)
        clear hb H4 HA4
        go_wp2_with fail
        refine (err_any _ p c k St.zero HA5.out).mono ?_
        rintro e w' ⟨rfl, rfl⟩
        go_wp2_with fail
        refine (ctop_any none _ (HE.out.below H5.out)).mono ?_
        rintro e w6 ⟨rfl, hb⟩
        have H6 := Lib.hid (H5.out.trans (hb.mono H5.out.size))
        clear hb H5
        go_wp2
        go_ret
        exact ⟨rfl, H6.out⟩
  · have hd : decide (1 ≤ (j : Int)) = true := by simp; omega
    have hd2 : decide ((j : Int) ≤ 4096) = true := by simp; omega
    go_wp2_with fail
    refine (new_some j hj1 hj2 _).mono ?_
    rintro e w3 ⟨rfl, hA, hb⟩
    have H3 := Lib.hid (H2.out.trans (hb.mono H2.out.size))
    have HA3 := Lib.hid (Ar.below HA.out hb HA.out.obj.lt HA.out.row.lt)
    clear H2 HA hA hb
    go_wp2_with fail
    refine (words_any _ p c k St.zero HA3.out hk1 hk2).mono ?_
    rintro e w4 ⟨g, cap, F, rfl, hg, hcap, hrow, hF, hb⟩
    have H4 := Lib.hid (H3.out.trans (hb.mono H3.out.size))
    have HA4 := Lib.hid (Ar.below HA3.out hb HA3.out.obj.lt HA3.out.row.lt)
    have HR := Lib.hid hrow
    have HF := Lib.hid hF
    clear hb hrow hF H3 HA3
    go_wp2_with fail
    go_loop [9] (fun i => ∃ j : Nat, j ≤ k ∧ i = .int .i64 j) (fun i => k - (intOf i).toNat)
    case atStart => exact ⟨0, by omega, rfl⟩
    case round =>
      obtain ⟨j, hj, rfl⟩ := hrel
      by_cases hlt : j < k
      · have cj := HR.out.cell (i := j) (by omega)
        rw [HF.out j hlt] at cj
        simp only [St.zero] at cj
        go_wp2
        go_round
        case rel => exact ⟨j + 1, by omega, by go_num⟩
        case measure => simp [intOf]; omega
      · go_wp2_with fail
        refine (len_any _ p c k St.zero HA4.out).mono ?_
        rintro e w' ⟨rfl, rfl⟩
        go_wp2_with fail
        refine (steps_any _ p c k St.zero HA4.out).mono ?_
        rintro e w' ⟨rfl, rfl⟩
        go_wp2_with fail
        refine (last_any _ p c k St.zero HA4.out).mono ?_
        rintro e w5 ⟨rfl, hb⟩
        have H5 := Lib.hid (H4.out.trans (hb.mono H4.out.size))
        have HA5 := Lib.hid (Ar.below HA4.out hb HA4.out.obj.lt HA4.out.row.lt)
        clear hb H4 HA4
        go_wp2_with fail
        refine (err_any _ p c k St.zero HA5.out).mono ?_
        rintro e w' ⟨rfl, rfl⟩
        go_wp2_with fail
        refine (ctop_any none _ (HE.out.below H5.out)).mono ?_
        rintro e w6 ⟨rfl, hb⟩
        have H6 := Lib.hid (H5.out.trans (hb.mono H5.out.size))
        clear hb H5
        go_wp2
        go_ret
        exact ⟨rfl, H6.out⟩
end Go.Proofs.YtkndgdokpbbdpaaDoor
