/- SchemaDeep: the law's own walk. -/
import Derived.Test.YtfafffeeembceaaQDeep2
import Derived.Test.YtfafffeeembceaaQMade
namespace Go.Proofs.Ytfafffeeembceaa
open Go.RowKit
/-- What a field's type adds. -/
def tdp (s : Sch) (i j : Nat) : Nat := if 4 ≤ s.k i j then deepS s (s.t i j).toNat else 0
theorem mx_tdp_le (s : Sch) (i m : Nat) : mx (tdp s i) m ≤ 6 := (mx_le _ _ _).2 fun j _ => by
  unfold tdp
  by_cases h : 4 ≤ s.k i j
  · rw [if_pos h]; exact deepS_six _ _
  · rw [if_neg h]; omega

set_option maxRecDepth 100000 in
set_option maxHeartbeats 8000000 in
theorem lawDeep_any (Al : Option Addr) (L cl : Nat) (w : World) (hL : L ≤ 9223372036854775807) (hi : IRow w Al L) :
    Calls Try.prog 3 #[.slice Al L cl] w fun e w' => e = .returned (.bool true) ∧ Below w.heap.size w w' := by
  have HI := Lib.hid hi
  clear hi
  go_enter Try.func3, Try.ntmps3
  go_wp2_with fail
  refine (awake5_any _).mono ?_
  rintro e w1 ⟨rfl, hb⟩
  have H1 := Lib.hid hb
  clear hb
  go_wp2_with fail
  refine (made_any Al L cl _ hL (HI.out.below H1.out)).mono ?_
  rintro e w2 ⟨s, A, c, rfl, hright, h4, hl4, hsat, hb⟩
  have H2 := Lib.hid (Below.step H1.out hb H1.out.size)
  have HS := Lib.hid hsat
  have HR := Lib.hid hright
  have HL4 := Lib.hid hl4
  have HOK := Lib.hid (okS_true hright)
  have h1 := hright.1
  clear hb H1 hsat hright hl4
  obtain ⟨n, HN⟩ : ∃ n, Hid (s.n = n) := ⟨_, Lib.hid rfl⟩
  rw [HN.out] at h1 h4 ⊢
  go_wp2
  go_loopw [5] (fun tv wr => ∃ m : Nat, m ≤ n ∧ tv = .int .i64 m ∧ Hid (SAt wr A s) ∧ Hid (Below w.heap.size w wr)) (fun tv _ => n - (intOf tv).toNat)
  case atStart => exact ⟨0, by omega, rfl, HS, H2⟩
  case round =>
    clear HS H2
    obtain ⟨m, hm, rfl, HS, HB⟩ := hrel
    by_cases hlt : m < n
    · have hlt' : m < s.n := by rw [HN.out]; exact hlt
      have HT : Hid (hasT s (m : Int)) := Lib.hid (by unfold hasT; omega)
      have HD : Hid (dpAt s (m : Int) = (deepS s m : Nat)) := Lib.hid (if_pos ⟨HOK.out, HT.out⟩)
      have HLN : Hid (lenAt s (m : Int) = (s.len m : Nat)) := Lib.hid (if_pos HT.out)
      have hl4 := HL4.out m hlt'
      have hd6 := deepS_six s m
      have hdm := deep_any s A c m wr HS.out
      rw [HN.out, HD.out] at hdm
      go_wp2_with fail
      refine hdm.mono ?_
      rintro e w3 ⟨rfl, hb⟩
      have HS3 := Lib.hid (HS.out.below hb)
      have HB3 := Lib.hid (Below.step HB.out hb HB.out.size)
      clear hb hdm HS HB
      go_wp2
      go_loopw [7, 8] (fun mv iv wr => ∃ q : Nat, q ≤ s.len m ∧ iv = .int .i64 q ∧ mv = .int .i64 (mx (tdp s m) q : Nat) ∧ Hid (SAt wr A s) ∧ Hid (Below w.heap.size w wr)) (fun _ iv _ => s.len m - (intOf iv).toNat)
      case atStart => exact ⟨0, by omega, rfl, rfl, HS3, HB3⟩
      case round =>
        clear HS3 HB3
        obtain ⟨q, hq, rfl, rfl, HS, HB⟩ := hrel
        have hfs := fields_any s A c m wr HS.out
        rw [HN.out, HLN.out] at hfs
        go_wp2_with fail
        refine hfs.mono ?_
        rintro e w' ⟨rfl, rfl⟩
        clear hfs
        by_cases hq1 : q < s.len m
        · have HQI : Hid (hasT s (m : Int) ∧ (0 : Int) ≤ (q : Int) ∧ (q : Int) < (s.len (m : Int).toNat : Nat)) := Lib.hid ⟨HT.out, by omega, by rw [Int.toNat_natCast]; omega⟩
          have HKA : Hid (kAt s (m : Int) (q : Int) = s.k m q) := Lib.hid (if_pos HQI.out)
          have HTA : Hid (tAt s (m : Int) (q : Int) = s.t m q) := Lib.hid (if_pos HQI.out)
          have HG := Lib.hid ((HR.out.2.2 m hlt').2.2 q hq1)
          have HMX := Lib.hid (show mx (tdp s m) (q + 1) = max (mx (tdp s m) q) (tdp s m q) from rfl)
          have hmx6 := mx_tdp_le s m q
          have hki := kind_any s A c m q wr HS.out
          rw [HN.out, HKA.out] at hki
          go_wp2_with fail
          refine hki.mono ?_
          rintro e w4 ⟨rfl, hb⟩
          have HS4 := Lib.hid (HS.out.below hb)
          have HB4 := Lib.hid (Below.step HB.out hb HB.out.size)
          clear hb hki HS HB
          by_cases h4k : 4 ≤ s.k m q
          · have d4 : decide (4 ≤ s.k m q) = true := by simpa using h4k
            have HTD : Hid (tdp s m q = deepS s (s.t m q).toNat) := Lib.hid (if_pos h4k)
            have hty := type_any s A c m q w4 HS4.out
            rw [HN.out, HTA.out] at hty
            go_wp2_with fail
            refine hty.mono ?_
            rintro e w5 ⟨rfl, hb⟩
            have HS5 := Lib.hid (HS4.out.below hb)
            have HB5 := Lib.hid (Below.step HB4.out hb HB4.out.size)
            clear hb hty HS4 HB4
            have HDD : Hid (dpAt s (s.t m q) = (deepS s (s.t m q).toNat : Nat)) := Lib.hid (if_pos ⟨HOK.out, by have := HG.out; unfold fieldOk at this; unfold hasT; omega⟩)
            have hdd := deep_any s A c (s.t m q) w5 HS5.out
            rw [HN.out, HDD.out] at hdd
            have hd6' := deepS_six s (s.t m q).toNat
            go_wp2_with fail
            refine hdd.mono ?_
            rintro e w6 ⟨rfl, hb⟩
            have HS6 := Lib.hid (HS5.out.below hb)
            have HB6 := Lib.hid (Below.step HB5.out hb HB5.out.size)
            clear hb hdd HS5 HB5
            go_wp2
            go_roundw
            case rel =>
              refine ⟨q + 1, by omega, by go_num, ?_, HS6, HB6⟩
              rw [HMX.out, HTD.out]
              first | rfl | go_num
            case measure => simp [intOf]; omega
          · have d4 : decide (4 ≤ s.k m q) = false := by simpa using h4k
            have HTD : Hid (tdp s m q = 0) := Lib.hid (if_neg h4k)
            go_wp2
            go_roundw
            case rel =>
              refine ⟨q + 1, by omega, by go_num, ?_, HS4, HB4⟩
              rw [HMX.out, HTD.out, Nat.max_zero]
            case measure => simp [intOf]; omega
        · have e : q = s.len m := by omega
          have HDL : Hid (deepS s m = min (mx (tdp s m) (s.len m) + 1) 6) := Lib.hid (deepS_law s m)
          have hmx6 := mx_tdp_le s m q
          rw [← e] at HDL
          have hdq := HDL.out
          generalize mx (tdp s m) q = X at hdq hmx6 ⊢
          generalize deepS s m = D at hdq hd6 ⊢
          have hcmp : ((D : Int) != min ((X : Int) + 1) 6) = false := by simp; omega
          go_wp2
          go_roundw
          case rel => exact ⟨m + 1, by omega, by go_num, HS, HB⟩
          case measure => simp [intOf]; omega
    · have e : m = n := by omega
      subst e
      have HD1 : Hid (dpAt s (m : Int) = 0) := Lib.hid (if_neg fun g => by have := g.2; unfold hasT at this; have := HN.out; omega)
      have HD2 : Hid (dpAt s (-1) = 0) := Lib.hid (if_neg fun g => by have := g.2; unfold hasT at this; omega)
      have hk := deep_any s A c m wr HS.out
      rw [HN.out, HD1.out] at hk
      go_wp2_with fail
      refine hk.mono ?_
      rintro e w3 ⟨rfl, hb⟩
      have HS3 := Lib.hid (HS.out.below hb)
      have HB3 := Lib.hid (Below.step HB.out hb HB.out.size)
      clear hb hk HS HB
      have hk := deep_any s A c (-1) w3 HS3.out
      rw [HN.out, HD2.out] at hk
      go_wp2_with fail
      refine hk.mono ?_
      rintro e w4 ⟨rfl, hb⟩
      have HB4 := Lib.hid (Below.step HB3.out hb HB3.out.size)
      clear hb hk HS3 HB3
      go_wp2
      go_ret
      exact ⟨rfl, HB4.out⟩

end Go.Proofs.Ytfafffeeembceaa
