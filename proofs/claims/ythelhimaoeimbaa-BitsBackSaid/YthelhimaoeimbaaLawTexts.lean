/- BitsTexts: the walk. -/
import Derived.Test.YthelhimaoeimbaaRefWords
import Derived.Test.YthelhimaoeimbaaArr
namespace Go.Proofs.Ythelhimaoeimbaa
open Go.ChangeShapes Go.WideShapes Go.ChangeAt Go.RowKit

def cntI (n : Int) : Int := if n ≤ 0 then 0 else (cnt n.toNat : Nat)
theorem count_int (n : Int) (h : n ≤ 9223372036854775807) (w : World) : Calls Try.prog 12 #[.int .i64 n] w fun e w' => e = .returned (.int .i64 (cntI n)) ∧ w = w' := by
  unfold cntI
  by_cases h0 : n ≤ 0
  · rw [if_pos h0]; exact count_le n h0 w
  · rw [if_neg h0]
    have := count_nat n.toNat (by omega) w
    rw [Int.toNat_of_nonneg (by omega)] at this
    exact this
theorem rcount_int (n : Int) (h : n ≤ 9223372036854775807) (w : World) : Calls Try.prog 13 #[.int .i64 n] w fun e w' => e = .returned (.int .i64 (cntI n)) ∧ w = w' := by
  unfold cntI
  by_cases h0 : n ≤ 0
  · rw [if_pos h0]; exact rcount_le n h0 w
  · rw [if_neg h0]
    have := rcount_nat n.toNat (by omega) w
    rw [Int.toNat_of_nonneg (by omega)] at this
    exact this
theorem near_spelt (q : Int) : ∃ n : Nat, n < 70 ∧ (wrap64 (q.tmod 70 + 70)).tmod 70 = (n : Int) := by
  have b1 : -70 < q.tmod 70 := Int.lt_tmod_of_pos q (by omega)
  have b2 : q.tmod 70 < 70 := Int.tmod_lt_of_pos q (by omega)
  have e1 : wrap64 (q.tmod 70 + 70) = q.tmod 70 + 70 := by unfold wrap64; omega
  rw [e1]
  have b3 : (q.tmod 70 + 70).tmod 70 < 70 := Int.tmod_lt_of_pos _ (by omega)
  have b4 : 0 ≤ (q.tmod 70 + 70).tmod 70 := Int.tmod_nonneg _ (by omega)
  exact ⟨((q.tmod 70 + 70).tmod 70).toNat, by omega, by omega⟩
theorem WRow.cut {W : World} {A : Option Addr} {L : Nat} {f : Nat → Nat} (h : WRow W A L f) {k : Nat} (hk : k ≤ L) : WRow W A k f :=
  ⟨fun j hj => h.lt j (by omega), fun h0 => by
    obtain ⟨b, off, hA, hb, hc⟩ := h.some_ (by omega)
    exact ⟨b, off, hA, hb, fun j hj => hc j (by omega)⟩⟩

set_option maxRecDepth 100000 in
set_option maxHeartbeats 1000000 in
theorem lawTexts_any (s : ByteArray) (A : Option Addr) (L cap : Nat) (f : Nat → Nat) (q0 q1 : Int) (hs : s.size ≤ 9223372036854775807) (hLc : L ≤ cap) (hcap : cap ≤ 9223372036854775807) (hq1 : q0 ≤ 9223372036854775807) (w : World) (hr : WRow w A L f) : Calls Try.prog 3 #[.string s, .slice A L cap, .agg #[.int .i64 q0, .int .i64 q1]] w fun e w' => e = .returned (.bool true) ∧ Below w.heap.size w w' := by
  obtain ⟨n, hn1, hn⟩ := near_spelt q0
  have Hr := Lib.hid hr
  clear hr
  go_enter Try.func3, Try.ntmps3
  go_wp2_with fail
  refine (awake_any _).mono ?_
  rintro e w1 ⟨rfl, hb⟩
  have c0 := arr_cell hb 0
  have c1 := arr_cell hb 1
  simp only [List.getElem?_toArray, List.getElem?_cons_zero, List.getElem?_cons_succ] at c0 c1
  have Hb := Lib.hid (arr_below hb)
  have Hlt : Hid (w.heap.size < w1.heap.size) := Lib.hid (by have := hb.size; simp at this; omega)
  have HR0 := Lib.hid (Hr.out.below (Hb.out))
  clear hb Hr
  go_wp2_with fail
  refine (short_any s hs _).mono ?_
  rintro e w' ⟨t, rfl, ht, rfl⟩
  by_cases hl : 8 < L
  · obtain ⟨b, off, rfl, -, -⟩ := HR0.out.some_ (by omega)
    have HR := Lib.hid (HR0.out.cut (k := 8) (by omega))
    clear HR0
    go_wp2_with fail
    refine (text_any _ (some ⟨b, off, none⟩) 8 cap f q0 (by omega) (by omega) HR.out).mono ?_
    rintro e w2 ⟨rfl, hb2⟩
    have c0' := (hb2.cell (p := ⟨w.heap.size, 0, none⟩) Hlt.out).trans c0
    have c1' := (hb2.cell (p := ⟨w.heap.size, 1, none⟩) Hlt.out).trans c1
    have HR2 := Lib.hid (HR.out.below hb2)
    have Hb2 := Lib.hid (Hb.out.trans (hb2.mono Hb.out.size))
    have Hlt2 : Hid (w.heap.size < w2.heap.size) := Lib.hid (Nat.lt_of_lt_of_le Hlt.out hb2.size)
    clear hb2 c0 c1 HR Hb Hlt
    go_wp2_with fail
    refine (rtext_any _ (some ⟨b, off, none⟩) 8 cap f q0 (by omega) (by omega) HR2.out).mono ?_
    rintro e w3 ⟨rfl, hb3⟩
    have c0 := (hb3.cell (p := ⟨w.heap.size, 0, none⟩) Hlt2.out).trans c0'
    have c1 := (hb3.cell (p := ⟨w.heap.size, 1, none⟩) Hlt2.out).trans c1'
    have HR3 := Lib.hid (HR2.out.below hb3)
    have Hb3 := Lib.hid (Hb2.out.trans (hb3.mono Hb2.out.size))
    have Hlt3 : Hid (w.heap.size < w3.heap.size) := Lib.hid (Nat.lt_of_lt_of_le Hlt2.out hb3.size)
    clear hb3 c0' c1' HR2 Hb2 Hlt2
    go_wp2_with fail
    refine (text_any _ (some ⟨b, off, none⟩) 8 cap f (n : Nat) (by omega) (by omega) HR3.out).mono ?_
    rintro e w4 ⟨rfl, hb4⟩
    have c0' := (hb4.cell (p := ⟨w.heap.size, 0, none⟩) Hlt3.out).trans c0
    have c1' := (hb4.cell (p := ⟨w.heap.size, 1, none⟩) Hlt3.out).trans c1
    have HR4 := Lib.hid (HR3.out.below hb4)
    have Hb4 := Lib.hid (Hb3.out.trans (hb4.mono Hb3.out.size))
    have Hlt4 : Hid (w.heap.size < w4.heap.size) := Lib.hid (Nat.lt_of_lt_of_le Hlt3.out hb4.size)
    clear hb4 c0 c1 HR3 Hb3 Hlt3
    go_wp2_with fail
    refine (rtext_any _ (some ⟨b, off, none⟩) 8 cap f (n : Nat) (by omega) (by omega) HR4.out).mono ?_
    rintro e w5 ⟨rfl, hb5⟩
    have c0 := (hb5.cell (p := ⟨w.heap.size, 0, none⟩) Hlt4.out).trans c0'
    have c1 := (hb5.cell (p := ⟨w.heap.size, 1, none⟩) Hlt4.out).trans c1'
    have Hb5 := Lib.hid (Hb4.out.trans (hb5.mono Hb4.out.size))
    have Hlt5 : Hid (w.heap.size < w5.heap.size) := Lib.hid (Nat.lt_of_lt_of_le Hlt4.out hb5.size)
    clear hb5 c0' c1' HR4 Hb4 Hlt4
    go_wp2_with fail
    refine (words_any t (by omega) _).mono ?_
    rintro e w6 ⟨rfl, hrow, hb6⟩
    have HW6 := Lib.hid (wrow_of_rowIs hrow (wordOf_lt t) hrow.lt)
    have c0' := (hb6.cell (p := ⟨w.heap.size, 0, none⟩) Hlt5.out).trans c0
    have c1' := (hb6.cell (p := ⟨w.heap.size, 1, none⟩) Hlt5.out).trans c1
    have Hb6 := Lib.hid (Hb5.out.trans (hb6.mono Hb5.out.size))
    have Hlt6 : Hid (w.heap.size < w6.heap.size) := Lib.hid (Nat.lt_of_lt_of_le Hlt5.out hb6.size)
    clear hrow hb6 c0 c1 Hb5 Hlt5
    go_wp2_with fail
    refine (rwords_any t (by omega) _).mono ?_
    rintro e w7 ⟨v, rfl, hR⟩
    have hb7 := hR.below
    obtain ⟨A7, cap7, rfl, hw7⟩ := hR.row (wordOf_lt t)
    have HW7 := Lib.hid hw7
    have HW6' := Lib.hid (HW6.out.below hb7)
    have c0 := (hb7.cell (p := ⟨w.heap.size, 0, none⟩) Hlt6.out).trans c0'
    have c1 := (hb7.cell (p := ⟨w.heap.size, 1, none⟩) Hlt6.out).trans c1'
    have Hb7 := Lib.hid (Hb6.out.trans (hb7.mono Hb6.out.size))
    have Hlt7 : Hid (w.heap.size < w7.heap.size) := Lib.hid (Nat.lt_of_lt_of_le Hlt6.out hb7.size)
    clear hR hw7 hb7 c0' c1' Hb6 Hlt6
    go_wp2_with fail
    refine (same_any _ _ _ _ _ _ (wordOf t) (by omega) HW6'.out HW7.out).mono ?_
    rintro e w8 ⟨rfl, hm8⟩
    have hb8 : Below w7.heap.size w7 w8 := by obtain ⟨m8, rfl⟩ := hm8; exact below_drewN (Below.refl _ _) m8
    have c0' := (hb8.cell (p := ⟨w.heap.size, 0, none⟩) Hlt7.out).trans c0
    have c1' := (hb8.cell (p := ⟨w.heap.size, 1, none⟩) Hlt7.out).trans c1
    have Hb8 := Lib.hid (Hb7.out.trans (hb8.mono Hb7.out.size))
    clear hb8 hm8 c0 c1 Hb7 Hlt7 HW6 HW6' HW7
    go_wp2_with fail
    go_quiet (first | (go_at_call 12; exact quiet_eq (count_int q0 hq1 _)) | (go_at_call 13; exact quiet_eq (rcount_int q0 hq1 _)) | (go_at_call 14; exact quiet_eq (word_any t _ (Nat.le_trans ht (by decide)) _)) | (go_at_call 15; exact quiet_eq (rword_any t _ (Nat.le_trans ht (by decide)) _)))
    go_wp2
    all_goals go_ret
    all_goals exact ⟨rfl, below_drewN Hb8.out _⟩
  · have HR := HR0
    clear HR0
    go_wp2_with fail
    refine (text_any _ A L cap f q0 (by omega) (by omega) HR.out).mono ?_
    rintro e w2 ⟨rfl, hb2⟩
    have c0' := (hb2.cell (p := ⟨w.heap.size, 0, none⟩) Hlt.out).trans c0
    have c1' := (hb2.cell (p := ⟨w.heap.size, 1, none⟩) Hlt.out).trans c1
    have HR2 := Lib.hid (HR.out.below hb2)
    have Hb2 := Lib.hid (Hb.out.trans (hb2.mono Hb.out.size))
    have Hlt2 : Hid (w.heap.size < w2.heap.size) := Lib.hid (Nat.lt_of_lt_of_le Hlt.out hb2.size)
    clear hb2 c0 c1 HR Hb Hlt
    go_wp2_with fail
    refine (rtext_any _ A L cap f q0 (by omega) (by omega) HR2.out).mono ?_
    rintro e w3 ⟨rfl, hb3⟩
    have c0 := (hb3.cell (p := ⟨w.heap.size, 0, none⟩) Hlt2.out).trans c0'
    have c1 := (hb3.cell (p := ⟨w.heap.size, 1, none⟩) Hlt2.out).trans c1'
    have HR3 := Lib.hid (HR2.out.below hb3)
    have Hb3 := Lib.hid (Hb2.out.trans (hb3.mono Hb2.out.size))
    have Hlt3 : Hid (w.heap.size < w3.heap.size) := Lib.hid (Nat.lt_of_lt_of_le Hlt2.out hb3.size)
    clear hb3 c0' c1' HR2 Hb2 Hlt2
    go_wp2_with fail
    refine (text_any _ A L cap f (n : Nat) (by omega) (by omega) HR3.out).mono ?_
    rintro e w4 ⟨rfl, hb4⟩
    have c0' := (hb4.cell (p := ⟨w.heap.size, 0, none⟩) Hlt3.out).trans c0
    have c1' := (hb4.cell (p := ⟨w.heap.size, 1, none⟩) Hlt3.out).trans c1
    have HR4 := Lib.hid (HR3.out.below hb4)
    have Hb4 := Lib.hid (Hb3.out.trans (hb4.mono Hb3.out.size))
    have Hlt4 : Hid (w.heap.size < w4.heap.size) := Lib.hid (Nat.lt_of_lt_of_le Hlt3.out hb4.size)
    clear hb4 c0 c1 HR3 Hb3 Hlt3
    go_wp2_with fail
    refine (rtext_any _ A L cap f (n : Nat) (by omega) (by omega) HR4.out).mono ?_
    rintro e w5 ⟨rfl, hb5⟩
    have c0 := (hb5.cell (p := ⟨w.heap.size, 0, none⟩) Hlt4.out).trans c0'
    have c1 := (hb5.cell (p := ⟨w.heap.size, 1, none⟩) Hlt4.out).trans c1'
    have Hb5 := Lib.hid (Hb4.out.trans (hb5.mono Hb4.out.size))
    have Hlt5 : Hid (w.heap.size < w5.heap.size) := Lib.hid (Nat.lt_of_lt_of_le Hlt4.out hb5.size)
    clear hb5 c0' c1' HR4 Hb4 Hlt4
    go_wp2_with fail
    refine (words_any t (by omega) _).mono ?_
    rintro e w6 ⟨rfl, hrow, hb6⟩
    have HW6 := Lib.hid (wrow_of_rowIs hrow (wordOf_lt t) hrow.lt)
    have c0' := (hb6.cell (p := ⟨w.heap.size, 0, none⟩) Hlt5.out).trans c0
    have c1' := (hb6.cell (p := ⟨w.heap.size, 1, none⟩) Hlt5.out).trans c1
    have Hb6 := Lib.hid (Hb5.out.trans (hb6.mono Hb5.out.size))
    have Hlt6 : Hid (w.heap.size < w6.heap.size) := Lib.hid (Nat.lt_of_lt_of_le Hlt5.out hb6.size)
    clear hrow hb6 c0 c1 Hb5 Hlt5
    go_wp2_with fail
    refine (rwords_any t (by omega) _).mono ?_
    rintro e w7 ⟨v, rfl, hR⟩
    have hb7 := hR.below
    obtain ⟨A7, cap7, rfl, hw7⟩ := hR.row (wordOf_lt t)
    have HW7 := Lib.hid hw7
    have HW6' := Lib.hid (HW6.out.below hb7)
    have c0 := (hb7.cell (p := ⟨w.heap.size, 0, none⟩) Hlt6.out).trans c0'
    have c1 := (hb7.cell (p := ⟨w.heap.size, 1, none⟩) Hlt6.out).trans c1'
    have Hb7 := Lib.hid (Hb6.out.trans (hb7.mono Hb6.out.size))
    have Hlt7 : Hid (w.heap.size < w7.heap.size) := Lib.hid (Nat.lt_of_lt_of_le Hlt6.out hb7.size)
    clear hR hw7 hb7 c0' c1' Hb6 Hlt6
    go_wp2_with fail
    refine (same_any _ _ _ _ _ _ (wordOf t) (by omega) HW6'.out HW7.out).mono ?_
    rintro e w8 ⟨rfl, hm8⟩
    have hb8 : Below w7.heap.size w7 w8 := by obtain ⟨m8, rfl⟩ := hm8; exact below_drewN (Below.refl _ _) m8
    have c0' := (hb8.cell (p := ⟨w.heap.size, 0, none⟩) Hlt7.out).trans c0
    have c1' := (hb8.cell (p := ⟨w.heap.size, 1, none⟩) Hlt7.out).trans c1
    have Hb8 := Lib.hid (Hb7.out.trans (hb8.mono Hb7.out.size))
    clear hb8 hm8 c0 c1 Hb7 Hlt7 HW6 HW6' HW7
    go_wp2_with fail
    go_quiet (first | (go_at_call 12; exact quiet_eq (count_int q0 hq1 _)) | (go_at_call 13; exact quiet_eq (rcount_int q0 hq1 _)) | (go_at_call 14; exact quiet_eq (word_any t _ (Nat.le_trans ht (by decide)) _)) | (go_at_call 15; exact quiet_eq (rword_any t _ (Nat.le_trans ht (by decide)) _)))
    go_wp2
    all_goals go_ret
    all_goals exact ⟨rfl, below_drewN Hb8.out _⟩

end Go.Proofs.Ythelhimaoeimbaa
