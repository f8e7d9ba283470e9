/- The law CauseTells: for every input it answers true. -/
import Derived.Test.YtplkeakkjkkfmaaDoorTells2
import Derived.StillTailTactics
namespace Go.Proofs.YtplkeakkjkkfmaaDoor
open Go.RowKit

theorem has_in (p : List (Int × Int)) (c : Int) (h : (codesP p).contains c = true) : hasT p c = true := by
  cases p with
  | nil => simp [codesP] at h
  | cons x r => exact h

set_option maxRecDepth 100000 in
set_option maxHeartbeats 4000000 in
theorem tells_any (A : Option Addr) (len cap : Nat) (code : Int) (w : World) (hS : Script w A len) (htab : Tab w) (hE : ErrT w) :
    Calls Tryd.prog 3 #[.slice A len cap, .int .i64 code] w fun e w' => e = .returned (.bool true) ∧ Below w.heap.size w w' := by
  have Htab := Lib.hid htab; clear htab
  have HS := Lib.hid hS; clear hS
  have HE := Lib.hid hE; clear hE
  go_enter Tryd.func3, Tryd.ntmps3
  go_wp2_with fail
  refine (awake_any _ Htab.out).mono ?_
  rintro e w2 ⟨rfl, hb2⟩
  go_wp2_with fail
  refine (built_any A len cap _ (HS.out.below hb2)).mono ?_
  rintro e w3 ⟨p, v, rfl, hG, hp, hR, hb3⟩
  have hB : Below w.heap.size w w3 := hb2.trans (hb3.mono hb2.size)
  have HG := Lib.hid hG
  have HR := Lib.hid hR
  clear hG hR hb3 hb2
  have hlp := codesP_len p
  go_wp2_with fail
  refine (codes_any p HG.out.ok (by omega) _).mono ?_
  rintro e w4 ⟨v1, rfl, hr1, hb4⟩
  replace hB : Below w.heap.size w w4 := hB.trans (hb4.mono hB.size)
  have Hk4 := Lib.hid hb4; clear hb4
  go_wp2_with fail
  refine (ref_codes _ p (by omega) v _ (HR.out.below Hk4.out)).mono ?_
  rintro e w5 ⟨v2, rfl, hr2, hb5⟩
  replace hB : Below w.heap.size w w5 := hB.trans (hb5.mono hB.size)
  have Hk5 := Lib.hid (Hk4.out.trans (hb5.mono Hk4.out.size)); clear Hk4
  replace hr1 := hr1.below hb5
  clear hb5
  obtain ⟨A1, cap1, rfl, hl1⟩ := hr1.look
  obtain ⟨A2, cap2, rfl, hl2⟩ := hr2.look
  clear hr1 hr2
  have Hl1 := Lib.hid hl1; clear hl1
  have Hl2 := Lib.hid hl2; clear hl2
  go_wp2_with fail
  refine (word_any p HG.out.ok (by omega) _).mono ?_
  rintro e w6 ⟨rfl, hb6⟩
  replace hB : Below w.heap.size w w6 := hB.trans (hb6.mono hB.size)
  have Hk6 := Lib.hid (Hk5.out.trans (hb6.mono Hk5.out.size))
  have Hj6 := Lib.hid hb6; clear hb6 Hk5
  go_wp2_with fail
  refine (ref_word _ p (by omega) v _ (HR.out.below Hk6.out)).mono ?_
  rintro e w7 ⟨rfl, hb7⟩
  replace hB : Below w.heap.size w w7 := hB.trans (hb7.mono hB.size)
  have Hk7 := Lib.hid (Hk6.out.trans (hb7.mono Hk6.out.size))
  have Hj7 := Lib.hid (Hj6.out.trans (hb7.mono Hj6.out.size)); clear hb7 Hk6 Hj6
  generalize wordFrom (0, false) p = wd
  go_wp2_with fail
  obtain ⟨W, hW⟩ : ∃ W, w7.alloc (.cells #[.int .i64 wd.1, .bool wd.2] 36) = W := ⟨_, rfl⟩
  have hal : Below w7.heap.size w7 W := by rw [← hW]; exact (Below.refl _ w7).alloc (Nat.le_refl _) _
  rw [hW]
  replace hB : Below w.heap.size w W := hB.trans (hal.mono hB.size)
  have Hk := Lib.hid (Hk7.out.trans (hal.mono Hk7.out.size))
  have Hj := Lib.hid (Hj7.out.trans (hal.mono Hj7.out.size))
  clear hal hW Hk7 Hj7
  refine (top_any p HG.out.ok (by omega) _ (HE.out.below hB)).mono ?_
  rintro e w21 ⟨rfl, hb⟩
  replace hB : Below w.heap.size w w21 := hB.trans (hb.mono hB.size)
  replace Hk := Lib.hid (Hk.out.trans (hb.mono Hk.out.size))
  replace Hj := Lib.hid (Hj.out.trans (hb.mono Hj.out.size))
  clear hb
  go_wp2_with fail
  refine (ref_top _ p (by omega) v _ (HR.out.below Hk.out)).mono ?_
  rintro e w22 ⟨rfl, hb⟩
  replace hB : Below w.heap.size w w22 := hB.trans (hb.mono hB.size)
  replace Hk := Lib.hid (Hk.out.trans (hb.mono Hk.out.size))
  replace Hj := Lib.hid (Hj.out.trans (hb.mono Hj.out.size))
  clear hb
  go_wp2_with fail
  refine (root_any p HG.out.ok (by omega) _).mono ?_
  rintro e w23 ⟨rfl, hb⟩
  replace hB : Below w.heap.size w w23 := hB.trans (hb.mono hB.size)
  replace Hk := Lib.hid (Hk.out.trans (hb.mono Hk.out.size))
  replace Hj := Lib.hid (Hj.out.trans (hb.mono Hj.out.size))
  clear hb
  go_wp2_with fail
  refine (ref_root _ p (by omega) v _ (HR.out.below Hk.out)).mono ?_
  rintro e w24 ⟨rfl, hb⟩
  replace hB : Below w.heap.size w w24 := hB.trans (hb.mono hB.size)
  replace Hk := Lib.hid (Hk.out.trans (hb.mono Hk.out.size))
  replace Hj := Lib.hid (Hj.out.trans (hb.mono Hj.out.size))
  clear hb
  go_wp2_with fail
  refine (text_any p HG.out.ok HG.out.fit (by omega) _ (Htab.out.below hB)).mono ?_
  rintro e w25 ⟨rfl, hb⟩
  replace hB : Below w.heap.size w w25 := hB.trans (hb.mono hB.size)
  replace Hk := Lib.hid (Hk.out.trans (hb.mono Hk.out.size))
  replace Hj := Lib.hid (Hj.out.trans (hb.mono Hj.out.size))
  clear hb
  go_wp2_with fail
  refine (ref_text _ p HG.out.fit (by omega) v _ (HR.out.below Hk.out)).mono ?_
  rintro e w26 ⟨rfl, hb⟩
  replace hB : Below w.heap.size w w26 := hB.trans (hb.mono hB.size)
  replace Hk := Lib.hid (Hk.out.trans (hb.mono Hk.out.size))
  replace Hj := Lib.hid (Hj.out.trans (hb.mono Hj.out.size))
  clear hb
  go_wp2_with fail
  refine (has_any p code HG.out.ok (by omega) _).mono ?_
  rintro e w27 ⟨rfl, hb⟩
  replace hB : Below w.heap.size w w27 := hB.trans (hb.mono hB.size)
  replace Hk := Lib.hid (Hk.out.trans (hb.mono Hk.out.size))
  replace Hj := Lib.hid (Hj.out.trans (hb.mono Hj.out.size))
  clear hb
  go_wp2_with fail
  refine (ref_has _ p code HG.out.ok (by omega) v _ (HR.out.below Hk.out)).mono ?_
  rintro e w28 ⟨rfl, hb⟩
  replace hB : Below w.heap.size w w28 := hB.trans (hb.mono hB.size)
  replace Hk := Lib.hid (Hk.out.trans (hb.mono Hk.out.size))
  replace Hj := Lib.hid (Hj.out.trans (hb.mono Hj.out.size))
  clear hb
  have Hm1 : Hid (codesP p ≠ [] → ∃ g, A1 = some ⟨g, 0, none⟩ ∧ CodeCells g (codesP p) w28) := fun h => by
    obtain ⟨g, h1, h2⟩ := Hl1.out h
    exact ⟨g, h1, h2.below Hj.out⟩
  have Hm2 : Hid (codesP p ≠ [] → ∃ g, A2 = some ⟨g, 0, none⟩ ∧ CodeCells g (codesP p) w28) := fun h => by
    obtain ⟨g, h1, h2⟩ := Hl2.out h
    exact ⟨g, h1, h2.below Hj.out⟩
  clear Hl1 Hl2 Hj Hk HR
  have hlen : (codesP p).length ≤ 20 := by omega
  go_wp2
  go_loopw [13] (fun i wr => ∃ k : Nat, k ≤ (codesP p).length ∧ i = .int .i64 k ∧ Hid (Below w28.heap.size w28 wr)) (fun i _ => (codesP p).length - (intOf i).toNat)
  case atStart => exact ⟨0, by omega, rfl, Below.refl _ _⟩
  case round =>
    obtain ⟨k, hk, rfl, Hr⟩ := hrel
    by_cases hlt : k < (codesP p).length
    · obtain ⟨c, hkc⟩ : ∃ c, (codesP p)[k]? = some c := ⟨(codesP p)[k]'hlt, List.getElem?_eq_getElem _⟩
      have hne : codesP p ≠ [] := by intro h; rw [h] at hlt; cases hlt
      obtain ⟨g1, rfl, hc1⟩ := Hm1.out hne
      obtain ⟨g2, rfl, hc2⟩ := Hm2.out hne
      have c1 := (hc1.below Hr.out).at_ k c hkc
      have c2 := (hc2.below Hr.out).at_ k c hkc
      have Hhas := Lib.hid (has_in p c (by simpa using List.mem_of_getElem? hkc))
      clear hc1 hc2 hne hkc
      go_wp2_with fail
      have Hd : Hid (Below w28.heap.size w28 wr.drew) := Hr.out.trans ⟨rfl, rfl, rfl, Nat.le_refl _, fun _ _ => rfl⟩
      go_still_tail 15, (by kernel_rfl)
      change wpList _ _ _ _ _ wr.drew
      generalize wr.drew = w2 at Hd
      clear Hr c1 c2
      go_wp2_with fail
      refine (has_any p c HG.out.ok (by omega) _).mono ?_
      rintro e w29 ⟨rfl, hb⟩
      rw [Hhas.out]
      have Hr2 := Lib.hid (Hd.out.trans (hb.mono Hd.out.size))
      clear hb
      go_wp2
      go_roundw
      case rel => exact ⟨k + 1, by omega, by go_num, Hr2⟩
      case measure => simp [intOf]; omega
    · obtain rfl : k = (codesP p).length := by omega
      have hB' : Below w.heap.size w wr := hB.trans (Hr.out.mono hB.size)
      by_cases hc : code = 0
      · subst hc
        go_wp2_with fail
        refine (new_nil _).mono ?_
        rintro e w' ⟨rfl, rfl⟩
        go_wp2_with fail
        refine (top_nil _ (HE.out.below hB')).mono ?_
        rintro e w30 ⟨rfl, hb⟩
        replace hB' : Below w.heap.size w w30 := hB'.trans (hb.mono hB'.size)
        clear hb
        go_wp2
        go_ret
        exact ⟨rfl, hB'⟩
      · have Htop : Hid (Calls Tryd.prog 14 #[.iface 38 (.int .i64 code)] wr fun e w' => e = .returned (.int .i64 code) ∧ Below wr.heap.size wr w') := by
          have h := top_any [(code, 0)] ⟨fun h => absurd h hc, trivial⟩ (by simp) wr (HE.out.below hB')
          rw [enc_code code 0 hc, top_code code 0 hc] at h
          exact h
        have hc' : (code == 0) = false := by simpa using hc
        clear hc
        go_wp2_with fail
        refine (new_code code _ hc').mono ?_
        rintro e w' ⟨rfl, rfl⟩
        go_wp2_with fail
        refine Htop.out.mono ?_
        rintro e w30 ⟨rfl, hb⟩
        replace hB' : Below w.heap.size w w30 := hB'.trans (hb.mono hB'.size)
        clear hb
        go_wp2
        go_ret
        exact ⟨by simp, hB'⟩

end Go.Proofs.YtplkeakkjkkfmaaDoor
