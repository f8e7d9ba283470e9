/- The law CauseNone: for every input it answers true. -/
import Derived.Test.YtplkeakkjkkfmaaDoorTop
import Derived.Test.YtplkeakkjkkfmaaDoorAwake
namespace Go.Proofs.YtplkeakkjkkfmaaDoor
open Go.RowKit

theorem codes_nil (w : World) : Calls Tryd.prog 10 #[.nilIface] w fun e w' => e = .returned (.slice none 0 0) ∧ Below w.heap.size w w' := by
  refine (codes_any [] trivial (by simp) w).mono ?_
  rintro e w' ⟨v, rfl, hr, hb⟩
  exact ⟨by rw [hr.nil rfl], hb⟩
theorem top_nil (w : World) (hE : ErrT w) : Calls Tryd.prog 14 #[.nilIface] w fun e w' => e = .returned (.int .i64 0) ∧ Below w.heap.size w w' := top_any [] trivial (by simp) w hE
theorem root_nil (w : World) : Calls Tryd.prog 16 #[.nilIface] w fun e w' => e = .returned (.int .i64 0) ∧ Below w.heap.size w w' := root_any [] trivial (by simp) w
theorem text_nil (w : World) (ht : Tab w) : Calls Tryd.prog 18 #[.nilIface] w fun e w' => e = .returned (.string ⟨#[]⟩) ∧ Below w.heap.size w w' := text_any [] trivial (fun _ h => by cases h) (by simp) w ht
theorem word_nil (w : World) : Calls Tryd.prog 12 #[.nilIface] w fun e w' => e = .returned (.tuple #[.int .i64 0, .bool false]) ∧ Below w.heap.size w w' := word_any [] trivial (by simp) w
theorem has_nil_ok (w : World) : Calls Tryd.prog 20 #[.nilIface, .int .i64 0] w fun e w' => e = .returned (.bool true) ∧ Below w.heap.size w w' := has_any [] 0 trivial (by simp) w
theorem has_nil_arg (w : World) : Calls Tryd.prog 20 #[.nilIface, .int .i64 1] w fun e w' => e = .returned (.bool false) ∧ Below w.heap.size w w' := has_any [] 1 trivial (by simp) w

/-- A row of codes is a slice of so many. -/
theorem CodeRow.form {B : Nat} {v : Value} {l : List Int} {W : World} (h : CodeRow B v l W) : ∃ a c, v = .slice a l.length c := by
  rcases h.own.2 with ⟨rfl, h0⟩ | ⟨g, cap, cur, rfl, _⟩
  · exact ⟨none, 0, by rw [h0]⟩
  · exact ⟨_, _, rfl⟩

set_option maxRecDepth 100000 in
set_option maxHeartbeats 4000000 in
theorem none_any (A : Option Addr) (len cap : Nat) (word : Int) (w : World) (hS : Script w A len) (htab : Tab w) (hE : ErrT w) :
    Calls Tryd.prog 6 #[.slice A len cap, .int .i64 word] w fun e w' => e = .returned (.bool true) ∧ Below w.heap.size w w' := by
  have Htab := Lib.hid htab; clear htab
  have HS := Lib.hid hS; clear hS
  have HE := Lib.hid hE; clear hE
  go_enter Tryd.func6, Tryd.ntmps6
  go_wp2_with fail
  refine (awake_any _ Htab.out).mono ?_
  rintro e w2 ⟨rfl, hb2⟩
  go_wp2_with fail
  refine (built_any A len cap _ (HS.out.below hb2)).mono ?_
  rintro e w3 ⟨p, v, rfl, hG, hp, hR, hb3⟩
  have hB : Below w.heap.size w w3 := hb2.trans (hb3.mono hb2.size)
  have HG := Lib.hid hG
  clear hG hR hb3 hb2
  go_wp2_with fail
  refine (new_nil _).mono ?_
  rintro e w' ⟨rfl, rfl⟩
  go_wp2_with fail
  refine (because_ok _ _).mono ?_
  rintro e w' ⟨rfl, rfl⟩
  go_wp2_with fail
  refine (at_nil _ _).mono ?_
  rintro e w' ⟨rfl, rfl⟩
  go_wp2_with fail
  refine (word_nil _).mono ?_
  rintro e w4 ⟨rfl, hb4⟩
  replace hB : Below w.heap.size w w4 := hB.trans (hb4.mono hB.size)
  clear hb4
  go_wp2_with fail
  refine (because_ok _ _).mono ?_
  rintro e w' ⟨rfl, rfl⟩
  go_wp2_with fail
  refine (codes_nil _).mono ?_
  rintro e w5 ⟨rfl, hb5⟩
  replace hB : Below w.heap.size w w5 := hB.trans (hb5.mono hB.size)
  clear hb5
  go_wp2_with fail
  refine (top_nil _ (HE.out.below hB)).mono ?_
  rintro e w6 ⟨rfl, hb6⟩
  replace hB : Below w.heap.size w w6 := hB.trans (hb6.mono hB.size)
  clear hb6
  go_wp2_with fail
  refine (root_nil _).mono ?_
  rintro e w7 ⟨rfl, hb7⟩
  replace hB : Below w.heap.size w w7 := hB.trans (hb7.mono hB.size)
  clear hb7
  go_wp2_with fail
  refine (text_nil _ (Htab.out.below hB)).mono ?_
  rintro e w8 ⟨rfl, hb8⟩
  replace hB : Below w.heap.size w w8 := hB.trans (hb8.mono hB.size)
  clear hb8
  go_wp2_with fail
  refine (has_nil_ok _).mono ?_
  rintro e w9 ⟨rfl, hb9⟩
  replace hB : Below w.heap.size w w9 := hB.trans (hb9.mono hB.size)
  clear hb9
  go_wp2_with fail
  refine (has_nil_arg _).mono ?_
  rintro e w10 ⟨rfl, hb10⟩
  replace hB : Below w.heap.size w w10 := hB.trans (hb10.mono hB.size)
  clear hb10
  go_wp2_with fail
  refine (text_any p HG.out.ok HG.out.fit (by omega) _ (Htab.out.below hB)).mono ?_
  rintro e w11 ⟨rfl, hb11⟩
  replace hB : Below w.heap.size w w11 := hB.trans (hb11.mono hB.size)
  clear hb11
  go_wp2_with fail
  refine (text_any p HG.out.ok HG.out.fit (by omega) _ (Htab.out.below hB)).mono ?_
  rintro e w12 ⟨rfl, hb12⟩
  replace hB : Below w.heap.size w w12 := hB.trans (hb12.mono hB.size)
  clear hb12
  go_wp2_with fail
  refine (codes_any p HG.out.ok (by omega) _).mono ?_
  rintro e w13 ⟨v1, rfl, hr1, hb13⟩
  replace hB : Below w.heap.size w w13 := hB.trans (hb13.mono hB.size)
  obtain ⟨a1, c1, rfl⟩ := hr1.form
  have hl := codesP_len p
  clear hb13 hr1
  go_wp2_with fail
  refine (codes_any p HG.out.ok (by omega) _).mono ?_
  rintro e w14 ⟨v2, rfl, hr2, hb14⟩
  replace hB : Below w.heap.size w w14 := hB.trans (hb14.mono hB.size)
  obtain ⟨a2, c2, rfl⟩ := hr2.form
  clear hb14 hr2
  go_wp2
  go_ret
  exact ⟨rfl, hB⟩

end Go.Proofs.YtplkeakkjkkfmaaDoor
