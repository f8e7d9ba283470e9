/- The chapter's own example. -/
import Derived.Test.YtplkeakkjkkfmaaDoorText
import Derived.Test.YtplkeakkjkkfmaaDoorBuilt
namespace Go.Proofs.YtplkeakkjkkfmaaDoor
open Go.RowKit

theorem new_any (c : Int) (w : World) : Calls Tryd.prog 22 #[.int .i64 c] w fun e w' => e = .returned (enc (becauseP c [])) ∧ w = w' := by
  by_cases h : c = 0
  · subst h; simpa [becauseP, enc] using new_nil w
  · have := new_code c w (by simpa using h)
    simpa [becauseP, h, enc] using this

theorem example_text : text [(22, 0), (0, 7), (23, 0)] = [105, 110, 116, 97, 103, 108, 105, 111, 58, 32, 101, 114, 114, 111, 114, 32, 50, 50, 32, 98, 101, 99, 97, 117, 115, 101, 32, 119, 111, 114, 100, 32, 55, 58, 32, 105, 110, 116, 97, 103, 108, 105, 111, 58, 32, 101, 114, 114, 111, 114, 32, 50, 51] := by
  have h22 : Lib.itoa 22 = [50, 50] := by
    rw [show (22 : Int) = ((22 : Nat) : Int) from rfl, Lib.itoa_nonneg, Lib.decDigits_two (by omega) (by omega)]; rfl
  have h23 : Lib.itoa 23 = [50, 51] := by
    rw [show (23 : Int) = ((23 : Nat) : Int) from rfl, Lib.itoa_nonneg, Lib.decDigits_two (by omega) (by omega)]; rfl
  have h7 : Lib.itoa 7 = [55] := by
    rw [show (7 : Int) = ((7 : Nat) : Int) from rfl, Lib.itoa_nonneg, Lib.decDigits_one (by omega)]; rfl
  rw [text_over _ _ (by decide), text_word, text_code _ _ (by decide)]
  simp [codeText, errWord, becauseWord, wordWord, colonWord, h22, h23, h7]

theorem example_good : Good [(22, 0), (0, 7), (23, 0)] := by
  refine ⟨by simp [Ok], fun p hp => ?_⟩
  simp only [List.mem_cons, List.not_mem_nil, or_false] at hp
  unfold In64
  rcases hp with rfl | rfl | rfl <;> simp

set_option maxRecDepth 100000 in
set_option maxHeartbeats 1000000 in
theorem awake_any (w : World) (htab : Tab w) : Calls Tryd.prog 8 #[] w fun e w' => e = .returned (.bool true) ∧ Below w.heap.size w w' := by
  have Htab := Lib.hid htab; clear htab
  go_enter Tryd.func8, Tryd.ntmps8
  go_wp2_with fail
  refine (new_any 23 _).mono ?_
  rintro e w' ⟨rfl, rfl⟩
  go_wp2_with fail
  refine (at_any (becauseP 23 []) 7 _).mono ?_
  rintro e w' ⟨rfl, rfl⟩
  go_wp2_with fail
  refine (because_any 22 (atP (becauseP 23 []) 7) _).mono ?_
  rintro e w' ⟨rfl, rfl⟩
  have he : becauseP 22 (atP (becauseP 23 []) 7) = [(22, 0), (0, 7), (23, 0)] := by simp [becauseP, atP]
  rw [he]
  clear he
  go_wp2_with fail
  refine (text_any _ example_good.ok example_good.fit (by simp) _ Htab.out).mono ?_
  rintro e w1 ⟨rfl, hb⟩
  rw [example_text]
  go_wp2
  go_ret
  exact ⟨rfl, hb⟩

theorem Script.below {w w' : World} {A : Option Addr} {len : Nat} (h : Script w A len) (hb : Below w.heap.size w w') : Script w' A len := by
  refine ⟨h.max, fun i hi => ?_⟩
  obtain ⟨b, off, N, wd, fr, hA, hlt, hst⟩ := h.at_ i hi
  exact ⟨b, off, N, wd, fr, hA, Nat.lt_of_lt_of_le hlt hb.size, (hb.cell (p := ⟨b, _, none⟩) hlt).trans hst.n, (hb.cell (p := ⟨b, _, none⟩) hlt).trans hst.word, (hb.cell (p := ⟨b, _, none⟩) hlt).trans hst.far, hst.fits⟩

end Go.Proofs.YtplkeakkjkkfmaaDoor
