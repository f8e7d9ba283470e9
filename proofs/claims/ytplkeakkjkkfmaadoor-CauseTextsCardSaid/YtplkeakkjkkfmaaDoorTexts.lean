/- The law CauseTexts: for every input it answers true. -/
import Derived.Test.YtplkeakkjkkfmaaDoorAwake
namespace Go.Proofs.YtplkeakkjkkfmaaDoor
open Go.RowKit

theorem wrap64_small (n : Int) (h0 : -1000 ≤ n) (h1 : n ≤ 1000) : wrap64 n = n := by
  unfold wrap64; omega

theorem to_code (code : Int) : ∃ C : Nat, 1 ≤ C ∧ C ≤ 9 ∧ wrap64 (1 + (wrap64 (code.tmod 9 + 9)).tmod 9) = C := by
  have h1 : -9 < code.tmod 9 ∧ code.tmod 9 < 9 := by
    have := Int.tmod_lt_of_pos code (show (0 : Int) < 9 by omega)
    have := Int.lt_tmod_of_pos code (show (0 : Int) < 9 by omega)
    omega
  have h2 : wrap64 (code.tmod 9 + 9) = code.tmod 9 + 9 := wrap64_small _ (by omega) (by omega)
  rw [h2, Int.tmod_eq_emod_of_nonneg (by omega)]
  have h3 : wrap64 (1 + (code.tmod 9 + 9) % 9) = 1 + (code.tmod 9 + 9) % 9 := wrap64_small _ (by omega) (by omega)
  rw [h3]
  exact ⟨(1 + (code.tmod 9 + 9) % 9).toNat, by omega, by omega, by omega⟩

theorem to_word (word : Int) : ∃ V : Nat, V ≤ 9 ∧ (wrap64 (word.tmod 10 + 10)).tmod 10 = V := by
  have h1 : -10 < word.tmod 10 ∧ word.tmod 10 < 10 := by
    have := Int.tmod_lt_of_pos word (show (0 : Int) < 10 by omega)
    have := Int.lt_tmod_of_pos word (show (0 : Int) < 10 by omega)
    omega
  have h2 : wrap64 (word.tmod 10 + 10) = word.tmod 10 + 10 := wrap64_small _ (by omega) (by omega)
  rw [h2, Int.tmod_eq_emod_of_nonneg (by omega)]
  exact ⟨((word.tmod 10 + 10) % 10).toNat, by omega, by omega⟩

theorem digit_cut (C : Nat) (h : C ≤ 9) : (⟨#[48, 49, 50, 51, 52, 53, 54, 55, 56, 57]⟩ : ByteArray).extract C (C + 1) = ⟨#[dgt C]⟩ := by
  match C, h with
  | 0, _ => rfl
  | 1, _ => rfl
  | 2, _ => rfl
  | 3, _ => rfl
  | 4, _ => rfl
  | 5, _ => rfl
  | 6, _ => rfl
  | 7, _ => rfl
  | 8, _ => rfl
  | 9, _ => rfl
  | n + 10, h => omega

theorem itoa_digit (C : Nat) (h : C ≤ 9) : Lib.itoa (C : Int) = [dgt C] := by
  rw [Lib.itoa_nonneg, Lib.decDigits_one (by omega), dgt, Nat.mod_eq_of_lt (by omega)]

theorem bytes_list (l : List UInt8) : (⟨l.toArray⟩ : ByteArray).toList = l := by
  rw [ByteArray.toList_eq]

theorem text_ne : ∀ p : List (Int × Int), p ≠ [] → text p ≠ []
  | [], h => absurd rfl h
  | (c, n) :: r, _ => by
    by_cases hc : c = 0
    · subst hc; rw [text_word]; simp [wordWord]
    · cases r with
      | nil => rw [text_code _ _ hc]; simp [codeText, errWord]
      | cons y r => rw [text_over _ _ hc]; simp [codeText, errWord]

theorem text_len : ∀ p : List (Int × Int), Fit p → (text p).length ≤ 46 * p.length
  | [], _ => by simp [text]
  | (c, n) :: r, h => by
    have ih := text_len r (fun q hq => h q (by simp [hq]))
    obtain ⟨hc, hn⟩ := h (c, n) (by simp)
    have h1 := codeText_len c hc
    have h2 := Lib.itoa_length_le n hn.1 hn.2
    by_cases h0 : c = 0
    · subst h0; rw [text_word]; simp [wordWord, colonWord]; omega
    · cases r with
      | nil => rw [text_code _ _ h0]; simp; omega
      | cons y r => rw [text_over _ _ h0]; simp only [List.length_append, List.length_cons, becauseWord, List.length_nil] at ih ⊢; omega

set_option maxRecDepth 100000 in
set_option maxHeartbeats 1000000 in
theorem texts_any (A : Option Addr) (len cap : Nat) (code word : Int) (w : World) (hS : Script w A len) (htab : Tab w) :
    Calls Tryd.prog 5 #[.slice A len cap, .int .i64 code, .int .i64 word] w fun e w' => e = .returned (.bool true) ∧ Below w.heap.size w w' := by
  have Htab := Lib.hid htab; clear htab
  have HS := Lib.hid hS; clear hS
  obtain ⟨C, hC1, hC9, hC⟩ := to_code code
  obtain ⟨V, hV9, hV⟩ := to_word word
  have hcutC := digit_cut C hC9
  have hcutV := digit_cut V hV9
  go_enter Tryd.func5, Tryd.ntmps5
  go_wp2_with fail
  refine (awake_any _ Htab.out).mono ?_
  rintro e w2 ⟨rfl, hb2⟩
  go_wp2_with fail
  refine (built_any A len cap _ (HS.out.below hb2)).mono ?_
  rintro e w3 ⟨p, v, rfl, hG, hp, hR, hb3⟩
  have hB3 : Below w.heap.size w w3 := hb2.trans (hb3.mono hb2.size)
  have HG := Lib.hid hG
  clear hG hR hb3 hb2
  go_wp2_with fail
  refine (text_any p HG.out.ok HG.out.fit (by omega) _ (Htab.out.below hB3)).mono ?_
  rintro e w4 ⟨rfl, hb4⟩
  have hB4 : Below w.heap.size w w4 := hB3.trans (hb4.mono hB3.size)
  clear hb4 hB3
  go_wp2_with fail
  refine (because_any C p _).mono ?_
  rintro e w' ⟨rfl, rfl⟩
  have hGc := good_because HG.out C (by unfold In64; omega)
  have hlc := because_len C p
  have HGc := Lib.hid hGc; clear hGc
  go_wp2_with fail
  refine (text_any _ HGc.out.ok HGc.out.fit (by omega) _ (Htab.out.below hB4)).mono ?_
  rintro e w5 ⟨rfl, hb5⟩
  have hB5 : Below w.heap.size w w5 := hB4.trans (hb5.mono hB4.size)
  clear hb5 hB4
  go_wp2_with fail
  refine (at_any p V _).mono ?_
  rintro e w' ⟨rfl, rfl⟩
  have hGa := good_at HG.out V (by unfold In64; omega)
  have hla := at_len p V
  have HGa := Lib.hid hGa; clear hGa
  go_wp2_with fail
  refine (text_any _ HGa.out.ok HGa.out.fit (by omega) _ (Htab.out.below hB5)).mono ?_
  rintro e w6 ⟨rfl, hb6⟩
  have hB6 : Below w.heap.size w w6 := hB5.trans (hb6.mono hB5.size)
  clear hb6 hB5
  have hC0 : ¬ (C : Int) = 0 := by omega
  by_cases hnil : p = []
  · subst hnil
    have h15 : (⟨(text (becauseP (C : Int) [])).toArray⟩ : ByteArray) = ⟨#[105, 110, 116, 97, 103, 108, 105, 111, 58, 32, 101, 114, 114, 111, 114, 32]⟩ ++ ⟨#[dgt C]⟩ := by
      rw [show becauseP (C : Int) [] = [((C : Int), 0)] from by rw [becauseP, if_neg hC0], text_code _ _ hC0, codeText, itoa_digit C hC9, bytes_app]
      simp [errWord]
    rw [h15, show atP [] (V : Int) = [] from rfl, show text [] = [] from rfl]
    clear h15
    go_wp2
    go_ret
    exact ⟨rfl, hB6⟩
  · have h15 : (⟨(text (becauseP (C : Int) p)).toArray⟩ : ByteArray) = ⟨#[105, 110, 116, 97, 103, 108, 105, 111, 58, 32, 101, 114, 114, 111, 114, 32]⟩ ++ ⟨#[dgt C]⟩ ++ ⟨#[32, 98, 101, 99, 97, 117, 115, 101, 32]⟩ ++ ⟨(text p).toArray⟩ := by
      rw [becauseP, if_neg hC0]
      cases p with
      | nil => exact absurd rfl hnil
      | cons y r =>
        rw [text_over _ _ hC0, codeText, itoa_digit C hC9, bytes_app, bytes_app, bytes_app]
        simp [errWord, becauseWord]
    have h16 : (⟨(text (atP p (V : Int))).toArray⟩ : ByteArray) = ⟨#[119, 111, 114, 100, 32]⟩ ++ ⟨#[dgt V]⟩ ++ ⟨#[58, 32]⟩ ++ ⟨(text p).toArray⟩ := by
      rw [atP, if_neg (by simpa using hnil), text_word, itoa_digit V hV9, bytes_app, bytes_app, bytes_app]
      simp [wordWord, colonWord]
    have hne := text_ne p hnil
    have hs : (⟨(text p).toArray⟩ : ByteArray).toList.isEmpty = false := by
      rw [bytes_list]; simpa using hne
    have hz : (⟨(text p).toArray⟩ : ByteArray).size ≤ 1000 := by
      have := text_len p HG.out.fit
      simp [ByteArray.size]; omega
    clear hne
    rw [h15, h16]
    clear h15 h16
    generalize (⟨(text p).toArray⟩ : ByteArray) = s at hs hz ⊢
    go_wp2
    go_ret
    exact ⟨rfl, hB6⟩

end Go.Proofs.YtplkeakkjkkfmaaDoor
