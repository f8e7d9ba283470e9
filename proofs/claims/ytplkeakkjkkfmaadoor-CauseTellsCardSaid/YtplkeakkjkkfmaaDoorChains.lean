/- The law CauseChains: for every input it answers true. -/
import Derived.Test.YtplkeakkjkkfmaaDoorLawIs
namespace Go.Proofs.YtplkeakkjkkfmaaDoor
open Go.RowKit

theorem codes_no_zero : ∀ p : List (Int × Int), (codesP p).contains 0 = false
  | [] => rfl
  | (c, n) :: r => by
    by_cases hc : c = 0
    · subst hc; rw [codesP_word]; exact codes_no_zero r
    · rw [codesP_code _ _ hc, List.contains_cons, codes_no_zero r, Bool.or_false]
      simpa using fun h : (0 : Int) = c => hc h.symm
theorem wordFrom_true : ∀ (r : List (Int × Int)) (n : Int), (wordFrom (n, true) r).2 = true
  | [], _ => rfl
  | (c, m) :: r, n => by
    by_cases hc : c = 0
    · subst hc; rw [wordFrom_word]; exact wordFrom_true r m
    · rw [wordFrom_code _ _ _ hc]; exact wordFrom_true r n
theorem has_ok (p : List (Int × Int)) (hok : Ok p) : hasT p 0 = decide ((codesP p).length = 0) := by
  cases p with
  | nil => rfl
  | cons x r =>
    have h1 : hasT (x :: r) 0 = false := codes_no_zero (x :: r)
    have h2 := codes_ne (x :: r) hok (by simp)
    rw [h1]
    simpa using h2
theorem because_code (c : Int) (p : List (Int × Int)) (hc : ¬ c = 0) : becauseP c p = (c, 0) :: p := by simp [becauseP, hc]
theorem at_cons (x : Int × Int) (r : List (Int × Int)) (n : Int) : atP (x :: r) n = (0, n) :: x :: r := rfl

/-- A row of codes: its value, and its cells. -/
theorem CodeRow.look {B : Nat} {v : Value} {l : List Int} {W : World} (h : CodeRow B v l W) :
    ∃ A cap, v = .slice A l.length cap ∧ (l ≠ [] → ∃ g, A = some ⟨g, 0, none⟩ ∧ CodeCells g l W) := by
  by_cases hl : l = []
  · subst hl
    exact ⟨none, 0, h.nil rfl, fun h => absurd rfl h⟩
  · obtain ⟨g, cap, rfl, hc⟩ := h.cells hl
    exact ⟨_, _, rfl, fun _ => ⟨g, rfl, hc⟩⟩

set_option maxRecDepth 100000 in
set_option maxHeartbeats 4000000 in
theorem chains_code (A : Option Addr) (len cap : Nat) (code : Int) (HD : ¬ code = 0) (word : Int) (w : World) (hS : Script w A len) (htab : Tab w) (hE : ErrT w) :
    Calls Tryd.prog 4 #[.slice A len cap, .int .i64 code, .int .i64 word] w fun e w' => e = .returned (.bool true) ∧ Below w.heap.size w w' := by
  have Htab := Lib.hid htab; clear htab
  have HS := Lib.hid hS; clear hS
  have HE := Lib.hid hE; clear hE
  go_enter Tryd.func4, Tryd.ntmps4
  go_wp2_with fail
  refine (awake_any _ Htab.out).mono ?_
  rintro e w2 ⟨rfl, hb2⟩
  go_wp2_with fail
  refine (built_any A len cap _ (HS.out.below hb2)).mono ?_
  rintro e w3 ⟨p, v, rfl, hG, hp, hR, hb3⟩
  have hB : Below w.heap.size w w3 := hb2.trans (hb3.mono hb2.size)
  have Hok := Lib.hid hG.ok
  clear hG hR hb3 hb2
  have hlp := codesP_len p
  have Hokb : Hid (Ok ((code, 0) :: p)) := ⟨fun h => absurd h HD, Hok.out⟩
  have Hokc : Hid (Ok ((0, word) :: (code, 0) :: p)) := ⟨fun _ h => List.cons_ne_nil _ _ h, Hokb.out⟩
  go_wp2_with fail
  refine (codes_any p Hok.out (by omega) _).mono ?_
  rintro e w4 ⟨v1, rfl, hr1, hb4⟩
  replace hB : Below w.heap.size w w4 := hB.trans (hb4.mono hB.size)
  clear hb4
  go_wp2_with fail
  refine (because_any code p _).mono ?_
  rintro e w' ⟨rfl, rfl⟩
  rw [because_code code p HD]
  go_wp2_with fail
  refine (codes_any ((code, 0) :: p) Hokb.out (by simp; omega) _).mono ?_
  rintro e w5 ⟨v2, rfl, hr2, hb5⟩
  replace hB : Below w.heap.size w w5 := hB.trans (hb5.mono hB.size)
  replace hr1 := hr1.below hb5
  clear hb5
  obtain ⟨A1, cap1, rfl, hl1⟩ := hr1.look
  rw [codesP_code code 0 HD] at hr2
  obtain ⟨g2, cap2, rfl, hl2⟩ := hr2.cells (by simp)
  clear hr1 hr2
  have Hl1 := Lib.hid hl1; clear hl1
  have Hl2 := Lib.hid hl2; clear hl2
  go_wp2_with fail
  refine (word_any p Hok.out (by omega) _).mono ?_
  rintro e w6 ⟨rfl, hb6⟩
  replace hB : Below w.heap.size w w6 := hB.trans (hb6.mono hB.size)
  have Hk6 := Lib.hid hb6; clear hb6
  go_wp2_with fail
  refine (word_any ((code, 0) :: p) Hokb.out (by simp; omega) _).mono ?_
  rintro e w7 ⟨rfl, hb7⟩
  rw [wordFrom_code _ _ _ HD]
  replace hB : Below w.heap.size w w7 := hB.trans (hb7.mono hB.size)
  have Hk7 := Lib.hid (Hk6.out.trans (hb7.mono Hk6.out.size)); clear hb7 Hk6
  go_wp2_with fail
  refine (at_any ((code, 0) :: p) word _).mono ?_
  rintro e w' ⟨rfl, rfl⟩
  rw [at_cons]
  go_wp2_with fail
  refine (word_any ((0, word) :: (code, 0) :: p) Hokc.out (by simp; omega) _).mono ?_
  rintro e w8 ⟨rfl, hb8⟩
  rw [wordFrom_word, wordFrom_true]
  replace hB : Below w.heap.size w w8 := hB.trans (hb8.mono hB.size)
  have Hk8 := Lib.hid (Hk7.out.trans (hb8.mono Hk7.out.size)); clear hb8 Hk7
  generalize wordFrom (0, false) p = wd
  have c0 := (Hl2.out.below Hk8.out).at_ 0 code rfl
  have hlen : (codesP p).length ≤ 20 := by omega
  go_wp2_with fail
  refine (top_any ((code, 0) :: p) Hokb.out (by simp; omega) _ (HE.out.below hB)).mono ?_
  rintro e w9 ⟨rfl, hb9⟩
  rw [top_code code 0 HD]
  replace hB : Below w.heap.size w w9 := hB.trans (hb9.mono hB.size)
  have Hk9 := Lib.hid (Hk8.out.trans (hb9.mono Hk8.out.size)); clear hb9 Hk8 c0
  go_wp2_with fail
  refine (has_any ((code, 0) :: p) code Hokb.out (by simp; omega) _).mono ?_
  rintro e w10 ⟨rfl, hb10⟩
  rw [show hasT ((code, 0) :: p) code = true from by rw [show hasT ((code, 0) :: p) code = hasP ((code, 0) :: p) code from rfl, has_code code 0 code HD]; simp]
  replace hB : Below w.heap.size w w10 := hB.trans (hb10.mono hB.size)
  have Hk10 := Lib.hid (Hk9.out.trans (hb10.mono Hk9.out.size)); clear hb10 Hk9
  have Hl1' : Hid (codesP p ≠ [] → ∃ g, A1 = some ⟨g, 0, none⟩ ∧ CodeCells g (codesP p) w10) := fun h => by
    obtain ⟨g, h1, h2⟩ := Hl1.out h
    exact ⟨g, h1, h2.below Hk10.out⟩
  have Hl2' := Lib.hid (Hl2.out.below Hk10.out)
  have Hroot := Lib.hid (show (codesP ((code, 0) :: p)).getLast?.getD 0 = if codesP p = [] then code else (codesP p).getLast?.getD 0 from by rw [codesP_code code 0 HD]; cases codesP p <;> simp [List.getLast?_cons])
  clear Hl1 Hl2 Hk10
  go_wp2
  go_loopw [20] (fun i wr => ∃ k : Nat, k ≤ (codesP p).length ∧ i = .int .i64 k ∧ Hid (Below w10.heap.size w10 wr)) (fun i _ => (codesP p).length - (intOf i).toNat)
  case atStart => exact ⟨0, by omega, rfl, Below.refl _ _⟩
  case round =>
    obtain ⟨k, hk, rfl, Hr⟩ := hrel
    by_cases hlt : k < (codesP p).length
    · obtain ⟨c, hkc⟩ : ∃ c, (codesP p)[k]? = some c := ⟨(codesP p)[k]'hlt, List.getElem?_eq_getElem _⟩
      obtain ⟨g1, rfl, hc1⟩ := Hl1'.out (by intro h; rw [h] at hlt; cases hlt)
      have c1 := (hc1.below Hr.out).at_ k c hkc
      have c2 := (Hl2'.out.below Hr.out).at_ (k + 1) c hkc
      clear hc1
      go_wp2_with fail
      go_quiet (fail)
      go_wp2
      go_roundw
      case rel => exact ⟨k + 1, by omega, by go_num, below_drew Hr.out nq⟩
      case measure => simp [intOf]; omega
    · obtain rfl : k = (codesP p).length := by omega
      have hB' : Below w.heap.size w wr := hB.trans (Hr.out.mono hB.size)
      by_cases hn : codesP p = []
      · have hl0 : (codesP p).length = 0 := by rw [hn]; rfl
        have Hho := Lib.hid (has_ok p Hok.out)
        rw [if_pos hn] at Hroot
        rw [hl0] at Hho ⊢
        go_wp2_with fail
        refine (root_any ((code, 0) :: p) Hokb.out (by simp; omega) _).mono ?_
        rintro e w11 ⟨rfl, hb11⟩
        rw [Hroot.out]
        replace hB' : Below w.heap.size w w11 := hB'.trans (hb11.mono hB'.size)
        clear hb11
        go_wp2_with fail
        refine (top_any ((0, word) :: (code, 0) :: p) Hokc.out (by simp; omega) _ (HE.out.below hB')).mono ?_
        rintro e w12 ⟨rfl, hb12⟩
        rw [top_word, top_code code 0 HD]
        replace hB' : Below w.heap.size w w12 := hB'.trans (hb12.mono hB'.size)
        clear hb12
        go_wp2_with fail
        refine (root_any ((0, word) :: (code, 0) :: p) Hokc.out (by simp; omega) _).mono ?_
        rintro e w13 ⟨rfl, hb13⟩
        rw [codesP_word, Hroot.out]
        replace hB' : Below w.heap.size w w13 := hB'.trans (hb13.mono hB'.size)
        clear hb13
        go_wp2_with fail
        refine (has_any p 0 Hok.out (by omega) _).mono ?_
        rintro e w14 ⟨rfl, hb14⟩
        rw [Hho.out]
        replace hB' : Below w.heap.size w w14 := hB'.trans (hb14.mono hB'.size)
        clear hb14
        go_wp2_with fail
        refine (has_any ((code, 0) :: p) 0 Hokb.out (by simp; omega) _).mono ?_
        rintro e w15 ⟨rfl, hb15⟩
        rw [show hasT ((code, 0) :: p) 0 = false from codes_no_zero ((code, 0) :: p)]
        replace hB' : Below w.heap.size w w15 := hB'.trans (hb15.mono hB'.size)
        clear hb15
        go_wp2
        go_ret
        exact ⟨by first | (simp; done) | (simp; omega), hB'⟩
      · obtain ⟨m, hm⟩ : ∃ m, (codesP p).length = m + 1 := ⟨(codesP p).length - 1, by have := List.length_pos_iff.2 hn; omega⟩
        have Hho := Lib.hid (has_ok p Hok.out)
        rw [if_neg hn] at Hroot
        obtain ⟨c, hkc⟩ : ∃ c, (codesP p)[m]? = some c := ⟨(codesP p)[m]'(by omega), List.getElem?_eq_getElem _⟩
        have hlast : (codesP p).getLast?.getD 0 = c := by rw [List.getLast?_eq_getElem?, hm, Nat.add_sub_cancel, hkc]; rfl
        rw [hlast] at Hroot
        obtain ⟨g1, rfl, hc1⟩ := Hl1'.out hn
        have c1 := (hc1.below Hr.out).at_ m c hkc
        have hgt : decide ((0 : Int) < (m : Int) + 1) = true := by simp
        rw [hm] at Hho ⊢
        clear hc1
        go_wp2_with fail
        refine (root_any ((code, 0) :: p) Hokb.out (by simp; omega) _).mono ?_
        rintro e w11 ⟨rfl, hb11⟩
        rw [Hroot.out]
        replace hB' : Below w.heap.size w w11 := hB'.trans (hb11.mono hB'.size)
        clear hb11
        go_wp2_with fail
        refine (top_any ((0, word) :: (code, 0) :: p) Hokc.out (by simp; omega) _ (HE.out.below hB')).mono ?_
        rintro e w12 ⟨rfl, hb12⟩
        rw [top_word, top_code code 0 HD]
        replace hB' : Below w.heap.size w w12 := hB'.trans (hb12.mono hB'.size)
        clear hb12
        go_wp2_with fail
        refine (root_any ((0, word) :: (code, 0) :: p) Hokc.out (by simp; omega) _).mono ?_
        rintro e w13 ⟨rfl, hb13⟩
        rw [codesP_word, Hroot.out]
        replace hB' : Below w.heap.size w w13 := hB'.trans (hb13.mono hB'.size)
        clear hb13
        go_wp2_with fail
        refine (has_any p 0 Hok.out (by omega) _).mono ?_
        rintro e w14 ⟨rfl, hb14⟩
        rw [Hho.out]
        replace hB' : Below w.heap.size w w14 := hB'.trans (hb14.mono hB'.size)
        clear hb14
        go_wp2_with fail
        refine (has_any ((code, 0) :: p) 0 Hokb.out (by simp; omega) _).mono ?_
        rintro e w15 ⟨rfl, hb15⟩
        rw [show hasT ((code, 0) :: p) 0 = false from codes_no_zero ((code, 0) :: p)]
        replace hB' : Below w.heap.size w w15 := hB'.trans (hb15.mono hB'.size)
        clear hb15
        go_wp2
        go_ret
        exact ⟨by first | (simp; done) | (simp; omega), hB'⟩

set_option maxRecDepth 100000 in
set_option maxHeartbeats 4000000 in
theorem chains_ok (A : Option Addr) (len cap : Nat) (word : Int) (w : World) (hS : Script w A len) (htab : Tab w) (hE : ErrT w) :
    Calls Tryd.prog 4 #[.slice A len cap, .int .i64 0, .int .i64 word] w fun e w' => e = .returned (.bool true) ∧ Below w.heap.size w w' := by
  have HD : ¬ (1 : Int) = 0 := by decide
  have Htab := Lib.hid htab; clear htab
  have HS := Lib.hid hS; clear hS
  have HE := Lib.hid hE; clear hE
  go_enter Tryd.func4, Tryd.ntmps4
  go_wp2_with fail
  refine (awake_any _ Htab.out).mono ?_
  rintro e w2 ⟨rfl, hb2⟩
  go_wp2_with fail
  refine (built_any A len cap _ (HS.out.below hb2)).mono ?_
  rintro e w3 ⟨p, v, rfl, hG, hp, hR, hb3⟩
  have hB : Below w.heap.size w w3 := hb2.trans (hb3.mono hb2.size)
  have Hok := Lib.hid hG.ok
  clear hG hR hb3 hb2
  have hlp := codesP_len p
  have Hokb : Hid (Ok ((1, 0) :: p)) := ⟨fun h => absurd h HD, Hok.out⟩
  have Hokc : Hid (Ok ((0, word) :: (1, 0) :: p)) := ⟨fun _ h => List.cons_ne_nil _ _ h, Hokb.out⟩
  go_wp2_with fail
  refine (codes_any p Hok.out (by omega) _).mono ?_
  rintro e w4 ⟨v1, rfl, hr1, hb4⟩
  replace hB : Below w.heap.size w w4 := hB.trans (hb4.mono hB.size)
  clear hb4
  go_wp2_with fail
  refine (because_any 1 p _).mono ?_
  rintro e w' ⟨rfl, rfl⟩
  rw [because_code 1 p HD]
  go_wp2_with fail
  refine (codes_any ((1, 0) :: p) Hokb.out (by simp; omega) _).mono ?_
  rintro e w5 ⟨v2, rfl, hr2, hb5⟩
  replace hB : Below w.heap.size w w5 := hB.trans (hb5.mono hB.size)
  replace hr1 := hr1.below hb5
  clear hb5
  obtain ⟨A1, cap1, rfl, hl1⟩ := hr1.look
  rw [codesP_code 1 0 HD] at hr2
  obtain ⟨g2, cap2, rfl, hl2⟩ := hr2.cells (by simp)
  clear hr1 hr2
  have Hl1 := Lib.hid hl1; clear hl1
  have Hl2 := Lib.hid hl2; clear hl2
  go_wp2_with fail
  refine (word_any p Hok.out (by omega) _).mono ?_
  rintro e w6 ⟨rfl, hb6⟩
  replace hB : Below w.heap.size w w6 := hB.trans (hb6.mono hB.size)
  have Hk6 := Lib.hid hb6; clear hb6
  go_wp2_with fail
  refine (word_any ((1, 0) :: p) Hokb.out (by simp; omega) _).mono ?_
  rintro e w7 ⟨rfl, hb7⟩
  rw [wordFrom_code _ _ _ HD]
  replace hB : Below w.heap.size w w7 := hB.trans (hb7.mono hB.size)
  have Hk7 := Lib.hid (Hk6.out.trans (hb7.mono Hk6.out.size)); clear hb7 Hk6
  go_wp2_with fail
  refine (at_any ((1, 0) :: p) word _).mono ?_
  rintro e w' ⟨rfl, rfl⟩
  rw [at_cons]
  go_wp2_with fail
  refine (word_any ((0, word) :: (1, 0) :: p) Hokc.out (by simp; omega) _).mono ?_
  rintro e w8 ⟨rfl, hb8⟩
  rw [wordFrom_word, wordFrom_true]
  replace hB : Below w.heap.size w w8 := hB.trans (hb8.mono hB.size)
  have Hk8 := Lib.hid (Hk7.out.trans (hb8.mono Hk7.out.size)); clear hb8 Hk7
  generalize wordFrom (0, false) p = wd
  have c0 := (Hl2.out.below Hk8.out).at_ 0 1 rfl
  have hlen : (codesP p).length ≤ 20 := by omega
  go_wp2_with fail
  refine (top_any ((1, 0) :: p) Hokb.out (by simp; omega) _ (HE.out.below hB)).mono ?_
  rintro e w9 ⟨rfl, hb9⟩
  rw [top_code 1 0 HD]
  replace hB : Below w.heap.size w w9 := hB.trans (hb9.mono hB.size)
  have Hk9 := Lib.hid (Hk8.out.trans (hb9.mono Hk8.out.size)); clear hb9 Hk8 c0
  go_wp2_with fail
  refine (has_any ((1, 0) :: p) 1 Hokb.out (by simp; omega) _).mono ?_
  rintro e w10 ⟨rfl, hb10⟩
  rw [show hasT ((1, 0) :: p) 1 = true from by rw [show hasT ((1, 0) :: p) 1 = hasP ((1, 0) :: p) 1 from rfl, has_code 1 0 1 HD]; simp]
  replace hB : Below w.heap.size w w10 := hB.trans (hb10.mono hB.size)
  have Hk10 := Lib.hid (Hk9.out.trans (hb10.mono Hk9.out.size)); clear hb10 Hk9
  have Hl1' : Hid (codesP p ≠ [] → ∃ g, A1 = some ⟨g, 0, none⟩ ∧ CodeCells g (codesP p) w10) := fun h => by
    obtain ⟨g, h1, h2⟩ := Hl1.out h
    exact ⟨g, h1, h2.below Hk10.out⟩
  have Hl2' := Lib.hid (Hl2.out.below Hk10.out)
  have Hroot := Lib.hid (show (codesP ((1, 0) :: p)).getLast?.getD 0 = if codesP p = [] then 1 else (codesP p).getLast?.getD 0 from by rw [codesP_code 1 0 HD]; cases codesP p <;> simp [List.getLast?_cons])
  clear Hl1 Hl2 Hk10
  go_wp2
  go_loopw [20] (fun i wr => ∃ k : Nat, k ≤ (codesP p).length ∧ i = .int .i64 k ∧ Hid (Below w10.heap.size w10 wr)) (fun i _ => (codesP p).length - (intOf i).toNat)
  case atStart => exact ⟨0, by omega, rfl, Below.refl _ _⟩
  case round =>
    obtain ⟨k, hk, rfl, Hr⟩ := hrel
    by_cases hlt : k < (codesP p).length
    · obtain ⟨c, hkc⟩ : ∃ c, (codesP p)[k]? = some c := ⟨(codesP p)[k]'hlt, List.getElem?_eq_getElem _⟩
      obtain ⟨g1, rfl, hc1⟩ := Hl1'.out (by intro h; rw [h] at hlt; cases hlt)
      have c1 := (hc1.below Hr.out).at_ k c hkc
      have c2 := (Hl2'.out.below Hr.out).at_ (k + 1) c hkc
      clear hc1
      go_wp2_with fail
      go_quiet (fail)
      go_wp2
      go_roundw
      case rel => exact ⟨k + 1, by omega, by go_num, below_drew Hr.out nq⟩
      case measure => simp [intOf]; omega
    · obtain rfl : k = (codesP p).length := by omega
      have hB' : Below w.heap.size w wr := hB.trans (Hr.out.mono hB.size)
      by_cases hn : codesP p = []
      · have hl0 : (codesP p).length = 0 := by rw [hn]; rfl
        have Hho := Lib.hid (has_ok p Hok.out)
        rw [if_pos hn] at Hroot
        rw [hl0] at Hho ⊢
        go_wp2_with fail
        refine (root_any ((1, 0) :: p) Hokb.out (by simp; omega) _).mono ?_
        rintro e w11 ⟨rfl, hb11⟩
        rw [Hroot.out]
        replace hB' : Below w.heap.size w w11 := hB'.trans (hb11.mono hB'.size)
        clear hb11
        go_wp2_with fail
        refine (top_any ((0, word) :: (1, 0) :: p) Hokc.out (by simp; omega) _ (HE.out.below hB')).mono ?_
        rintro e w12 ⟨rfl, hb12⟩
        rw [top_word, top_code 1 0 HD]
        replace hB' : Below w.heap.size w w12 := hB'.trans (hb12.mono hB'.size)
        clear hb12
        go_wp2_with fail
        refine (root_any ((0, word) :: (1, 0) :: p) Hokc.out (by simp; omega) _).mono ?_
        rintro e w13 ⟨rfl, hb13⟩
        rw [codesP_word, Hroot.out]
        replace hB' : Below w.heap.size w w13 := hB'.trans (hb13.mono hB'.size)
        clear hb13
        go_wp2_with fail
        refine (has_any p 0 Hok.out (by omega) _).mono ?_
        rintro e w14 ⟨rfl, hb14⟩
        rw [Hho.out]
        replace hB' : Below w.heap.size w w14 := hB'.trans (hb14.mono hB'.size)
        clear hb14
        go_wp2_with fail
        refine (has_any ((1, 0) :: p) 0 Hokb.out (by simp; omega) _).mono ?_
        rintro e w15 ⟨rfl, hb15⟩
        rw [show hasT ((1, 0) :: p) 0 = false from codes_no_zero ((1, 0) :: p)]
        replace hB' : Below w.heap.size w w15 := hB'.trans (hb15.mono hB'.size)
        clear hb15
        go_wp2
        go_ret
        exact ⟨by first | (simp; done) | (simp; omega), hB'⟩
      · obtain ⟨m, hm⟩ : ∃ m, (codesP p).length = m + 1 := ⟨(codesP p).length - 1, by have := List.length_pos_iff.2 hn; omega⟩
        have Hho := Lib.hid (has_ok p Hok.out)
        rw [if_neg hn] at Hroot
        obtain ⟨c, hkc⟩ : ∃ c, (codesP p)[m]? = some c := ⟨(codesP p)[m]'(by omega), List.getElem?_eq_getElem _⟩
        have hlast : (codesP p).getLast?.getD 0 = c := by rw [List.getLast?_eq_getElem?, hm, Nat.add_sub_cancel, hkc]; rfl
        rw [hlast] at Hroot
        obtain ⟨g1, rfl, hc1⟩ := Hl1'.out hn
        have c1 := (hc1.below Hr.out).at_ m c hkc
        have hgt : decide ((0 : Int) < (m : Int) + 1) = true := by simp
        rw [hm] at Hho ⊢
        clear hc1
        go_wp2_with fail
        refine (root_any ((1, 0) :: p) Hokb.out (by simp; omega) _).mono ?_
        rintro e w11 ⟨rfl, hb11⟩
        rw [Hroot.out]
        replace hB' : Below w.heap.size w w11 := hB'.trans (hb11.mono hB'.size)
        clear hb11
        go_wp2_with fail
        refine (top_any ((0, word) :: (1, 0) :: p) Hokc.out (by simp; omega) _ (HE.out.below hB')).mono ?_
        rintro e w12 ⟨rfl, hb12⟩
        rw [top_word, top_code 1 0 HD]
        replace hB' : Below w.heap.size w w12 := hB'.trans (hb12.mono hB'.size)
        clear hb12
        go_wp2_with fail
        refine (root_any ((0, word) :: (1, 0) :: p) Hokc.out (by simp; omega) _).mono ?_
        rintro e w13 ⟨rfl, hb13⟩
        rw [codesP_word, Hroot.out]
        replace hB' : Below w.heap.size w w13 := hB'.trans (hb13.mono hB'.size)
        clear hb13
        go_wp2_with fail
        refine (has_any p 0 Hok.out (by omega) _).mono ?_
        rintro e w14 ⟨rfl, hb14⟩
        rw [Hho.out]
        replace hB' : Below w.heap.size w w14 := hB'.trans (hb14.mono hB'.size)
        clear hb14
        go_wp2_with fail
        refine (has_any ((1, 0) :: p) 0 Hokb.out (by simp; omega) _).mono ?_
        rintro e w15 ⟨rfl, hb15⟩
        rw [show hasT ((1, 0) :: p) 0 = false from codes_no_zero ((1, 0) :: p)]
        replace hB' : Below w.heap.size w w15 := hB'.trans (hb15.mono hB'.size)
        clear hb15
        go_wp2
        go_ret
        exact ⟨by first | (simp; done) | (simp; omega), hB'⟩

theorem chains_any (A : Option Addr) (len cap : Nat) (code word : Int) (w : World) (hS : Script w A len) (htab : Tab w) (hE : ErrT w) :
    Calls Tryd.prog 4 #[.slice A len cap, .int .i64 code, .int .i64 word] w fun e w' => e = .returned (.bool true) ∧ Below w.heap.size w w' := by
  by_cases hc : code = 0
  · subst hc; exact chains_ok A len cap word w hS htab hE
  · exact chains_code A len cap code hc word w hS htab hE
end Go.Proofs.YtplkeakkjkkfmaaDoor
