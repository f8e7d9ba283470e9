/- The document's own answer (intaglioref01): Text. -/
import Derived.Test.YtplkeakkjkkfmaaDoorTells1
namespace Go.Proofs.YtplkeakkjkkfmaaDoor
open Go.RowKit

theorem drop_at {p : List (Int × Int)} {k : Nat} {x : Int × Int} (h : p[k]? = some x) : p.drop k = x :: p.drop (k + 1) := by
  obtain ⟨hk, rfl⟩ := List.getElem?_eq_some_iff.1 h
  exact List.drop_eq_getElem_cons hk

/-- l has been told of p's text: k parts. -/
structure ToldT (p : List (Int × Int)) (k : Nat) (l : List UInt8) : Prop where
  eq : text p = l ++ text (p.drop k)
  len : l.length ≤ 64 * k

set_option maxRecDepth 100000 in
set_option maxHeartbeats 1000000 in
theorem ref_text (B : Nat) (p : List (Int × Int)) (hfit : Fit p) (hp : p.length ≤ 100) (v : Value) (w : World) (h : Row B v p w) :
    Calls Tryd.prog 19 #[v] w fun e w' => e = .returned (.string ⟨(text p).toArray⟩) ∧ Below w.heap.size w w' := by
  obtain ⟨A, cap, rfl, hl⟩ := h.look
  have Hl := Lib.hid hl; clear hl h
  have Hfit := Lib.hid hfit; clear hfit
  go_enter Tryd.func19, Tryd.ntmps19
  go_wp2
  go_loopw [3, 4] (fun s i wr => ∃ (k : Nat) (l : List UInt8), k ≤ p.length ∧ i = .int .i64 k ∧ s = .string ⟨l.toArray⟩ ∧ l.length ≤ 64 * k ∧ Hid (ToldT p k l) ∧ Below w.heap.size w wr) (fun _ i _ => p.length - (intOf i).toNat)
  case atStart => exact ⟨0, [], by omega, rfl, rfl, by simp, ⟨by simp, by simp⟩, Below.refl _ _⟩
  case round =>
    obtain ⟨k, l, hk, rfl, rfl, hll, HT, hB⟩ := hrel
    by_cases hlt : k < p.length
    · obtain ⟨⟨c, n⟩, hkc⟩ : ∃ x, p[k]? = some x := ⟨p[k]'hlt, List.getElem?_eq_getElem _⟩
      obtain ⟨g, rfl, hpc⟩ := Hl.out (by intro h; rw [h] at hlt; cases hlt)
      obtain ⟨c0, c1⟩ := (hpc.below hB rfl).at_ k c n hkc
      obtain ⟨hfc, hfn⟩ := Hfit.out _ (List.mem_of_getElem? hkc)
      have Hfc := Lib.hid hfc
      have Hfn := Lib.hid hfn
      have Hd := Lib.hid (drop_at hkc)
      clear hpc hkc hfc hfn
      by_cases hc : c = 0
      · subst hc
        go_wp2_with fail
        refine (digits_any n Hfn.out _).mono ?_
        rintro e w1 ⟨rfl, hb1⟩
        have hi := Lib.itoa_length_le n Hfn.out.1 Hfn.out.2
        have hB1 : Below w.heap.size w w1 := hB.trans (hb1.mono hB.size)
        go_wp2
        go_roundw
        case rel =>
          refine ⟨k + 1, l ++ wordWord ++ Lib.itoa n ++ colonWord, by omega, by go_num, ?_, ?_, ⟨?_, ?_⟩, hB1⟩
          · simp [bytes_app, wordWord, colonWord]
          · simp [wordWord, colonWord]; omega
          · rw [HT.out.eq, Hd.out, text_word]; simp
          · simp [wordWord, colonWord]; omega
        case measure => simp [intOf]; omega
      · have hc' : (c == 0) = false := by simpa using hc
        have Hc := Lib.hid hc
        clear hc
        go_wp2_with fail
        refine (digits_any c Hfc.out _).mono ?_
        rintro e w1 ⟨rfl, hb1⟩
        have hi := Lib.itoa_length_le c Hfc.out.1 Hfc.out.2
        have hB1 : Below w.heap.size w w1 := hB.trans (hb1.mono hB.size)
        by_cases hlast : k + 1 < p.length
        · have hd : decide ((k : Int) < (p.length : Int) - 1) = true := by simp; omega
          go_wp2
          go_roundw
          case rel =>
            refine ⟨k + 1, l ++ codeText c ++ becauseWord, by omega, by go_num, ?_, ?_, ⟨?_, ?_⟩, hB1⟩
            · simp [bytes_app, codeText, errWord, becauseWord]
            · simp [codeText, errWord, becauseWord]; omega
            · obtain ⟨y, hy⟩ : ∃ y, p[k + 1]? = some y := ⟨p[k + 1]'hlast, List.getElem?_eq_getElem _⟩
              rw [HT.out.eq, Hd.out, drop_at hy, text_over c n Hc.out]; simp
            · simp [codeText, errWord, becauseWord]; omega
          case measure => simp [intOf]; omega
        · have hd : decide ((k : Int) < (p.length : Int) - 1) = false := by simp; omega
          go_wp2
          go_roundw
          case rel =>
            refine ⟨k + 1, l ++ codeText c, by omega, by go_num, ?_, ?_, ⟨?_, ?_⟩, hB1⟩
            · simp [bytes_app, codeText, errWord]
            · simp [codeText, errWord]; omega
            · rw [HT.out.eq, Hd.out, List.drop_of_length_le (by omega), text_code c n Hc.out]; simp [text]
            · simp [codeText, errWord]; omega
          case measure => simp [intOf]; omega
    · obtain rfl : k = p.length := by omega
      have He := Lib.hid HT.out.eq
      rw [List.drop_length] at He
      go_wp2
      go_ret
      exact ⟨by rw [He.out]; simp [text], hB⟩

end Go.Proofs.YtplkeakkjkkfmaaDoor
