/- The document's own answers (intaglioref02): Count, Text. -/
import Derived.Test.YthelhimaoeimbaaText
namespace Go.Proofs.Ythelhimaoeimbaa
open Go.ChangeShapes Go.WideShapes Go.ChangeAt Go.RowKit

set_option maxRecDepth 100000 in
theorem rcount_le (n : Int) (h : n ≤ 0) (w : World) : Calls Try.prog 13 #[.int .i64 n] w fun e w' => e = .returned (.int .i64 0) ∧ w = w' := by
  go_enter Try.func13, Try.ntmps13
  go_wp2
  go_ret
  exact ⟨rfl, rfl⟩
set_option maxRecDepth 100000 in
theorem rcount_pos (n : Nat) (h0 : 1 ≤ n) (h1 : n ≤ 9223372036854775807) (w : World) : Calls Try.prog 13 #[.int .i64 n] w fun e w' => e = .returned (.int .i64 (((n + 7) / 8 : Nat) : Int)) ∧ w = w' := by
  have h2 : (((n + 7) / 8 : Nat) : Int) = ((n : Int) - 1) / 8 + 1 := by omega
  rw [h2]
  go_enter Try.func13, Try.ntmps13
  go_wp2
  go_ret
  exact ⟨rfl, rfl⟩
theorem rcount_nat (n : Nat) (h1 : n ≤ 9223372036854775807) (w : World) : Calls Try.prog 13 #[.int .i64 n] w fun e w' => e = .returned (.int .i64 (cnt n : Nat)) ∧ w = w' := by
  by_cases h : 1 ≤ n
  · exact rcount_pos n h h1 w
  · have h0 : n = 0 := by omega
    subst h0
    exact rcount_le 0 (by omega) w

set_option maxRecDepth 100000 in
theorem rtext_neg (w : World) (A : Option Addr) (L cap : Nat) (n : Int) (h : n < 0) : Calls Try.prog 8 #[.slice A L cap, .int .i64 n] w fun e w' => e = .returned (.tuple #[.string emptyT, .bool false]) ∧ w = w' := by
  have t0 : decide (n < 0) = true := by simpa using h
  go_enter Try.func8, Try.ntmps8
  go_wp2
  go_ret2
  exact ⟨rfl, rfl⟩

set_option maxRecDepth 100000 in
theorem rtext_len (w : World) (A : Option Addr) (L cap : Nat) (n : Nat) (hn : n ≤ 9223372036854775807) (h : L ≠ cnt n) : Calls Try.prog 8 #[.slice A L cap, .int .i64 n] w fun e w' => e = .returned (.tuple #[.string emptyT, .bool false]) ∧ w = w' := by
  have t0 : decide ((n : Int) < 0) = false := by simp
  have t1 : ((L : Int) != (cnt n : Nat)) = true := by simp; omega
  have Hn := Lib.hid hn
  clear h hn
  go_enter Try.func8, Try.ntmps8
  go_wp2_with fail
  refine (rcount_nat n Hn.out _).mono ?_
  rintro e w' ⟨rfl, rfl⟩
  go_wp2
  go_ret2
  exact ⟨rfl, rfl⟩

/-- The row's value, and the text that it turns into. -/
theorem TAt.look {f : Nat → Nat} {w W : World} {m : Nat} {v : Value} (h : TAt f w m v W) : ∃ a c, v = .slice a m c ∧ (convert 39 9 v).run Try.prog W = .ok (.string (textOf f m)) W := by
  rcases h.own.2 with ⟨rfl, rfl⟩ | ⟨g, cap, cur, rfl, _⟩
  · exact ⟨none, 0, rfl, run_convert_bytes_nil W 39 5 Try.underlying39 Try.underlying5 0 0 9 Try.underlying9⟩
  · exact ⟨_, _, rfl, h.conv⟩

set_option maxRecDepth 100000 in
set_option maxHeartbeats 1000000 in
theorem rtext_go (w : World) (A : Option Addr) (L cap : Nat) (f : Nat → Nat) (n : Nat) (hL : L ≤ 9) (hn : n ≤ 800) (h : L = cnt n) (hr : WRow w A L f) : Calls Try.prog 8 #[.slice A L cap, .int .i64 n] w fun e w' => e = .returned (.tuple #[.string (txt f L n), .bool (okB f L n)]) ∧ Below w.heap.size w w' := by
  have t0 : decide ((n : Int) < 0) = false := by simp
  have H := Lib.hid h
  have Hr := Lib.hid hr
  have hLn : n ≤ 8 * L := by have := H.out; unfold cnt at this; omega
  clear h hr
  obtain ⟨i0, hi, hz1, hz2, hz3⟩ := info_parts info5
  go_enter Try.func8, Try.ntmps8
  go_wp2_with fail
  refine (rcount_nat n (by omega) _).mono ?_
  rintro e w' ⟨rfl, rfl⟩
  rw [← H.out]
  go_wp2
  go_loopw [6, 7] (fun tv iv wr => ∃ (i m : Nat) (a : Option Addr) (c : Nat), i ≤ 8 * L ∧ iv = .int .i64 i ∧ tv = .slice a m c ∧ (i ≤ n ∧ m = i ∨ n ≤ i ∧ m = n) ∧ (∀ t, n ≤ t → t < i → byteAt f t = 0) ∧ Hid (TAt f w m (.slice a m c) wr)) (fun _ iv _ => 8 * L - (intOf iv).toNat)
  case atStart => exact ⟨0, 0, none, 0, by omega, rfl, rfl, .inl ⟨by omega, rfl⟩, fun t _ h => absurd h (by omega), Lib.hid ⟨World.ownsRow_nil _ _ _ _, Below.refl _ _⟩⟩
  case round =>
    obtain ⟨i, m, a, c, hi8, rfl, rfl, hmi, hz, Ht⟩ := hrel
    by_cases hlt : i < 8 * L
    · obtain ⟨b, off, rfl, hb, hcl⟩ := (Hr.out.below (Ht.out.below)).some_ (by omega)
      have hcell := hcl (i / 8) (by omega)
      have hbs := byte_spelt f (i / 8) (i % 8) (by omega)
      rw [show 8 * (i / 8) + i % 8 = i by omega] at hbs
      clear hcl
      by_cases hin : i < n
      · have hm : m = i := by omega
        subst hm
        clear hmi
        have hzz := Ht.out.below.size
        go_wp2_with (at_builtin; (refine wpList_append_own _ rfl _ _ 39 rfl w.heap.size 5 i0 (.int .u8 0) 1 1 Try.underlying39 hi hz1 hz2 hz3 rfl (by decide) _ _ _ rfl (Ht.out.own.alloc _) ⟨wr.heap.size, 0, none⟩ 1 1 [.int .u8 ((UInt8.ofNat (byteAt f m)).toNat : Int)] rfl rfl (cell_one_new _ _ _) (by simp [Value.oneCell']) (by unfold maxLen; omega) (by omega) (by simp; omega) ?_); intro v' w1 hown' hgrow _; obtain ⟨g', cap', rfl⟩ := ownsRow_succ hown'; have Hn := Lib.hid (Ht.out.next hown' hgrow); clear hown' hgrow)
        go_roundw
        case rel => exact ⟨m + 1, m + 1, _, cap', by omega, by go_num, rfl, .inl ⟨by omega, rfl⟩, fun t h1 h2 => absurd h1 (by omega), Hn⟩
        case measure => simp [intOf]; omega
      · have hm : m = n := by omega
        clear hmi
        by_cases hb0 : byteAt f i = 0
        · rw [hb0] at hbs
          have Hm := Lib.hid hm
          clear hm
          have Hz : Hid (∀ t, n ≤ t → t < i + 1 → byteAt f t = 0) := Lib.hid fun t h1 h2 => by
            by_cases e : t = i
            · rw [e]; exact hb0
            · exact hz t h1 (by omega)
          clear hz hb0
          go_wp2
          go_roundw
          case rel => exact ⟨i + 1, m, a, c, by omega, by go_num, rfl, .inr ⟨by omega, Hm.out⟩, Hz.out, Ht⟩
          case measure => simp [intOf]; omega
        · have ho : ¬ okT f L (n : Nat) := fun h => hb0 (h.2.2 i (by simp; omega) hlt)
          have hne : ((UInt8.ofNat (byteAt f i)).toNat : Int) ≠ 0 := by
            have := byteAt_lt f i
            simp; omega
          generalize ((UInt8.ofNat (byteAt f i)).toNat : Int) = y at hbs hne
          have Ho := Lib.hid ho
          have Hm := Lib.hid hm
          clear hm hz ho hb0
          have hd : (y != 0) = true := by simpa using hne
          go_wp2
          go_ret2
          exact ⟨by rw [txt_not Ho.out, okB_not Ho.out]; rfl, Ht.out.below⟩
    · have hm : m = n := by omega
      subst hm
      have ho : okT f L (m : Nat) := ⟨by omega, by rw [Int.toNat_natCast]; exact H.out, fun t h1 h2 => hz t (by simpa using h1) (by omega)⟩
      have Ho := Lib.hid ho
      obtain ⟨a', c', hv, hconv⟩ := Ht.out.look
      cases hv
      clear hmi hz ho
      go_wp2
      go_ret2
      exact ⟨by rw [txt_of Ho.out, okB_of Ho.out, Int.toNat_natCast]; rfl, Ht.out.below⟩

theorem rtext_any (w : World) (A : Option Addr) (L cap : Nat) (f : Nat → Nat) (n : Int) (hL : L ≤ 9) (hn : n ≤ 9223372036854775807) (hr : WRow w A L f) : Calls Try.prog 8 #[.slice A L cap, .int .i64 n] w fun e w' => e = .returned (.tuple #[.string (txt f L n), .bool (okB f L n)]) ∧ Below w.heap.size w w' := by
  by_cases h0 : n < 0
  · have ho : ¬ okT f L n := fun h => by have := h.1; omega
    rw [txt_not ho, okB_not ho]
    refine (rtext_neg w A L cap n h0).mono ?_
    rintro e w' ⟨rfl, rfl⟩
    exact ⟨rfl, Below.refl _ _⟩
  · obtain ⟨m, rfl⟩ : ∃ m : Nat, n = m := ⟨n.toNat, by omega⟩
    by_cases hl : L = cnt m
    · exact rtext_go w A L cap f m hL (by unfold cnt at hl; omega) hl hr
    · have ho : ¬ okT f L (m : Nat) := fun h => hl h.2.1
      rw [txt_not ho, okB_not ho]
      refine (rtext_len w A L cap m (by omega) hl).mono ?_
      rintro e w' ⟨rfl, rfl⟩
      exact ⟨rfl, Below.refl _ _⟩

end Go.Proofs.Ythelhimaoeimbaa
