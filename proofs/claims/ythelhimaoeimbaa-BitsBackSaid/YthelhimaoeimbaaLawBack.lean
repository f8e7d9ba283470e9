/- BitsBack: the walk. -/
import Derived.Test.YthelhimaoeimbaaOpen
namespace Go.Proofs.Ythelhimaoeimbaa
open Go.ChangeShapes Go.WideShapes Go.ChangeAt Go.RowKit

theorem text_less (w : World) (A : Option Addr) (L cap n : Nat) (hn : n ≤ 60) (h : L = cnt n) : Calls Try.prog 7 #[.slice A L cap, .int .i64 ((n : Int) - 8)] w fun e w' => e = .returned (.tuple #[.string emptyT, .bool false]) ∧ w = w' := by
  by_cases h8 : n < 8
  · exact text_neg w A L cap _ (by omega)
  · have e : (n : Int) - 8 = ((n - 8 : Nat) : Int) := by omega
    rw [e]
    exact text_len w A L cap (n - 8) (by omega) (by rw [h]; unfold cnt; omega)

theorem text_back (w : World) (A : Option Addr) (L cap : Nat) (t : ByteArray) (ht : t.size ≤ 60) (h : L = cnt t.size) (hr : WRow w A L (wordOf t)) : Calls Try.prog 7 #[.slice A L cap, .int .i64 t.size] w fun e w' => e = .returned (.tuple #[.string t, .bool true]) ∧ Below w.heap.size w w' := by
  have h1 := text_any w A L cap (wordOf t) (t.size : Nat) (by rw [h]; unfold cnt; omega) (by omega) hr
  have ho := okT_words t
  rw [← h] at ho
  rw [txt_of ho, okB_of ho, Int.toNat_natCast, textOf_words] at h1
  exact h1

/-- One more bit behind the text's end. -/
theorem spoilt_bit (f : Nat → Nat) (n e x : Nat) (hn : n % 8 ≠ 0) (he : 8 * (n % 8) ≤ e) (hx : f (cnt n - 1) = x ||| 2 ^ e) : blankB f n = false := by
  have hb : ¬ blank f n := by
    rintro (h | h)
    · exact hn h
    · rw [hx] at h
      have h1 : 2 ^ e ≤ x ||| 2 ^ e := Nat.right_le_or
      have h2 : 256 ^ (n % 8) ≤ 2 ^ e := by
        rw [← pow256]
        exact Nat.pow_le_pow_right (by omega) (by omega)
      have h3 := (Nat.div_eq_zero_iff).1 h
      have h4 : 0 < 256 ^ (n % 8) := Nat.pow_pos (by omega)
      omega
  simp [blankB, hb]

theorem k_spelt (bit : Int) (m : Nat) (h1 : 1 ≤ m) (h2 : m ≤ 7) : ∃ k : Nat, k < 8 * m ∧ (wrap64 (bit.tmod (8 * (m : Int)) + 8 * (m : Int))).tmod (8 * (m : Int)) = (k : Int) := by
  have b1 : -(8 * (m : Int)) < bit.tmod (8 * (m : Int)) := Int.lt_tmod_of_pos bit (by omega)
  have b2 : bit.tmod (8 * (m : Int)) < 8 * (m : Int) := Int.tmod_lt_of_pos bit (by omega)
  have e1 : wrap64 (bit.tmod (8 * (m : Int)) + 8 * (m : Int)) = bit.tmod (8 * (m : Int)) + 8 * (m : Int) := by unfold wrap64; omega
  rw [e1]
  have b3 : (bit.tmod (8 * (m : Int)) + 8 * (m : Int)).tmod (8 * (m : Int)) < 8 * (m : Int) := Int.tmod_lt_of_pos _ (by omega)
  have b4 : 0 ≤ (bit.tmod (8 * (m : Int)) + 8 * (m : Int)).tmod (8 * (m : Int)) := Int.tmod_nonneg _ (by omega)
  exact ⟨((bit.tmod (8 * (m : Int)) + 8 * (m : Int)).tmod (8 * (m : Int))).toNat, by omega, by omega⟩

theorem cells_lie {W : World} {g L : Nat} {f : Nat → Nat} (h : W.rowIs g 31 L (fun j => .int .u64 (f j : Nat))) : ∀ j u, (cellsW f L)[j]? = some u → W.cell? ((⟨g, 0, none⟩ : Addr).add j) = some u := by
  intro j u hj
  have hl : j < L := by
    have := (List.getElem?_eq_some_iff.1 hj).1
    simpa [cellsW] using this
  rw [addr_add, Nat.zero_add, h.cell hl]
  simp [cellsW, hl] at hj
  rw [hj]

theorem owns_some {W : World} {B : Nat} {e : TypeId} {size n : Nat} {v : Value} {xs : List Value} (h : W.ownsRow B e size v n xs) (hv : v ≠ .slice none 0 0) : ∃ g cap, v = .slice (some ⟨g, 0, none⟩) n cap := by
  rcases h.2 with ⟨h1, _⟩ | ⟨g, cap, cur, h1, _⟩
  · exact absurd h1 hv
  · exact ⟨g, cap, h1⟩
/-- Two rows behind one another have been made: what was there is as it was. -/
theorem two_grown {w3 w4 w5 : World} {v : Value} {n : Nat} {xs : List Value} {c0 c1 : Array Value} (h4 : (w3.alloc (.cells c0 31)).grownBy w4 (Value.slice (some ⟨w3.heap.size, 0, none⟩) 0 0).ownBlock)
    (ho : w4.ownsRow w3.heap.size 31 1 v n xs) (h5 : (w4.alloc (.cells c1 31)).grownBy w5 v.ownBlock) : Below w3.heap.size w3 w5 := by
  have e1 := ((Below.refl _ w3).alloc (Nat.le_refl _) (.cells c0 31)).grown h4 (by simp) (fun k hk => by cases hk; exact Nat.le_refl _)
  exact (e1.alloc e1.size (.cells c1 31)).grown h5 (by have := e1.size; simp; omega) (fun k hk => (ho.lt k hk).1)

theorem store_spelt (bit : Int) (K n m k x : Nat) (hm : ((K : Int) + 1) * 8 - n = m) (hk : (wrap64 (bit.tmod (8 * (m : Int)) + 8 * (m : Int))).tmod (8 * (m : Int)) = (k : Int)) (hk1 : k < 8 * m) (hm7 : m ≤ 7) (hx : x < 18446744073709551616) :
    bits .or .u64 (x : Int) (IntKind.u64.wrap (2 ^ min (IntKind.u64.wrap (wrap64 (64 - 8 * (((K : Int) + 1) * 8 - n) + (wrap64 (bit.tmod (8 * (((K : Int) + 1) * 8 - n)) + 8 * (((K : Int) + 1) * 8 - n))).tmod (8 * (((K : Int) + 1) * 8 - n))))).toNat 64)) = ((x ||| 2 ^ (64 - 8 * m + k) : Nat) : Int) := by
  rw [hm, hk]
  have e1 : wrap64 (64 - 8 * (m : Int) + k) = ((64 - 8 * m + k : Nat) : Int) := by unfold wrap64; omega
  have e2 : IntKind.u64.wrap ((64 - 8 * m + k : Nat) : Int) = ((64 - 8 * m + k : Nat) : Int) := by rw [IntKind.wrap_u64]; omega
  rw [e1, e2, Int.toNat_natCast, Nat.min_eq_left (by omega)]
  have hp : 2 ^ (64 - 8 * m + k) < 18446744073709551616 := Nat.pow_lt_pow_right (by omega) (show 64 - 8 * m + k < 64 by omega)
  have e3 : IntKind.u64.wrap (2 ^ (64 - 8 * m + k)) = ((2 ^ (64 - 8 * m + k) : Nat) : Int) := by
    have e : (2 : Int) ^ (64 - 8 * m + k) = ((2 ^ (64 - 8 * m + k) : Nat) : Int) := by rw [Int.natCast_pow]; rfl
    rw [e, IntKind.wrap_u64]
    generalize 2 ^ (64 - 8 * m + k) = P at hp
    omega
  rw [e3, u64_or_nat _ _ hx hp]

set_option maxRecDepth 100000 in
set_option maxHeartbeats 1000000 in
theorem lawBack_any (s : ByteArray) (bit : Int) (hs : s.size ≤ 9223372036854775807) (w : World) : Calls Try.prog 4 #[.string s, .int .i64 bit] w fun e w' => e = .returned (.bool true) ∧ Below w.heap.size w w' := by
  obtain ⟨i0, hi, hz1, hz2, hz3⟩ := info_parts info31
  go_enter Try.func4, Try.ntmps4
  go_wp2_with fail
  refine (awake_any _).mono ?_
  rintro e w1 ⟨rfl, hb1⟩
  have Hb1 := Lib.hid hb1
  clear hb1
  go_wp2_with fail
  refine (short_any s hs _).mono ?_
  rintro e w' ⟨t, rfl, ht, rfl⟩
  obtain ⟨L, HL⟩ : ∃ L, Hid (cnt t.size = L) := ⟨_, Lib.hid rfl⟩
  have hL : L ≤ 8 := by have := HL.out; unfold cnt at this; omega
  go_wp2_with fail
  refine (words_any t (by omega) _).mono ?_
  rw [show (t.size + 7) / 8 = L from HL.out]
  rintro e w2 ⟨rfl, hrow, hb2⟩
  have Hrow := Lib.hid hrow
  have Hb2 := Lib.hid (Hb1.out.trans (hb2.mono Hb1.out.size))
  have hg : w.heap.size ≤ w1.heap.size := Hb1.out.size
  clear hrow hb2 Hb1
  generalize w1.heap.size = g at *
  go_wp2_with fail
  refine (text_back _ _ L _ t ht HL.out.symm (wrow_of_rowIs Hrow.out (wordOf_lt t) Hrow.out.lt)).mono ?_
  rintro e w3 ⟨rfl, hb3⟩
  have Hrow3 := Lib.hid (Hrow.out.of_block (hb3.block g Hrow.out.lt))
  have Hb3 := Lib.hid (Hb2.out.trans (hb3.mono Hb2.out.size))
  clear hb3 Hrow Hb2
  have Hcl := Lib.hid (cells_lie (Hrow3.out.alloc (.cells #[] 31)))
  go_wp2_with (first
    | (at_builtin; refine wpList_append_own _ rfl (.tmp 30) (.tmp 31) 22 rfl w3.heap.size 31 i0 (.int .u64 0) 1 8 Try.underlying22 hi hz1 hz2 hz3 rfl (by decide) _ 0 [] rfl (World.ownsRow_lit w3 #[] 0 (Nat.le_refl _) (by unfold maxLen; omega) rfl) ⟨g, 0, none⟩ L L (cellsW (wordOf t) L) rfl (by rw [cellsW_length]; omega) Hcl.out (by simp [cellsW, Value.oneCell']) (by unfold maxLen; omega) (by omega) (by simp) ?_; intro v4 w4 hown4 hgrow4 hnil4; obtain ⟨g4, cap4, rfl⟩ := owns_some hown4 (fun h => by have h2 : Value.slice (some ⟨w3.heap.size, 0, none⟩) 0 0 = Value.slice none 0 0 := (hnil4.1 h).1; cases h2); simp only [Nat.zero_add, List.nil_append] at hown4 ⊢; have Hown4 := Lib.hid hown4; have Hgrow4 := Lib.hid hgrow4; have hlt4 := hgrow4.size; clear hown4 hgrow4 hnil4)
    | (at_builtin; (refine wpList_append_own _ rfl (.tmp 32) (.tmp 33) 22 rfl w3.heap.size 31 i0 (.int .u64 0) 1 8 Try.underlying22 hi hz1 hz2 hz3 rfl (by decide) _ _ _ rfl (Hown4.out.alloc _) ⟨_, 0, none⟩ 1 1 [.int .u64 0] rfl rfl (cell_one_new _ _ _) (by simp [Value.oneCell']) (by unfold maxLen; omega) (by omega) (by simp at hlt4 ⊢; omega) ?_); intro v5 w5 hown5 hgrow5 _; obtain ⟨g5, cap5, rfl⟩ := ownsRow_succ hown5; have Hb5 := Lib.hid (two_grown Hgrow4.out Hown4.out hgrow5); clear hown5 hgrow5 hlt4))
  clear Hown4 Hgrow4 Hcl
  refine (text_len _ _ (L + 1) _ t.size (by omega) (by rw [HL.out]; omega)).mono ?_
  rintro e w' ⟨rfl, rfl⟩
  have Hrow5 := Lib.hid (Hrow3.out.of_block (Hb5.out.block g Hrow3.out.lt))
  have HB5 := Lib.hid (Hb3.out.trans (Hb5.out.mono Hb3.out.size))
  clear Hrow3 Hb3 Hb5
  go_wp2_with fail
  refine (text_less _ _ L _ t.size ht HL.out.symm).mono ?_
  rintro e w' ⟨rfl, rfl⟩
  have hd1 : decide ((L : Int) * 8 < t.size) = false := by have := HL.out; unfold cnt at this; simp; omega
  have hd2 : decide ((t.size : Int) + 7 < L * 8) = false := by have := HL.out; unfold cnt at this; simp; omega
  obtain ⟨m, hm7, hm⟩ : ∃ m : Nat, m ≤ 7 ∧ (L : Int) * 8 - t.size = m := by
    have := HL.out; unfold cnt at this; exact ⟨8 * L - t.size, by omega, by omega⟩
  go_wp2_with fail
  refine (count_nat t.size (by omega) _).mono ?_
  rintro e w' ⟨rfl, rfl⟩
  rw [HL.out]
  by_cases hm0 : m = 0
  · subst hm0
    go_wp2
    go_ret
    exact ⟨rfl, HB5.out⟩
  · obtain ⟨k, hk1, hk⟩ := k_spelt bit m (by omega) hm7
    obtain ⟨K, rfl⟩ : ∃ K, L = K + 1 := ⟨L - 1, by have := HL.out; unfold cnt at this; omega⟩
    have hcl := Hrow5.out.cell (i := K) (by omega)
    have hfz := Hrow5.out.frozen K
    have hmm : ((K : Int) + 1) * 8 - t.size = m := by omega
    have Hst := Lib.hid (store_spelt bit K t.size m k (wordOf t K) hmm hk hk1 hm7 (wordOf_lt t K))
    have Hmm := Lib.hid hmm
    clear hmm hk
    go_wp2_with fail
    rw [Hst.out]
    obtain ⟨y, Hy⟩ : ∃ y, Hid (wordOf t K ||| 2 ^ (64 - 8 * m + k) = y) := ⟨_, Lib.hid rfl⟩
    rw [Hy.out]
    have hrow6 : (w5.setCell ⟨g, K, none⟩ (.int .u64 (y : Nat))).rowIs g 31 (K + 1) (fun j => .int .u64 ((if j = K then y else wordOf t j : Nat) : Int)) := (Hrow5.out.set K _).congr fun j _ => by split <;> rfl
    have hy : y < 18446744073709551616 := by
      rw [← Hy.out]
      exact Nat.or_lt_two_pow (n := 64) (wordOf_lt t K) (Nat.pow_lt_pow_right (by omega) (by omega))
    have hbl : blankB (fun j => if j = K then y else wordOf t j) t.size = false :=
      spoilt_bit _ t.size (64 - 8 * m + k) (wordOf t K) (by have := Hmm.out; omega) (by have := Hmm.out; omega) (by rw [HL.out]; simp [Hy.out])
    have HW6 := Lib.hid (wrow_of_rowIs hrow6 (fun j => by split; exact hy; exact wordOf_lt t j) hrow6.lt)
    have HB6 := Lib.hid (HB5.out.setCell (p := ⟨g, K, none⟩) hg (.int .u64 (y : Nat)))
    have Hbl := Lib.hid hbl
    clear hrow6 hy hbl hcl hfz Hst Hrow5
    refine (text_spoilt _ _ (K + 1) _ _ t.size (by omega) (by omega) HL.out.symm HW6.out Hbl.out).mono ?_
    rintro e w' ⟨rfl, rfl⟩
    go_wp2
    go_ret
    exact ⟨rfl, HB6.out⟩

end Go.Proofs.Ythelhimaoeimbaa
