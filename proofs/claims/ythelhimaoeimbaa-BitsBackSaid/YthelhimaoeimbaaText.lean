/- Text of a row that is a text's. -/
import Derived.Test.YthelhimaoeimbaaBlank
import Derived.Maps.AppendAt
import Derived.Deep.AppendLies
import Derived.OwnWalk
import Derived.Laws.AppendOwnNone
import Derived.RangeFuncBox
import Derived.Laws.IdiomStrings
namespace Go.Proofs.Ythelhimaoeimbaa
open Go.ChangeShapes Go.WideShapes Go.ChangeAt Go.RowKit

def cellsB (l : List UInt8) : List Value := l.map fun b => Value.int .u8 (b.toNat : Int)
theorem cellsB_length (l : List UInt8) : (cellsB l).length = l.length := by simp [cellsB]

/-- v is a row of the first m bytes, made since w. -/
structure TAt (f : Nat → Nat) (w : World) (m : Nat) (v : Value) (W : World) : Prop where
  own : W.ownsRow w.heap.size 5 1 v m (cellsB (bytesOf f m))
  below : Below w.heap.size w W

theorem info5 : (Try.prog.info? 5).map (fun i => (i.zero, i.size, i.bytes)) = some (some (.int .u8 0), 1, 1) := by kernel_rfl

theorem byte_spelt (f : Nat → Nat) (k j : Nat) (hj : j < 8) : IntKind.u8.wrap ((f k : Int) / 2 ^ (j * 8)) = ((UInt8.ofNat (byteAt f (8 * k + j))).toNat : Int) := by
  rw [blank_div, byteAt, show (8 * k + j) / 8 = k by omega, show (8 * k + j) % 8 = j by omega]
  generalize f k / 256 ^ j = x
  simp [IntKind.wrap, IntKind.bits, IntKind.signed]

theorem TAt.next {f : Nat → Nat} {w W w1 : World} {m : Nat} {v v' : Value} (h : TAt f w m v W)
    (ho : w1.ownsRow w.heap.size 5 1 v' (m + 1) (cellsB (bytesOf f m) ++ [.int .u8 ((UInt8.ofNat (byteAt f m)).toNat : Int)])) (hg : (W.alloc (.cells #[.int .u8 ((UInt8.ofNat (byteAt f m)).toNat : Int)] 5)).grownBy w1 v.ownBlock) : TAt f w (m + 1) v' w1 := by
  refine ⟨by rw [bytesOf_succ]; simpa [cellsB] using ho, ?_⟩
  refine (h.below.alloc h.below.size _).trans ⟨hg.os, hg.tape, hg.output, hg.size, fun k hk => hg.block k ?_ ?_⟩
  · have := h.below.size; simp; omega
  · intro e
    have := (h.own.lt k e.symm).1
    omega

theorem TAt.conv {f : Nat → Nat} {w W : World} {m : Nat} {g cap : Nat} (h : TAt f w m (.slice (some ⟨g, 0, none⟩) m cap) W) :
    (convert 39 9 (.slice (some ⟨g, 0, none⟩) m cap)).run Try.prog W = .ok (.string (textOf f m)) W := by
  have := run_convert_bytes_back (P := Try.prog) W 39 9 5 ⟨g, 0, none⟩ cap (bytesOf f m) Try.underlying39 Try.underlying5 Try.underlying9 (fun j hj => by
    refine h.own.cells (g := g) rfl j _ ?_
    rw [cellsB, List.getElem?_map, List.getElem?_eq_getElem hj]; rfl)
  rw [bytesOf_length] at this
  exact this

set_option maxRecDepth 100000 in
set_option maxHeartbeats 1000000 in
theorem text_good (w : World) (A : Option Addr) (L cap : Nat) (f : Nat → Nat) (n : Nat) (hL : L ≤ 100) (hn : n ≤ 800) (h : L = cnt n) (hr : WRow w A L f) (hbl : blankB f n = true) : Calls Try.prog 7 #[.slice A L cap, .int .i64 n] w fun e w' => e = .returned (.tuple #[.string (textOf f n), .bool true]) ∧ Below w.heap.size w w' := by
  have t0 : decide ((n : Int) < 0) = false := by simp
  have H := Lib.hid h
  have Hr := Lib.hid hr
  clear h hr
  obtain ⟨i0, hi, hz1, hz2, hz3⟩ := info_parts info5
  go_enter Try.func7, Try.ntmps7
  go_wp2
  go_step3
  go_wp2_with fail
  refine (count_nat n (by omega) _).mono ?_
  rintro e w' ⟨rfl, rfl⟩
  rw [← H.out]
  go_wp2_with fail
  refine (blank_any _ A L cap f n hL (by omega) H.out Hr.out).mono ?_
  rintro e w' ⟨rfl, rfl⟩
  rw [hbl]
  go_wp2_with (refine wpList_make_own _ rfl _ _ 39 rfl w.heap.size 5 i0 (.int .u8 0) 1 Try.underlying39 hi hz1 hz2 .i64 .i64 _ n rfl rfl rfl (by rw [hz3]; omega) (by unfold maxLen; omega) (Nat.le_refl _) ?_; intro w1 hown1 hgrow1)
  have HT : Hid (TAt f w 0 (.slice (some ⟨w.heap.size, 0, none⟩) 0 n) w1) := Lib.hid ⟨hown1, (Below.refl _ w).grown hgrow1 (Nat.le_refl _) (fun k h => by cases h)⟩
  clear hown1 hgrow1
  go_step3
  go_wp2
  have hLn : n ≤ 8 * L := by have := H.out; unfold cnt at this; omega
  have hLn' : ∀ k, k < L → 8 * k < n := fun k hk => by have := H.out; unfold cnt at this; omega
  go_loopw [6, 29] (fun tv kv wr => ∃ k m g c : Nat, k ≤ L ∧ kv = .int .i64 k ∧ tv = .slice (some ⟨g, 0, none⟩) m c ∧ m ≤ n ∧ (m = 8 * k ∨ m = n ∧ k = L) ∧ Hid (TAt f w m (.slice (some ⟨g, 0, none⟩) m c) wr)) (fun _ kv _ => L - (intOf kv).toNat)
  case atStart => exact ⟨0, 0, w.heap.size, n, by omega, rfl, rfl, by omega, .inl rfl, HT⟩
  case round =>
    obtain ⟨k, m, g, c, hk, rfl, rfl, hm, hmk, Ht⟩ := hrel
    by_cases hlt : k < L
    · have hm8 : m = 8 * k := by omega
      have h8n := hLn' k hlt
      obtain ⟨b, off, rfl, hb, hcl⟩ := (Hr.out.below (Ht.out.below)).some_ (by omega)
      have hcell := hcl k hlt
      clear hcl
      go_wp2
      go_loopw [6, 33] (fun tv jv wr => ∃ j m g c : Nat, j ≤ 8 ∧ jv = .int .i64 j ∧ tv = .slice (some ⟨g, 0, none⟩) m c ∧ m ≤ n ∧ m = 8 * k + j ∧ Hid (TAt f w m (.slice (some ⟨g, 0, none⟩) m c) wr)) (fun _ jv _ => 8 - (intOf jv).toNat)
      case atStart => exact ⟨0, m, g, c, by omega, rfl, rfl, hm, by omega, Ht⟩
      case round =>
        clear hmk Ht hm
        obtain ⟨j, m, g, c, hj, rfl, rfl, hm, hmj, Ht⟩ := hrel
        by_cases hj8 : j < 8
        · by_cases hmn : m = n
          · subst hmn
            have hconv := Ht.out.conv
            clear hmj
            go_wp2
            rw [Exit.noGoto_ret]
            go_ret2
            exact ⟨rfl, Ht.out.below⟩
          · have hne : ((m : Int) == (n : Int)) = false := by simp; omega
            have hbs := byte_spelt f k j hj8
            rw [← hmj] at hbs
            have Hmj := Lib.hid hmj
            clear hmj hm8
            have hzz := Ht.out.below.size
            go_wp2_with (at_builtin; (refine wpList_append_own _ rfl _ _ 39 rfl w.heap.size 5 i0 (.int .u8 0) 1 1 Try.underlying39 hi hz1 hz2 hz3 rfl (by decide) _ _ _ rfl (Ht.out.own.alloc _) ⟨wr.heap.size, 0, none⟩ 1 1 [.int .u8 ((UInt8.ofNat (byteAt f m)).toNat : Int)] rfl rfl (cell_one_new _ _ _) (by simp [Value.oneCell']) (by unfold maxLen; omega) (by omega) (by simp; omega) ?_); intro v' w1 hown' hgrow _; obtain ⟨g', cap', rfl⟩ := ownsRow_succ hown'; have Hn := Lib.hid (Ht.out.next hown' hgrow); clear hown' hgrow)
            go_roundw
            case rel => exact ⟨j + 1, m + 1, g', cap', by omega, by go_num, rfl, by omega, by have := Hmj.out; omega, Hn⟩
            case measure => simp [intOf]; omega
        · go_wp2
          go_roundw
          case rel => exact ⟨k + 1, m, g, c, by omega, by go_num, rfl, hm, by omega, Ht⟩
          case measure => simp [intOf]; omega
    · have hmn : m = n := by omega
      subst hmn
      have hconv := Ht.out.conv
      go_wp2
      go_ret2
      exact ⟨rfl, Ht.out.below⟩

/-- What Text answers, of any row of up to 8 words. -/
theorem text_any (w : World) (A : Option Addr) (L cap : Nat) (f : Nat → Nat) (n : Int) (hL : L ≤ 9) (hn : n ≤ 9223372036854775807) (hr : WRow w A L f) : Calls Try.prog 7 #[.slice A L cap, .int .i64 n] w fun e w' => e = .returned (.tuple #[.string (txt f L n), .bool (okB f L n)]) ∧ Below w.heap.size w w' := by
  by_cases h0 : n < 0
  · have ho : ¬ okT f L n := fun h => by have := h.1; omega
    rw [txt_not ho, okB_not ho]
    refine (text_neg w A L cap n h0).mono ?_
    rintro e w' ⟨rfl, rfl⟩
    exact ⟨rfl, Below.refl _ _⟩
  · obtain ⟨m, rfl⟩ : ∃ m : Nat, n = m := ⟨n.toNat, by omega⟩
    by_cases hl : L = cnt m
    · have hm : m ≤ 800 := by unfold cnt at hl; omega
      have hob : okB f L (m : Nat) = blankB f m := by
        rw [hl]; exact okT_blank f m (fun j hj => hr.lt j (by omega))
      cases hb : blankB f m with
      | true =>
        rw [txt, hob, hb, if_pos rfl, Int.toNat_natCast]
        exact text_good w A L cap f m (by omega) hm hl hr hb
      | false =>
        rw [txt, hob, hb, if_neg (by decide)]
        refine (text_spoilt w A L cap f m (by omega) (by omega) hl hr hb).mono ?_
        rintro e w' ⟨rfl, rfl⟩
        exact ⟨rfl, Below.refl _ _⟩
    · have ho : ¬ okT f L (m : Nat) := fun h => hl h.2.1
      rw [txt_not ho, okB_not ho]
      refine (text_len w A L cap m (by omega) hl).mono ?_
      rintro e w' ⟨rfl, rfl⟩
      exact ⟨rfl, Below.refl _ _⟩

end Go.Proofs.Ythelhimaoeimbaa
