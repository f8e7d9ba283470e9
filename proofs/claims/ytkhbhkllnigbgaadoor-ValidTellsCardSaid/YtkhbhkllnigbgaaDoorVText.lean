/- bits.Text, and the document's Count and Text: which rows are a text's. -/
import Derived.Test.YtkhbhkllnigbgaaDoorBWords
import Derived.Test.YtkhbhkllnigbgaaDoorQAll
import Derived.Test.YtkhbhkllnigbgaaDoorTMath
import Derived.Maps.AppendAt
import Derived.Deep.AppendLies
import Derived.OwnWalk
import Derived.Laws.AppendOwnNone
import Derived.RangeFuncBox
import Derived.Laws.IdiomStrings
namespace Go.Proofs.YtkhbhkllnigbgaaDoor.Bt
open Go.ChangeShapes Go.WideShapes Go.ChangeAt Go.RowKit
/-- The i-th byte of a row of words. -/
def byteAt (f : Nat → Nat) (i : Nat) : Nat := f (i / 8) / 256 ^ (i % 8) % 256
def bytesOf (f : Nat → Nat) (n : Nat) : List UInt8 := (List.range n).map fun i => UInt8.ofNat (byteAt f i)
def textOf (f : Nat → Nat) (n : Nat) : ByteArray := ⟨(bytesOf f n).toArray⟩
def emptyT : ByteArray := ⟨#[]⟩
/-- L words are n bytes of a text. -/
def okT (f : Nat → Nat) (L : Nat) (n : Int) : Prop := 0 ≤ n ∧ L = cnt n.toNat ∧ ∀ i, n.toNat ≤ i → i < 8 * L → byteAt f i = 0
noncomputable def okB (f : Nat → Nat) (L : Nat) (n : Int) : Bool := @decide (okT f L n) (Classical.propDecidable _)
noncomputable def txt (f : Nat → Nat) (L : Nat) (n : Int) : ByteArray := if okB f L n then textOf f n.toNat else emptyT

theorem okB_of {f : Nat → Nat} {L : Nat} {n : Int} (h : okT f L n) : okB f L n = true := by simp [okB, h]
theorem okB_not {f : Nat → Nat} {L : Nat} {n : Int} (h : ¬ okT f L n) : okB f L n = false := by simp [okB, h]
theorem txt_of {f : Nat → Nat} {L : Nat} {n : Int} (h : okT f L n) : txt f L n = textOf f n.toNat := by simp [txt, okB_of h]
theorem txt_not {f : Nat → Nat} {L : Nat} {n : Int} (h : ¬ okT f L n) : txt f L n = emptyT := by simp [txt, okB_not h]

theorem byteAt_lt (f : Nat → Nat) (i : Nat) : byteAt f i < 256 := Nat.mod_lt _ (by decide)
theorem bytesOf_length (f : Nat → Nat) (n : Nat) : (bytesOf f n).length = n := by simp [bytesOf]
theorem bytesOf_succ (f : Nat → Nat) (n : Nat) : bytesOf f (n + 1) = bytesOf f n ++ [UInt8.ofNat (byteAt f n)] := by
  simp [bytesOf, List.range_succ]
theorem textOf_size (f : Nat → Nat) (n : Nat) : (textOf f n).size = n := by
  show (bytesOf f n).toArray.size = n
  simp [bytesOf_length]

/-- The bytes of a word from the u-th one on are 0 just where the word, moved down by so many, is. -/
theorem high_zero (X u : Nat) (hX : X < 18446744073709551616) (hu : u < 8) : X / 256 ^ u = 0 ↔ ∀ k, u ≤ k → k < 8 → X / 256 ^ k % 256 = 0 := by
  constructor
  · intro h k hk _
    have : X / 256 ^ k ≤ X / 256 ^ u := Nat.div_le_div_left (Nat.pow_le_pow_right (by decide) hk) (Nat.pow_pos (by decide))
    rw [h] at this
    rw [Nat.le_zero.1 this]
  · intro h
    have h8 : X / 256 ^ 8 = 0 := Nat.div_eq_of_lt hX
    have step : ∀ k, k < 8 → u ≤ k → X / 256 ^ (k + 1) = 0 → X / 256 ^ k = 0 := by
      intro k hk huk h1
      have h2 := h k huk hk
      rw [Nat.pow_succ, ← Nat.div_div_eq_div_mul] at h1
      omega
    have all : ∀ d, d ≤ 8 → u ≤ 8 - d → X / 256 ^ (8 - d) = 0 := by
      intro d
      induction d with
      | zero => intro _ _; exact h8
      | succ d ih =>
        intro hd hud
        have := ih (by omega) (by omega)
        refine step (8 - (d + 1)) (by omega) hud ?_
        rw [show 8 - (d + 1) + 1 = 8 - d by omega]
        exact this
    have := all (8 - u) (by omega) (by omega)
    rwa [show 8 - (8 - u) = u by omega] at this

theorem pow256 (k : Nat) : (2 : Nat) ^ (k * 8) = 256 ^ k := by rw [show (256 : Nat) = 2 ^ 8 from rfl, ← Nat.pow_mul, Nat.mul_comm]

/-- Blank behind the n-th byte. -/
def blank (f : Nat → Nat) (n : Nat) : Prop := n % 8 = 0 ∨ f (cnt n - 1) / 256 ^ (n % 8) = 0
theorem blank_iff (f : Nat → Nat) (n : Nat) (hf : f (cnt n - 1) < 18446744073709551616) : blank f n ↔ ∀ i, n ≤ i → i < 8 * cnt n → byteAt f i = 0 := by
  unfold blank cnt at *
  by_cases h0 : n % 8 = 0
  · exact ⟨fun _ i h1 h2 => absurd h2 (by omega), fun _ => .inl h0⟩
  · have hq : (n + 7) / 8 - 1 = n / 8 := by omega
    rw [hq] at hf ⊢
    rw [high_zero _ _ hf (by omega)]
    constructor
    · rintro (h | h) i h1 h2
      · exact absurd h h0
      · have e : i / 8 = n / 8 := by omega
        rw [byteAt, e]
        exact h (i % 8) (by omega) (by omega)
    · intro h
      refine .inr fun k hk hk8 => ?_
      have := h (n / 8 * 8 + k) (by omega) (by omega)
      rw [byteAt, show (n / 8 * 8 + k) / 8 = n / 8 by omega, show (n / 8 * 8 + k) % 8 = k by omega] at this
      exact this

/-- The digits of a number by 256. -/
theorem leN_digit : ∀ (l : List UInt8) (k : Nat), leN l / 256 ^ k % 256 = (l[k]?.map UInt8.toNat).getD 0
  | [], k => by simp [leN]
  | b :: l, 0 => by
    have := b.toNat_lt
    simp [leN]
  | b :: l, k + 1 => by
    have hb := b.toNat_lt
    rw [leN, Nat.pow_succ, Nat.mul_comm (256 ^ k), ← Nat.div_div_eq_div_mul, show (b.toNat + 256 * leN l) / 256 = leN l by omega, leN_digit l k]
    simp

theorem wordOf_lt (s : ByteArray) (i : Nat) : wordOf s i < 18446744073709551616 := by
  have h := leN_lt ((s.data.toList.drop (i * 8)).take 8)
  have h2 : ((s.data.toList.drop (i * 8)).take 8).length ≤ 8 := by simp; omega
  have h3 : (256 : Nat) ^ ((s.data.toList.drop (i * 8)).take 8).length ≤ 256 ^ 8 := Nat.pow_le_pow_right (by decide) h2
  exact Nat.lt_of_lt_of_le h h3

theorem byteAt_word (s : ByteArray) (i : Nat) : byteAt (wordOf s) i = (s.data.toList[i]?.map UInt8.toNat).getD 0 := by
  rw [byteAt, wordOf, leN_digit, List.getElem?_take_of_lt (by omega), List.getElem?_drop, show i / 8 * 8 + i % 8 = i by omega]

theorem okT_words (s : ByteArray) : okT (wordOf s) (cnt s.size) (s.size : Nat) := by
  refine ⟨by omega, by simp, fun i h1 _ => ?_⟩
  rw [byteAt_word, List.getElem?_eq_none (by simp at h1; simpa using h1)]
  rfl
theorem textOf_words (s : ByteArray) : textOf (wordOf s) s.size = s := by
  have : bytesOf (wordOf s) s.size = s.data.toList := by
    apply List.ext_getElem
    · simp [bytesOf]
    · intro i h1 h2
      simp only [bytesOf, List.getElem_map, List.getElem_range]
      rw [byteAt_word, List.getElem?_eq_getElem h2]
      simp
  rw [textOf, this]

theorem count_nat (n : Nat) (h1 : n ≤ 9223372036854775807) (w : World) : Calls Tryd.prog 158 #[.int .i64 n] w fun e w' => e = .returned (.int .i64 (cnt n : Nat)) ∧ w = w' := bcount_nat n h1 w
/-- What isBlank answers. -/
noncomputable def blankB (f : Nat → Nat) (n : Nat) : Bool := @decide (blank f n) (Classical.propDecidable _)

theorem blank_div (x k : Nat) : (x : Int) / 2 ^ (k * 8) = ((x / 256 ^ k : Nat) : Int) := by
  rw [Int.natCast_ediv, ← pow256, Int.natCast_pow]; rfl

set_option maxRecDepth 100000 in
theorem blank_some (w : World) (b off m cap : Nat) (f : Nat → Nat) (n : Nat) (hm : m ≤ 100) (hn : n ≤ 1000) (hL : m + 1 = cnt n) (hr : WRow w (some ⟨b, off, none⟩) (m + 1) f) : Calls Tryd.prog 161 #[.slice (some ⟨b, off, none⟩) (m + 1) cap, .int .i64 n] w fun e w' => e = .returned (.bool (blankB f n)) ∧ w = w' := by
  obtain ⟨b', off', hA, hlt, hc⟩ := hr.some_ (by omega)
  cases hA
  have hcl := hc m (by omega)
  clear hc hlt
  have hd := blank_div (f m) (n % 8)
  have HL := Lib.hid hL
  clear hL hr
  go_enter Tryd.func161, Tryd.ntmps161
  by_cases h0 : n % 8 = 0
  · have t0 : ((n : Int) % 8 == 0) = true := by simp; omega
    go_wp2
    go_ret
    refine ⟨?_, rfl⟩
    have : blankB f n = true := by simp [blankB, blank, h0]
    rw [this]
    rfl
  · have t0 : ((n : Int) % 8 == 0) = false := by simp; omega
    go_wp2
    go_ret
    refine ⟨?_, rfl⟩
    have : blankB f n = decide (f m / 256 ^ (n % 8) = 0) := by
      rw [blankB, decide_eq_decide, blank, ← HL.out]
      simp [h0]
    rw [this]
    have e : (f m : Int) / 256 ^ (n % 8) = ((f m / 256 ^ (n % 8) : Nat) : Int) := by rw [Int.natCast_ediv, Int.natCast_pow]; rfl
    show Ending.returned (Value.bool ((f m : Int) / 256 ^ (n % 8) == 0)) = _
    rw [e]
    generalize f m / 256 ^ (n % 8) = y
    congr 2
    rw [Bool.eq_iff_iff]
    simp

theorem blank_none (w : World) (A : Option Addr) (cap : Nat) (f : Nat → Nat) : Calls Tryd.prog 161 #[.slice A 0 cap, .int .i64 0] w fun e w' => e = .returned (.bool (blankB f 0)) ∧ w = w' := by
  have hb : blankB f 0 = true := by simp [blankB, blank]
  rw [hb]
  go_enter Tryd.func161, Tryd.ntmps161
  go_wp2
  go_ret
  exact ⟨rfl, rfl⟩

theorem blank_any (w : World) (A : Option Addr) (L cap : Nat) (f : Nat → Nat) (n : Nat) (hL : L ≤ 100) (hn : n ≤ 1000) (hc : L = cnt n) (hr : WRow w A L f) : Calls Tryd.prog 161 #[.slice A L cap, .int .i64 n] w fun e w' => e = .returned (.bool (blankB f n)) ∧ w = w' := by
  cases L with
  | zero =>
    have h0 : n = 0 := by unfold cnt at hc; omega
    subst h0
    exact blank_none w A cap f
  | succ m =>
    obtain ⟨b, off, rfl, hlt, hcl⟩ := hr.some_ (by omega)
    exact blank_some w b off m cap f n (by omega) hn hc hr

/-- Of a row of just so many words as the bytes need. -/
theorem okT_blank (f : Nat → Nat) (n : Nat) (hf : ∀ j, j < cnt n → f j < 18446744073709551616) : okB f (cnt n) (n : Nat) = blankB f n := by
  have h : blank f n ↔ okT f (cnt n) (n : Nat) := by
    by_cases h0 : n = 0
    · subst h0
      exact ⟨fun _ => ⟨by omega, rfl, fun i _ h => absurd h (by simp [cnt])⟩, fun _ => .inl rfl⟩
    · rw [blank_iff f n (hf _ (by unfold cnt; omega))]
      exact ⟨fun h => ⟨by omega, by simp, fun i h1 h2 => h i (by simpa using h1) h2⟩, fun h i h1 h2 => h.2.2 i (by simpa using h1) h2⟩
  unfold okB blankB
  rw [decide_eq_decide]
  exact h.symm

set_option maxRecDepth 100000 in
theorem text_neg (w : World) (A : Option Addr) (L cap : Nat) (n : Int) (h : n < 0) : Calls Tryd.prog 159 #[.slice A L cap, .int .i64 n] w fun e w' => e = .returned (.tuple #[.string emptyT, .bool false]) ∧ w = w' := by
  have t0 : decide (n < 0) = true := by simpa using h
  go_enter Tryd.func159, Tryd.ntmps159
  go_wp2
  go_step3
  go_wp2
  rw [Exit.noGoto_ret]
  go_ret2
  exact ⟨rfl, rfl⟩

set_option maxRecDepth 100000 in
theorem text_len (w : World) (A : Option Addr) (L cap : Nat) (n : Nat) (hn : n ≤ 9223372036854775807) (h : L ≠ cnt n) : Calls Tryd.prog 159 #[.slice A L cap, .int .i64 n] w fun e w' => e = .returned (.tuple #[.string emptyT, .bool false]) ∧ w = w' := by
  have t0 : decide ((n : Int) < 0) = false := by simp
  have t1 : ((L : Int) != (cnt n : Nat)) = true := by simp; omega
  have Hn := Lib.hid hn
  clear h hn
  go_enter Tryd.func159, Tryd.ntmps159
  go_wp2
  go_step3
  go_wp2_with fail
  refine (count_nat n Hn.out _).mono ?_
  rintro e w' ⟨rfl, rfl⟩
  go_wp2
  rw [Exit.noGoto_ret]
  go_ret2
  exact ⟨rfl, rfl⟩

set_option maxRecDepth 100000 in
theorem text_spoilt (w : World) (A : Option Addr) (L cap : Nat) (f : Nat → Nat) (n : Nat) (hL : L ≤ 100) (hn : n ≤ 1000) (h : L = cnt n) (hr : WRow w A L f) (hbl : blankB f n = false) : Calls Tryd.prog 159 #[.slice A L cap, .int .i64 n] w fun e w' => e = .returned (.tuple #[.string emptyT, .bool false]) ∧ w = w' := by
  have t0 : decide ((n : Int) < 0) = false := by simp
  have H := Lib.hid h
  have Hr := Lib.hid hr
  clear h hr
  go_enter Tryd.func159, Tryd.ntmps159
  go_wp2
  go_step3
  go_wp2_with fail
  refine (count_nat n (by omega) _).mono ?_
  rintro e w' ⟨rfl, rfl⟩
  rw [← H.out]
  go_wp2_with fail
  refine (blank_any _ A L cap f n hL hn H.out Hr.out).mono ?_
  rintro e w' ⟨rfl, rfl⟩
  rw [hbl]
  go_wp2
  rw [Exit.noGoto_ret]
  go_ret2
  exact ⟨rfl, rfl⟩

def cellsB (l : List UInt8) : List Value := l.map fun b => Value.int .u8 (b.toNat : Int)
theorem cellsB_length (l : List UInt8) : (cellsB l).length = l.length := by simp [cellsB]

/-- v is a row of the first m bytes, made since w. -/
structure TAt (f : Nat → Nat) (w : World) (m : Nat) (v : Value) (W : World) : Prop where
  own : W.ownsRow w.heap.size 5 1 v m (cellsB (bytesOf f m))
  below : Below w.heap.size w W

theorem info5 : (Tryd.prog.info? 5).map (fun i => (i.zero, i.size, i.bytes)) = some (some (.int .u8 0), 1, 1) := by kernel_rfl

theorem byte_spelt (f : Nat → Nat) (k j : Nat) (hj : j < 8) : IntKind.u8.wrap ((f k : Int) / 2 ^ (j * 8)) = ((UInt8.ofNat (byteAt f (8 * k + j))).toNat : Int) := by
  rw [blank_div, byteAt, show (8 * k + j) / 8 = k by omega, show (8 * k + j) % 8 = j by omega]
  generalize f k / 256 ^ j = x
  simp [IntKind.wrap, IntKind.bits, IntKind.signed]

theorem TAt.next {f : Nat → Nat} {w W w1 : World} {m : Nat} {v v' : Value} (h : TAt f w m v W)
    (ho : w1.ownsRow w.heap.size 5 1 v' (m + 1) (cellsB (bytesOf f m) ++ [.int .u8 ((UInt8.ofNat (byteAt f m)).toNat : Int)])) (hg : (W.alloc (.cells #[.int .u8 ((UInt8.ofNat (byteAt f m)).toNat : Int)] 5)).grownBy w1 v.ownBlock) : TAt f w (m + 1) v' w1 := by
  refine ⟨by rw [bytesOf_succ]; simpa [cellsB] using ho, ?_⟩
  refine (h.below.alloc h.below.size _).trans ⟨hg.os, hg.tape, hg.output, hg.size, fun k hk => hg.block k ?_ ?_⟩
  · have := h.below.size; simp; omega
  · intro e
    have := (h.own.lt k e.symm).1
    omega

theorem TAt.conv {f : Nat → Nat} {w W : World} {m : Nat} {g cap : Nat} (h : TAt f w m (.slice (some ⟨g, 0, none⟩) m cap) W) :
    (convert 195 9 (.slice (some ⟨g, 0, none⟩) m cap)).run Tryd.prog W = .ok (.string (textOf f m)) W := by
  have := run_convert_bytes_back (P := Tryd.prog) W 195 9 5 ⟨g, 0, none⟩ cap (bytesOf f m) Tryd.underlying195 Tryd.underlying5 Tryd.underlying9 (fun j hj => by
    refine h.own.cells (g := g) rfl j _ ?_
    rw [cellsB, List.getElem?_map, List.getElem?_eq_getElem hj]; rfl)
  rw [bytesOf_length] at this
  exact this

set_option maxRecDepth 100000 in
set_option maxHeartbeats 1000000 in
theorem text_good (w : World) (A : Option Addr) (L cap : Nat) (f : Nat → Nat) (n : Nat) (hL : L ≤ 100) (hn : n ≤ 800) (h : L = cnt n) (hr : WRow w A L f) (hbl : blankB f n = true) : Calls Tryd.prog 159 #[.slice A L cap, .int .i64 n] w fun e w' => e = .returned (.tuple #[.string (textOf f n), .bool true]) ∧ Below w.heap.size w w' := by
  have t0 : decide ((n : Int) < 0) = false := by simp
  have H := Lib.hid h
  have Hr := Lib.hid hr
  clear h hr
  obtain ⟨i0, hi, hz1, hz2, hz3⟩ := info_parts info5
  go_enter Tryd.func159, Tryd.ntmps159
  go_wp2
  go_step3
  go_wp2_with fail
  refine (count_nat n (by omega) _).mono ?_
  rintro e w' ⟨rfl, rfl⟩
  rw [← H.out]
  go_wp2_with fail
  refine (blank_any _ A L cap f n hL (by omega) H.out Hr.out).mono ?_
  rintro e w' ⟨rfl, rfl⟩
  rw [hbl]
  go_wp2_with (refine wpList_make_own _ rfl _ _ 195 rfl w.heap.size 5 i0 (.int .u8 0) 1 Tryd.underlying195 hi hz1 hz2 .i64 .i64 _ n rfl rfl rfl (by rw [hz3]; omega) (by unfold maxLen; omega) (Nat.le_refl _) ?_; intro w1 hown1 hgrow1)
  have HT : Hid (TAt f w 0 (.slice (some ⟨w.heap.size, 0, none⟩) 0 n) w1) := Lib.hid ⟨hown1, (Below.refl _ w).grown hgrow1 (Nat.le_refl _) (fun k h => by cases h)⟩
  clear hown1 hgrow1
  go_step3
  go_wp2
  have hLn : n ≤ 8 * L := by have := H.out; unfold cnt at this; omega
  have hLn' : ∀ k, k < L → 8 * k < n := fun k hk => by have := H.out; unfold cnt at this; omega
  go_loopw [6, 29] (fun tv kv wr => ∃ k m g c : Nat, k ≤ L ∧ kv = .int .i64 k ∧ tv = .slice (some ⟨g, 0, none⟩) m c ∧ m ≤ n ∧ (m = 8 * k ∨ m = n ∧ k = L) ∧ Hid (TAt f w m (.slice (some ⟨g, 0, none⟩) m c) wr)) (fun _ kv _ => L - (intOf kv).toNat)
  case atStart => exact ⟨0, 0, w.heap.size, n, by omega, rfl, rfl, by omega, .inl rfl, HT⟩
  case round =>
    obtain ⟨k, m, g, c, hk, rfl, rfl, hm, hmk, Ht⟩ := hrel
    by_cases hlt : k < L
    · have hm8 : m = 8 * k := by omega
      have h8n := hLn' k hlt
      obtain ⟨b, off, rfl, hb, hcl⟩ := (Hr.out.below (Ht.out.below)).some_ (by omega)
      have hcell := hcl k hlt
      clear hcl
      go_wp2
      go_loopw [6, 33] (fun tv jv wr => ∃ j m g c : Nat, j ≤ 8 ∧ jv = .int .i64 j ∧ tv = .slice (some ⟨g, 0, none⟩) m c ∧ m ≤ n ∧ m = 8 * k + j ∧ Hid (TAt f w m (.slice (some ⟨g, 0, none⟩) m c) wr)) (fun _ jv _ => 8 - (intOf jv).toNat)
      case atStart => exact ⟨0, m, g, c, by omega, rfl, rfl, hm, by omega, Ht⟩
      case round =>
        clear hmk Ht hm
        obtain ⟨j, m, g, c, hj, rfl, rfl, hm, hmj, Ht⟩ := hrel
        by_cases hj8 : j < 8
        · by_cases hmn : m = n
          · subst hmn
            have hconv := Ht.out.conv
            clear hmj
            go_wp2
            rw [Exit.noGoto_ret]
            go_ret2
            exact ⟨rfl, Ht.out.below⟩
          · have hne : ((m : Int) == (n : Int)) = false := by simp; omega
            have hbs := byte_spelt f k j hj8
            rw [← hmj] at hbs
            have Hmj := Lib.hid hmj
            clear hmj hm8
            have hzz := Ht.out.below.size
            go_wp2_with (at_builtin; (refine wpList_append_own _ rfl _ _ 195 rfl w.heap.size 5 i0 (.int .u8 0) 1 1 Tryd.underlying195 hi hz1 hz2 hz3 rfl (by decide) _ _ _ rfl (Ht.out.own.alloc _) ⟨wr.heap.size, 0, none⟩ 1 1 [.int .u8 ((UInt8.ofNat (byteAt f m)).toNat : Int)] rfl rfl (cell_one_new _ _ _) (by simp [Value.oneCell']) (by unfold maxLen; omega) (by omega) (by simp; omega) ?_); intro v' w1 hown' hgrow _; obtain ⟨g', cap', rfl⟩ := ownsRow_succ hown'; have Hn := Lib.hid (Ht.out.next hown' hgrow); clear hown' hgrow)
            go_roundw
            case rel => exact ⟨j + 1, m + 1, g', cap', by omega, by go_num, rfl, by omega, by have := Hmj.out; omega, Hn⟩
            case measure => simp [intOf]; omega
        · go_wp2
          go_roundw
          case rel => exact ⟨k + 1, m, g, c, by omega, by go_num, rfl, hm, by omega, Ht⟩
          case measure => simp [intOf]; omega
    · have hmn : m = n := by omega
      subst hmn
      have hconv := Ht.out.conv
      go_wp2
      go_ret2
      exact ⟨rfl, Ht.out.below⟩

/-- What Text answers, of any row of up to 8 words. -/
theorem text_any (w : World) (A : Option Addr) (L cap : Nat) (f : Nat → Nat) (n : Int) (hL : L ≤ 9) (hn : n ≤ 9223372036854775807) (hr : WRow w A L f) : Calls Tryd.prog 159 #[.slice A L cap, .int .i64 n] w fun e w' => e = .returned (.tuple #[.string (txt f L n), .bool (okB f L n)]) ∧ Below w.heap.size w w' := by
  by_cases h0 : n < 0
  · have ho : ¬ okT f L n := fun h => by have := h.1; omega
    rw [txt_not ho, okB_not ho]
    refine (text_neg w A L cap n h0).mono ?_
    rintro e w' ⟨rfl, rfl⟩
    exact ⟨rfl, Below.refl _ _⟩
  · obtain ⟨m, rfl⟩ : ∃ m : Nat, n = m := ⟨n.toNat, by omega⟩
    by_cases hl : L = cnt m
    · have hm : m ≤ 800 := by unfold cnt at hl; omega
      have hob : okB f L (m : Nat) = blankB f m := by
        rw [hl]; exact okT_blank f m (fun j hj => hr.lt j (by omega))
      cases hb : blankB f m with
      | true =>
        rw [txt, hob, hb, if_pos rfl, Int.toNat_natCast]
        exact text_good w A L cap f m (by omega) hm hl hr hb
      | false =>
        rw [txt, hob, hb, if_neg (by decide)]
        refine (text_spoilt w A L cap f m (by omega) (by omega) hl hr hb).mono ?_
        rintro e w' ⟨rfl, rfl⟩
        exact ⟨rfl, Below.refl _ _⟩
    · have ho : ¬ okT f L (m : Nat) := fun h => hl h.2.1
      rw [txt_not ho, okB_not ho]
      refine (text_len w A L cap m (by omega) hl).mono ?_
      rintro e w' ⟨rfl, rfl⟩
      exact ⟨rfl, Below.refl _ _⟩

set_option maxRecDepth 100000 in
theorem rcount_le (n : Int) (h : n ≤ 0) (w : World) : Calls Tryd.prog 115 #[.int .i64 n] w fun e w' => e = .returned (.int .i64 0) ∧ w = w' := by
  go_enter Tryd.func115, Tryd.ntmps115
  go_wp2
  go_ret
  exact ⟨rfl, rfl⟩
set_option maxRecDepth 100000 in
theorem rcount_pos (n : Nat) (h0 : 1 ≤ n) (h1 : n ≤ 9223372036854775807) (w : World) : Calls Tryd.prog 115 #[.int .i64 n] w fun e w' => e = .returned (.int .i64 (((n + 7) / 8 : Nat) : Int)) ∧ w = w' := by
  have h2 : (((n + 7) / 8 : Nat) : Int) = ((n : Int) - 1) / 8 + 1 := by omega
  rw [h2]
  go_enter Tryd.func115, Tryd.ntmps115
  go_wp2
  go_ret
  exact ⟨rfl, rfl⟩
theorem rcount_nat (n : Nat) (h1 : n ≤ 9223372036854775807) (w : World) : Calls Tryd.prog 115 #[.int .i64 n] w fun e w' => e = .returned (.int .i64 (cnt n : Nat)) ∧ w = w' := by
  by_cases h : 1 ≤ n
  · exact rcount_pos n h h1 w
  · have h0 : n = 0 := by omega
    subst h0
    exact rcount_le 0 (by omega) w

set_option maxRecDepth 100000 in
theorem rtext_neg (w : World) (A : Option Addr) (L cap : Nat) (n : Int) (h : n < 0) : Calls Tryd.prog 116 #[.slice A L cap, .int .i64 n] w fun e w' => e = .returned (.tuple #[.string emptyT, .bool false]) ∧ w = w' := by
  have t0 : decide (n < 0) = true := by simpa using h
  go_enter Tryd.func116, Tryd.ntmps116
  go_wp2
  go_ret2
  exact ⟨rfl, rfl⟩

set_option maxRecDepth 100000 in
theorem rtext_len (w : World) (A : Option Addr) (L cap : Nat) (n : Nat) (hn : n ≤ 9223372036854775807) (h : L ≠ cnt n) : Calls Tryd.prog 116 #[.slice A L cap, .int .i64 n] w fun e w' => e = .returned (.tuple #[.string emptyT, .bool false]) ∧ w = w' := by
  have t0 : decide ((n : Int) < 0) = false := by simp
  have t1 : ((L : Int) != (cnt n : Nat)) = true := by simp; omega
  have Hn := Lib.hid hn
  clear h hn
  go_enter Tryd.func116, Tryd.ntmps116
  go_wp2_with fail
  refine (rcount_nat n Hn.out _).mono ?_
  rintro e w' ⟨rfl, rfl⟩
  go_wp2
  go_ret2
  exact ⟨rfl, rfl⟩

/-- The row's value, and the text that it turns into. -/
theorem TAt.look {f : Nat → Nat} {w W : World} {m : Nat} {v : Value} (h : TAt f w m v W) : ∃ a c, v = .slice a m c ∧ (convert 195 9 v).run Tryd.prog W = .ok (.string (textOf f m)) W := by
  rcases h.own.2 with ⟨rfl, rfl⟩ | ⟨g, cap, cur, rfl, _⟩
  · exact ⟨none, 0, rfl, run_convert_bytes_nil W 195 5 Tryd.underlying195 Tryd.underlying5 0 0 9 Tryd.underlying9⟩
  · exact ⟨_, _, rfl, h.conv⟩

set_option maxRecDepth 100000 in
set_option maxHeartbeats 1000000 in
theorem rtext_go (w : World) (A : Option Addr) (L cap : Nat) (f : Nat → Nat) (n : Nat) (hL : L ≤ 9) (hn : n ≤ 800) (h : L = cnt n) (hr : WRow w A L f) : Calls Tryd.prog 116 #[.slice A L cap, .int .i64 n] w fun e w' => e = .returned (.tuple #[.string (txt f L n), .bool (okB f L n)]) ∧ Below w.heap.size w w' := by
  have t0 : decide ((n : Int) < 0) = false := by simp
  have H := Lib.hid h
  have Hr := Lib.hid hr
  have hLn : n ≤ 8 * L := by have := H.out; unfold cnt at this; omega
  clear h hr
  obtain ⟨i0, hi, hz1, hz2, hz3⟩ := info_parts info5
  go_enter Tryd.func116, Tryd.ntmps116
  go_wp2_with fail
  refine (rcount_nat n (by omega) _).mono ?_
  rintro e w' ⟨rfl, rfl⟩
  rw [← H.out]
  go_wp2
  go_loopw [6, 7] (fun tv iv wr => ∃ (i m : Nat) (a : Option Addr) (c : Nat), i ≤ 8 * L ∧ iv = .int .i64 i ∧ tv = .slice a m c ∧ (i ≤ n ∧ m = i ∨ n ≤ i ∧ m = n) ∧ (∀ t, n ≤ t → t < i → byteAt f t = 0) ∧ Hid (TAt f w m (.slice a m c) wr)) (fun _ iv _ => 8 * L - (intOf iv).toNat)
  case atStart => exact ⟨0, 0, none, 0, by omega, rfl, rfl, .inl ⟨by omega, rfl⟩, fun t _ h => absurd h (by omega), Lib.hid ⟨World.ownsRow_nil _ _ _ _, Below.refl _ _⟩⟩
  case round =>
    obtain ⟨i, m, a, c, hi8, rfl, rfl, hmi, hz, Ht⟩ := hrel
    by_cases hlt : i < 8 * L
    · obtain ⟨b, off, rfl, hb, hcl⟩ := (Hr.out.below (Ht.out.below)).some_ (by omega)
      have hcell := hcl (i / 8) (by omega)
      have hbs := byte_spelt f (i / 8) (i % 8) (by omega)
      rw [show 8 * (i / 8) + i % 8 = i by omega] at hbs
      clear hcl
      by_cases hin : i < n
      · have hm : m = i := by omega
        subst hm
        clear hmi
        have hzz := Ht.out.below.size
        go_wp2_with (at_builtin; (refine wpList_append_own _ rfl _ _ 195 rfl w.heap.size 5 i0 (.int .u8 0) 1 1 Tryd.underlying195 hi hz1 hz2 hz3 rfl (by decide) _ _ _ rfl (Ht.out.own.alloc _) ⟨wr.heap.size, 0, none⟩ 1 1 [.int .u8 ((UInt8.ofNat (byteAt f m)).toNat : Int)] rfl rfl (cell_one_new _ _ _) (by simp [Value.oneCell']) (by unfold maxLen; omega) (by omega) (by simp; omega) ?_); intro v' w1 hown' hgrow _; obtain ⟨g', cap', rfl⟩ := ownsRow_succ hown'; have Hn := Lib.hid (Ht.out.next hown' hgrow); clear hown' hgrow)
        go_roundw
        case rel => exact ⟨m + 1, m + 1, _, cap', by omega, by go_num, rfl, .inl ⟨by omega, rfl⟩, fun t h1 h2 => absurd h1 (by omega), Hn⟩
        case measure => simp [intOf]; omega
      · have hm : m = n := by omega
        clear hmi
        by_cases hb0 : byteAt f i = 0
        · rw [hb0] at hbs
          have Hm := Lib.hid hm
          clear hm
          have Hz : Hid (∀ t, n ≤ t → t < i + 1 → byteAt f t = 0) := Lib.hid fun t h1 h2 => by
            by_cases e : t = i
            · rw [e]; exact hb0
            · exact hz t h1 (by omega)
          clear hz hb0
          go_wp2
          go_roundw
          case rel => exact ⟨i + 1, m, a, c, by omega, by go_num, rfl, .inr ⟨by omega, Hm.out⟩, Hz.out, Ht⟩
          case measure => simp [intOf]; omega
        · have ho : ¬ okT f L (n : Nat) := fun h => hb0 (h.2.2 i (by simp; omega) hlt)
          have hne : ((UInt8.ofNat (byteAt f i)).toNat : Int) ≠ 0 := by
            have := byteAt_lt f i
            simp; omega
          generalize ((UInt8.ofNat (byteAt f i)).toNat : Int) = y at hbs hne
          have Ho := Lib.hid ho
          have Hm := Lib.hid hm
          clear hm hz ho hb0
          have hd : (y != 0) = true := by simpa using hne
          go_wp2
          go_ret2
          exact ⟨by rw [txt_not Ho.out, okB_not Ho.out]; rfl, Ht.out.below⟩
    · have hm : m = n := by omega
      subst hm
      have ho : okT f L (m : Nat) := ⟨by omega, by rw [Int.toNat_natCast]; exact H.out, fun t h1 h2 => hz t (by simpa using h1) (by omega)⟩
      have Ho := Lib.hid ho
      obtain ⟨a', c', hv, hconv⟩ := Ht.out.look
      cases hv
      clear hmi hz ho
      go_wp2
      go_ret2
      exact ⟨by rw [txt_of Ho.out, okB_of Ho.out, Int.toNat_natCast]; rfl, Ht.out.below⟩

theorem rtext_any (w : World) (A : Option Addr) (L cap : Nat) (f : Nat → Nat) (n : Int) (hL : L ≤ 9) (hn : n ≤ 9223372036854775807) (hr : WRow w A L f) : Calls Tryd.prog 116 #[.slice A L cap, .int .i64 n] w fun e w' => e = .returned (.tuple #[.string (txt f L n), .bool (okB f L n)]) ∧ Below w.heap.size w w' := by
  by_cases h0 : n < 0
  · have ho : ¬ okT f L n := fun h => by have := h.1; omega
    rw [txt_not ho, okB_not ho]
    refine (rtext_neg w A L cap n h0).mono ?_
    rintro e w' ⟨rfl, rfl⟩
    exact ⟨rfl, Below.refl _ _⟩
  · obtain ⟨m, rfl⟩ : ∃ m : Nat, n = m := ⟨n.toNat, by omega⟩
    by_cases hl : L = cnt m
    · exact rtext_go w A L cap f m hL (by unfold cnt at hl; omega) hl hr
    · have ho : ¬ okT f L (m : Nat) := fun h => hl h.2.1
      rw [txt_not ho, okB_not ho]
      refine (rtext_len w A L cap m (by omega) hl).mono ?_
      rintro e w' ⟨rfl, rfl⟩
      exact ⟨rfl, Below.refl _ _⟩

end Go.Proofs.YtkhbhkllnigbgaaDoor.Bt
