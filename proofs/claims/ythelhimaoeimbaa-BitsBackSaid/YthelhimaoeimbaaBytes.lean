/- The bytes of a row of words, and which rows are a text's. -/
import Derived.Test.YthelhimaoeimbaaLift
namespace Go.Proofs.Ythelhimaoeimbaa
open Go.ChangeShapes Go.WideShapes Go.ChangeAt Go.RowKit

def cnt (n : Nat) : Nat := (n + 7) / 8
/-- The i-th byte of a row of words. -/
def byteAt (f : Nat → Nat) (i : Nat) : Nat := f (i / 8) / 256 ^ (i % 8) % 256
def bytesOf (f : Nat → Nat) (n : Nat) : List UInt8 := (List.range n).map fun i => UInt8.ofNat (byteAt f i)
def textOf (f : Nat → Nat) (n : Nat) : ByteArray := ⟨(bytesOf f n).toArray⟩
def emptyT : ByteArray := ⟨#[]⟩
/-- L words are n bytes of a text. -/
def okT (f : Nat → Nat) (L : Nat) (n : Int) : Prop := 0 ≤ n ∧ L = cnt n.toNat ∧ ∀ i, n.toNat ≤ i → i < 8 * L → byteAt f i = 0
noncomputable def okB (f : Nat → Nat) (L : Nat) (n : Int) : Bool := @decide (okT f L n) (Classical.propDecidable _)
noncomputable def txt (f : Nat → Nat) (L : Nat) (n : Int) : ByteArray := if okB f L n then textOf f n.toNat else emptyT

theorem okB_of {f : Nat → Nat} {L : Nat} {n : Int} (h : okT f L n) : okB f L n = true := by simp [okB, h]
theorem okB_not {f : Nat → Nat} {L : Nat} {n : Int} (h : ¬ okT f L n) : okB f L n = false := by simp [okB, h]
theorem txt_of {f : Nat → Nat} {L : Nat} {n : Int} (h : okT f L n) : txt f L n = textOf f n.toNat := by simp [txt, okB_of h]
theorem txt_not {f : Nat → Nat} {L : Nat} {n : Int} (h : ¬ okT f L n) : txt f L n = emptyT := by simp [txt, okB_not h]

theorem byteAt_lt (f : Nat → Nat) (i : Nat) : byteAt f i < 256 := Nat.mod_lt _ (by decide)
theorem bytesOf_length (f : Nat → Nat) (n : Nat) : (bytesOf f n).length = n := by simp [bytesOf]
theorem bytesOf_succ (f : Nat → Nat) (n : Nat) : bytesOf f (n + 1) = bytesOf f n ++ [UInt8.ofNat (byteAt f n)] := by
  simp [bytesOf, List.range_succ]
theorem textOf_size (f : Nat → Nat) (n : Nat) : (textOf f n).size = n := by
  show (bytesOf f n).toArray.size = n
  simp [bytesOf_length]

/-- The bytes of a word from the u-th one on are 0 just where the word, moved down by so many, is. -/
theorem high_zero (X u : Nat) (hX : X < 18446744073709551616) (hu : u < 8) : X / 256 ^ u = 0 ↔ ∀ k, u ≤ k → k < 8 → X / 256 ^ k % 256 = 0 := by
  constructor
  · intro h k hk _
    have : X / 256 ^ k ≤ X / 256 ^ u := Nat.div_le_div_left (Nat.pow_le_pow_right (by decide) hk) (Nat.pow_pos (by decide))
    rw [h] at this
    rw [Nat.le_zero.1 this]
  · intro h
    have h8 : X / 256 ^ 8 = 0 := Nat.div_eq_of_lt hX
    have step : ∀ k, k < 8 → u ≤ k → X / 256 ^ (k + 1) = 0 → X / 256 ^ k = 0 := by
      intro k hk huk h1
      have h2 := h k huk hk
      rw [Nat.pow_succ, ← Nat.div_div_eq_div_mul] at h1
      omega
    have all : ∀ d, d ≤ 8 → u ≤ 8 - d → X / 256 ^ (8 - d) = 0 := by
      intro d
      induction d with
      | zero => intro _ _; exact h8
      | succ d ih =>
        intro hd hud
        have := ih (by omega) (by omega)
        refine step (8 - (d + 1)) (by omega) hud ?_
        rw [show 8 - (d + 1) + 1 = 8 - d by omega]
        exact this
    have := all (8 - u) (by omega) (by omega)
    rwa [show 8 - (8 - u) = u by omega] at this

theorem pow256 (k : Nat) : (2 : Nat) ^ (k * 8) = 256 ^ k := by rw [show (256 : Nat) = 2 ^ 8 from rfl, ← Nat.pow_mul, Nat.mul_comm]

/-- Blank behind the n-th byte. -/
def blank (f : Nat → Nat) (n : Nat) : Prop := n % 8 = 0 ∨ f (cnt n - 1) / 256 ^ (n % 8) = 0
theorem blank_iff (f : Nat → Nat) (n : Nat) (hf : f (cnt n - 1) < 18446744073709551616) : blank f n ↔ ∀ i, n ≤ i → i < 8 * cnt n → byteAt f i = 0 := by
  unfold blank cnt at *
  by_cases h0 : n % 8 = 0
  · exact ⟨fun _ i h1 h2 => absurd h2 (by omega), fun _ => .inl h0⟩
  · have hq : (n + 7) / 8 - 1 = n / 8 := by omega
    rw [hq] at hf ⊢
    rw [high_zero _ _ hf (by omega)]
    constructor
    · rintro (h | h) i h1 h2
      · exact absurd h h0
      · have e : i / 8 = n / 8 := by omega
        rw [byteAt, e]
        exact h (i % 8) (by omega) (by omega)
    · intro h
      refine .inr fun k hk hk8 => ?_
      have := h (n / 8 * 8 + k) (by omega) (by omega)
      rw [byteAt, show (n / 8 * 8 + k) / 8 = n / 8 by omega, show (n / 8 * 8 + k) % 8 = k by omega] at this
      exact this

/-- The digits of a number by 256. -/
theorem leN_digit : ∀ (l : List UInt8) (k : Nat), leN l / 256 ^ k % 256 = (l[k]?.map UInt8.toNat).getD 0
  | [], k => by simp [leN]
  | b :: l, 0 => by
    have := b.toNat_lt
    simp [leN]
  | b :: l, k + 1 => by
    have hb := b.toNat_lt
    rw [leN, Nat.pow_succ, Nat.mul_comm (256 ^ k), ← Nat.div_div_eq_div_mul, show (b.toNat + 256 * leN l) / 256 = leN l by omega, leN_digit l k]
    simp

theorem wordOf_lt (s : ByteArray) (i : Nat) : wordOf s i < 18446744073709551616 := by
  have h := leN_lt ((s.data.toList.drop (i * 8)).take 8)
  have h2 : ((s.data.toList.drop (i * 8)).take 8).length ≤ 8 := by simp; omega
  have h3 : (256 : Nat) ^ ((s.data.toList.drop (i * 8)).take 8).length ≤ 256 ^ 8 := Nat.pow_le_pow_right (by decide) h2
  exact Nat.lt_of_lt_of_le h h3

theorem byteAt_word (s : ByteArray) (i : Nat) : byteAt (wordOf s) i = (s.data.toList[i]?.map UInt8.toNat).getD 0 := by
  rw [byteAt, wordOf, leN_digit, List.getElem?_take_of_lt (by omega), List.getElem?_drop, show i / 8 * 8 + i % 8 = i by omega]

theorem okT_words (s : ByteArray) : okT (wordOf s) (cnt s.size) (s.size : Nat) := by
  refine ⟨by omega, by simp, fun i h1 _ => ?_⟩
  rw [byteAt_word, List.getElem?_eq_none (by simp at h1; simpa using h1)]
  rfl
theorem textOf_words (s : ByteArray) : textOf (wordOf s) s.size = s := by
  have : bytesOf (wordOf s) s.size = s.data.toList := by
    apply List.ext_getElem
    · simp [bytesOf]
    · intro i h1 h2
      simp only [bytesOf, List.getElem_map, List.getElem_range]
      rw [byteAt_word, List.getElem?_eq_getElem h2]
      simp
  rw [textOf, this]

end Go.Proofs.Ythelhimaoeimbaa
