/- isBlank, and Text of rows that are no text's. -/
import Derived.Test.YthelhimaoeimbaaBytes
namespace Go.Proofs.Ythelhimaoeimbaa
open Go.ChangeShapes Go.WideShapes Go.ChangeAt Go.RowKit

/-- A row of L words. -/
structure WRow (W : World) (A : Option Addr) (L : Nat) (f : Nat → Nat) : Prop where
  lt : ∀ j, j < L → f j < 18446744073709551616
  some_ : 0 < L → ∃ b off, A = some ⟨b, off, none⟩ ∧ b < W.heap.size ∧ ∀ j, j < L → W.cell? ⟨b, off + j, none⟩ = some (.int .u64 (f j : Nat))
theorem WRow.below {W W' : World} {A : Option Addr} {L : Nat} {f : Nat → Nat} (h : WRow W A L f) (hb : Below W.heap.size W W') : WRow W' A L f :=
  ⟨h.lt, fun h0 => by
    obtain ⟨b, off, hA, hlt, hc⟩ := h.some_ h0
    exact ⟨b, off, hA, Nat.lt_of_lt_of_le hlt hb.size, fun j hj => (hb.cell (p := ⟨b, off + j, none⟩) hlt).trans (hc j hj)⟩⟩

theorem count_nat (n : Nat) (h1 : n ≤ 9223372036854775807) (w : World) : Calls Try.prog 12 #[.int .i64 n] w fun e w' => e = .returned (.int .i64 (cnt n : Nat)) ∧ w = w' := by
  by_cases h : 1 ≤ n
  · exact count_pos n h h1 w
  · have h0 : n = 0 := by omega
    subst h0
    exact count_le 0 (by omega) w

/-- What isBlank answers. -/
noncomputable def blankB (f : Nat → Nat) (n : Nat) : Bool := @decide (blank f n) (Classical.propDecidable _)

theorem blank_div (x k : Nat) : (x : Int) / 2 ^ (k * 8) = ((x / 256 ^ k : Nat) : Int) := by
  rw [Int.natCast_ediv, ← pow256, Int.natCast_pow]; rfl

set_option maxRecDepth 100000 in
theorem blank_some (w : World) (b off m cap : Nat) (f : Nat → Nat) (n : Nat) (hm : m ≤ 100) (hn : n ≤ 1000) (hL : m + 1 = cnt n) (hr : WRow w (some ⟨b, off, none⟩) (m + 1) f) : Calls Try.prog 17 #[.slice (some ⟨b, off, none⟩) (m + 1) cap, .int .i64 n] w fun e w' => e = .returned (.bool (blankB f n)) ∧ w = w' := by
  obtain ⟨b', off', hA, hlt, hc⟩ := hr.some_ (by omega)
  cases hA
  have hcl := hc m (by omega)
  clear hc hlt
  have hd := blank_div (f m) (n % 8)
  have HL := Lib.hid hL
  clear hL hr
  go_enter Try.func17, Try.ntmps17
  by_cases h0 : n % 8 = 0
  · have t0 : ((n : Int) % 8 == 0) = true := by simp; omega
    go_wp2
    go_ret
    refine ⟨?_, rfl⟩
    have : blankB f n = true := by simp [blankB, blank, h0]
    rw [this]
    rfl
  · have t0 : ((n : Int) % 8 == 0) = false := by simp; omega
    go_wp2
    go_ret
    refine ⟨?_, rfl⟩
    have : blankB f n = decide (f m / 256 ^ (n % 8) = 0) := by
      rw [blankB, decide_eq_decide, blank, ← HL.out]
      simp [h0]
    rw [this]
    have e : (f m : Int) / 256 ^ (n % 8) = ((f m / 256 ^ (n % 8) : Nat) : Int) := by rw [Int.natCast_ediv, Int.natCast_pow]; rfl
    show Ending.returned (Value.bool ((f m : Int) / 256 ^ (n % 8) == 0)) = _
    rw [e]
    generalize f m / 256 ^ (n % 8) = y
    congr 2
    rw [Bool.eq_iff_iff]
    simp

theorem blank_none (w : World) (A : Option Addr) (cap : Nat) (f : Nat → Nat) : Calls Try.prog 17 #[.slice A 0 cap, .int .i64 0] w fun e w' => e = .returned (.bool (blankB f 0)) ∧ w = w' := by
  have hb : blankB f 0 = true := by simp [blankB, blank]
  rw [hb]
  go_enter Try.func17, Try.ntmps17
  go_wp2
  go_ret
  exact ⟨rfl, rfl⟩

theorem blank_any (w : World) (A : Option Addr) (L cap : Nat) (f : Nat → Nat) (n : Nat) (hL : L ≤ 100) (hn : n ≤ 1000) (hc : L = cnt n) (hr : WRow w A L f) : Calls Try.prog 17 #[.slice A L cap, .int .i64 n] w fun e w' => e = .returned (.bool (blankB f n)) ∧ w = w' := by
  cases L with
  | zero =>
    have h0 : n = 0 := by unfold cnt at hc; omega
    subst h0
    exact blank_none w A cap f
  | succ m =>
    obtain ⟨b, off, rfl, hlt, hcl⟩ := hr.some_ (by omega)
    exact blank_some w b off m cap f n (by omega) hn hc hr

/-- Of a row of just so many words as the bytes need. -/
theorem okT_blank (f : Nat → Nat) (n : Nat) (hf : ∀ j, j < cnt n → f j < 18446744073709551616) : okB f (cnt n) (n : Nat) = blankB f n := by
  have h : blank f n ↔ okT f (cnt n) (n : Nat) := by
    by_cases h0 : n = 0
    · subst h0
      exact ⟨fun _ => ⟨by omega, rfl, fun i _ h => absurd h (by simp [cnt])⟩, fun _ => .inl rfl⟩
    · rw [blank_iff f n (hf _ (by unfold cnt; omega))]
      exact ⟨fun h => ⟨by omega, by simp, fun i h1 h2 => h i (by simpa using h1) h2⟩, fun h i h1 h2 => h.2.2 i (by simpa using h1) h2⟩
  unfold okB blankB
  rw [decide_eq_decide]
  exact h.symm

set_option maxRecDepth 100000 in
theorem text_neg (w : World) (A : Option Addr) (L cap : Nat) (n : Int) (h : n < 0) : Calls Try.prog 7 #[.slice A L cap, .int .i64 n] w fun e w' => e = .returned (.tuple #[.string emptyT, .bool false]) ∧ w = w' := by
  have t0 : decide (n < 0) = true := by simpa using h
  go_enter Try.func7, Try.ntmps7
  go_wp2
  go_step3
  go_wp2
  rw [Exit.noGoto_ret]
  go_ret2
  exact ⟨rfl, rfl⟩

set_option maxRecDepth 100000 in
theorem text_len (w : World) (A : Option Addr) (L cap : Nat) (n : Nat) (hn : n ≤ 9223372036854775807) (h : L ≠ cnt n) : Calls Try.prog 7 #[.slice A L cap, .int .i64 n] w fun e w' => e = .returned (.tuple #[.string emptyT, .bool false]) ∧ w = w' := by
  have t0 : decide ((n : Int) < 0) = false := by simp
  have t1 : ((L : Int) != (cnt n : Nat)) = true := by simp; omega
  have Hn := Lib.hid hn
  clear h hn
  go_enter Try.func7, Try.ntmps7
  go_wp2
  go_step3
  go_wp2_with fail
  refine (count_nat n Hn.out _).mono ?_
  rintro e w' ⟨rfl, rfl⟩
  go_wp2
  rw [Exit.noGoto_ret]
  go_ret2
  exact ⟨rfl, rfl⟩

set_option maxRecDepth 100000 in
theorem text_spoilt (w : World) (A : Option Addr) (L cap : Nat) (f : Nat → Nat) (n : Nat) (hL : L ≤ 100) (hn : n ≤ 1000) (h : L = cnt n) (hr : WRow w A L f) (hbl : blankB f n = false) : Calls Try.prog 7 #[.slice A L cap, .int .i64 n] w fun e w' => e = .returned (.tuple #[.string emptyT, .bool false]) ∧ w = w' := by
  have t0 : decide ((n : Int) < 0) = false := by simp
  have H := Lib.hid h
  have Hr := Lib.hid hr
  clear h hr
  go_enter Try.func7, Try.ntmps7
  go_wp2
  go_step3
  go_wp2_with fail
  refine (count_nat n (by omega) _).mono ?_
  rintro e w' ⟨rfl, rfl⟩
  rw [← H.out]
  go_wp2_with fail
  refine (blank_any _ A L cap f n hL hn H.out Hr.out).mono ?_
  rintro e w' ⟨rfl, rfl⟩
  rw [hbl]
  go_wp2
  rw [Exit.noGoto_ret]
  go_ret2
  exact ⟨rfl, rfl⟩

end Go.Proofs.Ythelhimaoeimbaa
