/- Words as a schema: unpacked, Equal, Read. -/
import Derived.Test.YtojlimpooeehhaaDoorQApp
namespace Go.Proofs.YtojlimpooeehhaaDoor
open Go.ChangeShapes Go.WideShapes Go.ChangeAt Go.RowKit
theorem and7 (n : Nat) (h : n < 18446744073709551616) : bits .and .u64 (n : Int) 7 = ((n % 8 : Nat) : Int) := by
  have e := u64_and_nat n 7 h (by omega)
  have e2 : n &&& 7 = n % 8 := Nat.and_two_pow_sub_one_eq_mod n 3
  rw [e2] at e
  exact e

theorem mk_fields (n : Nat) (hn : n ≤ 1000) (w : World) : (Instr.makeSlice 65 (.int .u64 (n : Int)) (.int .u64 (n : Int))).run Tryd.prog w = .ok (.slice (some ⟨w.heap.size, 0, none⟩) n n) (w.alloc (.cells (madeCells #[.int .i64 0, .int .i64 0] (n * 2)) 64)) := by
  obtain ⟨i, hi, hz1, hz2, hz3⟩ := info_parts info_field
  have hr := run_make (P := Tryd.prog) w 65 64 i (.agg #[.int .i64 0, .int .i64 0]) Tryd.underlying65 hi hz1 .u64 .u64 n n (by omega) (Int.le_refl _) (by rw [hz3]; omega) (by omega)
  simp only [Int.toNat_natCast, hz2] at hr
  exact hr
theorem made_fields (w : World) (n : Nat) : (w.alloc (.cells (madeCells #[.int .i64 0, .int .i64 0] (n * 2)) 64)).rowIs w.heap.size 64 (n * 2) (fun _ => .int .i64 0) := by
  have h := World.rowIs_alloc w (madeCells #[.int .i64 0, .int .i64 0] (n * 2)) 64 (fun _ => .int .i64 0) (by
    intro j hj
    rw [size_madeCells] at hj
    simp only [madeCells, Array.getElem?_map]
    rw [Array.getElem?_eq_getElem (by simpa using hj)]
    simp only [Option.map_some, Array.getElem_range]
    have h2 : j % 2 = 0 ∨ j % 2 = 1 := by omega
    rcases h2 with h2 | h2
    · simp [h2]
    · simp [h2])
  rw [size_madeCells] at h
  exact h
/-- The cells of a word's fields, of which p are written. -/
def uc (x p j : Nat) : Value := .int .i64 (if j < p then (if j % 2 = 0 then ((dig (x / 8) (j / 2) % 8 : Nat) : Int) else ((dig (x / 8) (j / 2) / 8 : Nat) : Int)) else 0)
theorem uc_even (x m j : Nat) : (if j = m * 2 then Value.int .i64 ((dig (x / 8) m % 8 : Nat) : Int) else uc x (m * 2) j) = uc x (m * 2 + 1) j := by
  unfold uc
  by_cases e : j = m * 2
  · subst e
    rw [if_pos rfl, if_pos (by omega), if_pos (by omega), show m * 2 / 2 = m by omega]
  · by_cases h : j < m * 2
    · simp only [if_neg e, if_pos h, if_pos (show j < m * 2 + 1 by omega)]
    · simp only [if_neg e, if_neg h, if_neg (show ¬ j < m * 2 + 1 by omega)]
theorem uc_odd (x m j : Nat) : (if j = m * 2 + 1 then Value.int .i64 ((dig (x / 8) m / 8 : Nat) : Int) else uc x (m * 2 + 1) j) = uc x ((m + 1) * 2) j := by
  unfold uc
  by_cases e : j = m * 2 + 1
  · subst e
    rw [if_pos rfl, if_pos (by omega), if_neg (by omega), show (m * 2 + 1) / 2 = m by omega]
  · by_cases h : j < m * 2 + 1
    · simp only [if_neg e, if_pos h, if_pos (show j < (m + 1) * 2 by omega)]
    · simp only [if_neg e, if_neg h, if_neg (show ¬ j < (m + 1) * 2 by omega)]
theorem dig_kind (x m : Nat) : x / 2 ^ (3 + m * 6) % 8 = dig (x / 8) m % 8 := by
  rw [dig, Nat.pow_add, pow6, ← Nat.div_div_eq_div_mul]
  show x / 8 / 64 ^ m % 8 = x / 8 / 64 ^ m % 64 % 8
  generalize x / 8 / 64 ^ m = y
  omega
theorem dig_type (x m : Nat) : x / 2 ^ (3 + m * 6 + 3) % 8 = dig (x / 8) m / 8 := by
  rw [dig, Nat.pow_add, Nat.pow_add, pow6, ← Nat.div_div_eq_div_mul, ← Nat.div_div_eq_div_mul]
  show x / 8 / 64 ^ m / 8 % 8 = x / 8 / 64 ^ m % 64 / 8
  generalize x / 8 / 64 ^ m = y
  omega
/-- The part of a word at bit p. -/
theorem part_at (x p : Nat) (hx : x < 18446744073709551616) : bits .and .u64 ((x : Int) / 2 ^ p) 7 = ((x / 2 ^ p % 8 : Nat) : Int) := by
  have e : (x : Int) / 2 ^ p = ((x / 2 ^ p : Nat) : Int) := by rw [Int.natCast_ediv, Int.natCast_pow]; rfl
  rw [e]
  exact and7 _ (Nat.lt_of_le_of_lt (Nat.div_le_self _ _) hx)

set_option maxRecDepth 100000 in
set_option maxHeartbeats 2000000 in
theorem equal_any (w : World) (A A' : Option Addr) (L L' c c' : Nat) (f f' : Nat → Nat) (hL : L ≤ 1000) (hr : WRow w A L f) (hr' : WRow w A' L' f') : Calls Tryd.prog 43 #[.slice A L c, .slice A' L' c'] w fun e w' => e = .returned (.bool (sameWB L L' f f')) ∧ Below w.heap.size w w' := by
  have Hr := Lib.hid hr
  have Hr' := Lib.hid hr'
  clear hr hr'
  by_cases hLL : L = L'
  · subst hLL
    go_enter Tryd.func43, Tryd.ntmps43
    go_wp2
    go_loopw [13] (fun iv wr => ∃ i m : Nat, i ≤ L ∧ iv = .int .i64 i ∧ wr = w.drewN m ∧ ∀ j, j < i → f j = f' j) (fun iv _ => L - (intOf iv).toNat)
    case atStart => exact ⟨0, 0, by omega, rfl, rfl, fun j hj => by omega⟩
    case round =>
      obtain ⟨i, m, hi, rfl, rfl, hp⟩ := hrel
      have HP := Lib.hid hp
      clear hp
      by_cases hlt : i < L
      · obtain ⟨b, off, rfl, hb, hcl⟩ := Hr.out.some_ (by omega)
        obtain ⟨b', off', rfl, hb', hcl'⟩ := Hr'.out.some_ (by omega)
        have h1 := hcl i hlt
        have h2 := hcl' i hlt
        clear hcl hcl'
        have h3 := fun n : Nat => show (w.drewN n).cell? _ = _ from h1
        have h4 := fun n : Nat => show (w.drewN n).cell? _ = _ from h2
        by_cases he : f i = f' i
        · rw [← he] at h2 h4
          go_wp2
          go_quiet (fail)
          go_wp2
          go_roundw
          case rel =>
            refine ⟨i + 1, _, by omega, by go_num, rfl, fun j hj => ?_⟩
            by_cases e : j = i
            · rw [e]; exact he
            · exact HP.out j (by omega)
          case measure => simp [intOf]; omega
        · have hne : ((f i : Int) != (f' i : Int)) = true := by simp; omega
          have hne' : (f i != f' i) = true := by simp; omega
          have HF : Hid (sameWB L L f f' = false) := Lib.hid (sameWB_false fun h => he (h.2 i hlt))
          go_wp2
          go_quiet (fail)
          go_wp2
          go_ret
          exact ⟨ret_bool HF.out.symm, below_drewN (below_drewN (Below.refl _ _) _) _⟩
      · have he : i = L := by omega
        subst he
        go_wp2
        go_ret
        exact ⟨ret_bool (sameWB_true ⟨rfl, HP.out⟩).symm, below_drewN (Below.refl _ _) _⟩
  · rw [sameWB_false fun h => hLL h.1]
    have hne : ((L : Int) != (L' : Int)) = true := by simp; omega
    have hne' : (L != L') = true := by simp; omega
    go_enter Tryd.func43, Tryd.ntmps43
    go_wp2
    first
      | (go_ret; exact ⟨rfl, Below.refl _ _⟩)
      | (go_quiet (fail); go_wp2; go_ret; exact ⟨rfl, below_drewN (Below.refl _ _) _⟩)

/-- Read, when m words are unpacked: the schema lies at g, its types at gs. -/
structure RD (w : World) (g L : Nat) (f gs : Nat → Nat) (m : Nat) (W : World) : Prop where
  lo : w.heap.size ≤ g
  row : W.rowIs g 65 L (fun i => if i < m then .slice (some ⟨gs i, 0, none⟩) (f i % 8) (f i % 8) else .slice none 0 0)
  rows : ∀ i, i < m → gs i ≠ g ∧ FRow W (some ⟨gs i, 0, none⟩) (f i % 8) (fun j => ((dig (f i / 8) j % 8 : Nat) : Int)) (fun j => ((dig (f i / 8) j / 8 : Nat) : Int))
  below : Below w.heap.size w W
theorem RD.fresh {w : World} {g L : Nat} {f gs : Nat → Nat} {m : Nat} {W W' : World} (h : RD w g L f gs m W) (hb : Below W.heap.size W W') : RD w g L f gs m W' :=
  ⟨h.lo, h.row.of_block (hb.block _ h.row.lt), fun i hi => ⟨(h.rows i hi).1, (h.rows i hi).2.below hb⟩, Below.step h.below hb h.below.size⟩
theorem RD.put {w : World} {g L : Nat} {f gs : Nat → Nat} {m : Nat} {W : World} (h : RD w g L f gs m W) (b : Nat) (hb : b ≠ g) (hf : FRow W (some ⟨b, 0, none⟩) (f m % 8) (fun j => ((dig (f m / 8) j % 8 : Nat) : Int)) (fun j => ((dig (f m / 8) j / 8 : Nat) : Int))) : RD w g L f (adPut gs m b) (m + 1) (W.setCell ⟨g, m, none⟩ (.slice (some ⟨b, 0, none⟩) (f m % 8) (f m % 8))) := by
  have hz : W.heap.size ≤ (W.setCell ⟨g, m, none⟩ (.slice (some ⟨b, 0, none⟩) (f m % 8) (f m % 8))).heap.size := ((Below.refl 0 W).setCell (p := ⟨g, m, none⟩) (Nat.zero_le _) _).size
  refine ⟨h.lo, (h.row.set m _).congr fun i _ => ?_, fun i hi => ?_, h.below.setCell (p := ⟨g, m, none⟩) h.lo _⟩
  · by_cases e : i = m
    · subst e; rw [if_pos rfl, if_pos (by omega), adPut_at]
    · by_cases h2 : i < m
      · rw [if_neg e, if_pos h2, if_pos (by omega), adPut_ne _ _ h2]
      · rw [if_neg e, if_neg h2, if_neg (by omega)]
  · by_cases e : i = m
    · subst e
      rw [adPut_at]
      exact ⟨hb, hf.of_block (fun _ a e _ => by cases e; exact Below.heap_setCell W ⟨g, i, none⟩ _ b hb) hz⟩
    · have hi' : i < m := by omega
      obtain ⟨h1, h2⟩ := h.rows i hi'
      rw [adPut_ne _ _ hi']
      exact ⟨h1, h2.of_block (fun _ a e _ => by cases e; exact Below.heap_setCell W ⟨g, m, none⟩ _ (gs i) h1) hz⟩
theorem RD.sat {w : World} {g L : Nat} {f gs : Nat → Nat} {W : World} (h : RD w g L f gs L W) : SAt W (some ⟨g, 0, none⟩) (unS f L) :=
  ⟨fun _ => ⟨g, 0, rfl, h.row.lt, fun i hi => ⟨some ⟨gs i, 0, none⟩, f i % 8, by
    have := h.row.cell (i := i) hi
    rw [if_pos (show i < L from hi)] at this
    rw [Nat.zero_add]
    exact this, (h.rows i hi).2⟩⟩⟩
theorem WRow.cellAt {W : World} {b off L : Nat} {f : Nat → Nat} (h : WRow W (some ⟨b, off, none⟩) L f) {j : Nat} (hj : j < L) : W.cell? ⟨b, off + j, none⟩ = some (.int .u64 (f j : Nat)) := by
  obtain ⟨b', off', e, _, hc⟩ := h.some_ (by omega)
  cases e
  exact hc j hj


end Go.Proofs.YtojlimpooeehhaaDoor
