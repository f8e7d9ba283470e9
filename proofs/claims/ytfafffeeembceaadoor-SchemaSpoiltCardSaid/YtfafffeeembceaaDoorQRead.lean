/- Words as a schema: unpacked, Equal, Read. -/
import Derived.Test.YtfafffeeembceaaDoorQApp
namespace Go.Proofs.YtfafffeeembceaaDoor
open Go.ChangeShapes Go.WideShapes Go.ChangeAt Go.RowKit
theorem and7 (n : Nat) (h : n < 18446744073709551616) : bits .and .u64 (n : Int) 7 = ((n % 8 : Nat) : Int) := by
  have e := u64_and_nat n 7 h (by omega)
  have e2 : n &&& 7 = n % 8 := Nat.and_two_pow_sub_one_eq_mod n 3
  rw [e2] at e
  exact e

theorem mk_fields (n : Nat) (hn : n ≤ 1000) (w : World) : (Instr.makeSlice 46 (.int .u64 (n : Int)) (.int .u64 (n : Int))).run Tryd.prog w = .ok (.slice (some ⟨w.heap.size, 0, none⟩) n n) (w.alloc (.cells (madeCells #[.int .i64 0, .int .i64 0] (n * 2)) 48)) := by
  obtain ⟨i, hi, hz1, hz2, hz3⟩ := info_parts info_field
  have hr := run_make (P := Tryd.prog) w 46 48 i (.agg #[.int .i64 0, .int .i64 0]) Tryd.underlying46 hi hz1 .u64 .u64 n n (by omega) (Int.le_refl _) (by rw [hz3]; omega) (by omega)
  simp only [Int.toNat_natCast, hz2] at hr
  exact hr
theorem made_fields (w : World) (n : Nat) : (w.alloc (.cells (madeCells #[.int .i64 0, .int .i64 0] (n * 2)) 48)).rowIs w.heap.size 48 (n * 2) (fun _ => .int .i64 0) := by
  have h := World.rowIs_alloc w (madeCells #[.int .i64 0, .int .i64 0] (n * 2)) 48 (fun _ => .int .i64 0) (by
    intro j hj
    rw [size_madeCells] at hj
    simp only [madeCells, Array.getElem?_map]
    rw [Array.getElem?_eq_getElem (by simpa using hj)]
    simp only [Option.map_some, Array.getElem_range]
    have h2 : j % 2 = 0 ∨ j % 2 = 1 := by omega
    rcases h2 with h2 | h2
    · simp [h2]
    · simp [h2])
  rw [size_madeCells] at h
  exact h
/-- The cells of a word's fields, of which p are written. -/
def uc (x p j : Nat) : Value := .int .i64 (if j < p then (if j % 2 = 0 then ((dig (x / 8) (j / 2) % 8 : Nat) : Int) else ((dig (x / 8) (j / 2) / 8 : Nat) : Int)) else 0)
theorem uc_even (x m j : Nat) : (if j = m * 2 then Value.int .i64 ((dig (x / 8) m % 8 : Nat) : Int) else uc x (m * 2) j) = uc x (m * 2 + 1) j := by
  unfold uc
  by_cases e : j = m * 2
  · subst e
    rw [if_pos rfl, if_pos (by omega), if_pos (by omega), show m * 2 / 2 = m by omega]
  · by_cases h : j < m * 2
    · simp only [if_neg e, if_pos h, if_pos (show j < m * 2 + 1 by omega)]
    · simp only [if_neg e, if_neg h, if_neg (show ¬ j < m * 2 + 1 by omega)]
theorem uc_odd (x m j : Nat) : (if j = m * 2 + 1 then Value.int .i64 ((dig (x / 8) m / 8 : Nat) : Int) else uc x (m * 2 + 1) j) = uc x ((m + 1) * 2) j := by
  unfold uc
  by_cases e : j = m * 2 + 1
  · subst e
    rw [if_pos rfl, if_pos (by omega), if_neg (by omega), show (m * 2 + 1) / 2 = m by omega]
  · by_cases h : j < m * 2 + 1
    · simp only [if_neg e, if_pos h, if_pos (show j < (m + 1) * 2 by omega)]
    · simp only [if_neg e, if_neg h, if_neg (show ¬ j < (m + 1) * 2 by omega)]
theorem dig_kind (x m : Nat) : x / 2 ^ (3 + m * 6) % 8 = dig (x / 8) m % 8 := by
  rw [dig, Nat.pow_add, pow6, ← Nat.div_div_eq_div_mul]
  show x / 8 / 64 ^ m % 8 = x / 8 / 64 ^ m % 64 % 8
  generalize x / 8 / 64 ^ m = y
  omega
theorem dig_type (x m : Nat) : x / 2 ^ (3 + m * 6 + 3) % 8 = dig (x / 8) m / 8 := by
  rw [dig, Nat.pow_add, Nat.pow_add, pow6, ← Nat.div_div_eq_div_mul, ← Nat.div_div_eq_div_mul]
  show x / 8 / 64 ^ m / 8 % 8 = x / 8 / 64 ^ m % 64 / 8
  generalize x / 8 / 64 ^ m = y
  omega
/-- The part of a word at bit p. -/
theorem part_at (x p : Nat) (hx : x < 18446744073709551616) : bits .and .u64 ((x : Int) / 2 ^ p) 7 = ((x / 2 ^ p % 8 : Nat) : Int) := by
  have e : (x : Int) / 2 ^ p = ((x / 2 ^ p : Nat) : Int) := by rw [Int.natCast_ediv, Int.natCast_pow]; rfl
  rw [e]
  exact and7 _ (Nat.lt_of_le_of_lt (Nat.div_le_self _ _) hx)

set_option maxRecDepth 100000 in
set_option maxHeartbeats 2000000 in
theorem unpacked_any (x : Nat) (hx : x < 18446744073709551616) (w : World) : Calls Tryd.prog 30 #[.int .u64 (x : Int)] w fun e w' => ∃ g, e = .returned (.slice (some ⟨g, 0, none⟩) (x % 8) (x % 8)) ∧ w.heap.size ≤ g ∧ FRow w' (some ⟨g, 0, none⟩) (x % 8) (fun j => ((dig (x / 8) j % 8 : Nat) : Int)) (fun j => ((dig (x / 8) j / 8 : Nat) : Int)) ∧ Below w.heap.size w w' := by
  have ha := and7 x hx
  obtain ⟨n, HN⟩ : ∃ n, Hid (x % 8 = n) := ⟨_, Lib.hid rfl⟩
  rw [HN.out] at ha ⊢
  have hn : n ≤ 7 := by have := HN.out; omega
  have hmk := mk_fields n (by omega)
  go_enter Tryd.func30, Tryd.ntmps30
  go_wp2
  clear hmk ha
  have hR := made_fields w n
  go_loopw [10] (fun i wr => ∃ m : Nat, m ≤ n ∧ i = .int .i64 m ∧ Hid (wr.rowIs w.heap.size 48 (n * 2) (uc x (m * 2))) ∧ Hid (Below w.heap.size w wr)) (fun i _ => n - (intOf i).toNat)
  case atStart => exact ⟨0, by omega, rfl, Lib.hid (hR.congr fun j _ => by simp [uc]), Lib.hid (by (repeat (first | with_reducible exact Below.refl _ _ | with_reducible refine Below.drew ?_ | (with_reducible refine Below.setCell ?_ ?side _; case side => exact (by first | (simp; done) | (simp; omega) | omega)) | (with_reducible refine Below.alloc ?_ ?side _; case side => exact (by first | (simp; done) | (simp; omega) | omega)))))⟩
  case round =>
    clear hR
    obtain ⟨m, hm, rfl, HR, HB⟩ := hrel
    by_cases hlt : m < n
    · have HK : Hid (wrap64 (bits .and .u64 ((x : Int) / 2 ^ (3 + m * 6)) 7) = ((dig (x / 8) m % 8 : Nat) : Int)) := Lib.hid (by rw [part_at x _ hx, dig_kind]; unfold wrap64; omega)
      have HT : Hid (wrap64 (bits .and .u64 ((x : Int) / 2 ^ (3 + m * 6 + 3)) 7) = ((dig (x / 8) m / 8 : Nat) : Int)) := Lib.hid (by rw [part_at x _ hx, dig_type]; have := dig_lt (x / 8) m; unfold wrap64; omega)
      have c0 := HR.out.cell (i := m * 2) (by omega)
      have c1 := HR.out.cell (i := m * 2 + 1) (by omega)
      have f0 := HR.out.frozen
      go_wp2_with fail
      refine (fieldAt_any m (by omega) _).mono ?_
      rintro e w' ⟨rfl, rfl⟩
      go_wp2_with fail
      refine (fieldAt_any m (by omega) _).mono ?_
      rintro e w' ⟨rfl, rfl⟩
      go_wp2
      go_roundw
      case rel =>
        refine ⟨m + 1, by omega, by go_num, ?_, ?_⟩
        · rw [HK.out, HT.out]
          exact Lib.hid ((((HR.out.set (m * 2) _).congr fun j _ => uc_even x m j).set (m * 2 + 1) _).congr fun j _ => uc_odd x m j)
        · exact Lib.hid ((HB.out.setCell (p := ⟨w.heap.size, m * 2, none⟩) (Nat.le_refl _) _).setCell (p := ⟨w.heap.size, m * 2 + 1, none⟩) (Nat.le_refl _) _)
      case measure => simp [intOf]; omega
    · have e : m = n := by omega
      subst e
      go_wp2
      go_ret
      refine ⟨w.heap.size, rfl, Nat.le_refl _, ⟨fun _ => ⟨w.heap.size, 0, rfl, HR.out.lt, fun j hj => ?_⟩⟩, HB.out⟩
      have a0 := HR.out.cell (i := j * 2) (by omega)
      have a1 := HR.out.cell (i := j * 2 + 1) (by omega)
      unfold uc at a0 a1
      rw [if_pos (by omega), if_pos (by omega), show j * 2 / 2 = j by omega] at a0
      rw [if_pos (by omega), if_neg (by omega), show (j * 2 + 1) / 2 = j by omega] at a1
      rw [Nat.zero_add]
      exact ⟨a0, a1⟩

set_option maxRecDepth 100000 in
set_option maxHeartbeats 2000000 in
theorem equal_any (w : World) (A A' : Option Addr) (L L' c c' : Nat) (f f' : Nat → Nat) (hL : L ≤ 1000) (hr : WRow w A L f) (hr' : WRow w A' L' f') : Calls Tryd.prog 31 #[.slice A L c, .slice A' L' c'] w fun e w' => e = .returned (.bool (sameWB L L' f f')) ∧ Below w.heap.size w w' := by
  have Hr := Lib.hid hr
  have Hr' := Lib.hid hr'
  clear hr hr'
  by_cases hLL : L = L'
  · subst hLL
    go_enter Tryd.func31, Tryd.ntmps31
    go_wp2
    go_loopw [13] (fun iv wr => ∃ i m : Nat, i ≤ L ∧ iv = .int .i64 i ∧ wr = w.drewN m ∧ ∀ j, j < i → f j = f' j) (fun iv _ => L - (intOf iv).toNat)
    case atStart => exact ⟨0, 0, by omega, rfl, rfl, fun j hj => by omega⟩
    case round =>
      obtain ⟨i, m, hi, rfl, rfl, hp⟩ := hrel
      have HP := Lib.hid hp
      clear hp
      by_cases hlt : i < L
      · obtain ⟨b, off, rfl, hb, hcl⟩ := Hr.out.some_ (by omega)
        obtain ⟨b', off', rfl, hb', hcl'⟩ := Hr'.out.some_ (by omega)
        have h1 := hcl i hlt
        have h2 := hcl' i hlt
        clear hcl hcl'
        have h3 := fun n : Nat => show (w.drewN n).cell? _ = _ from h1
        have h4 := fun n : Nat => show (w.drewN n).cell? _ = _ from h2
        by_cases he : f i = f' i
        · rw [← he] at h2 h4
          go_wp2
          go_quiet (fail)
          go_wp2
          go_roundw
          case rel =>
            refine ⟨i + 1, _, by omega, by go_num, rfl, fun j hj => ?_⟩
            by_cases e : j = i
            · rw [e]; exact he
            · exact HP.out j (by omega)
          case measure => simp [intOf]; omega
        · have hne : ((f i : Int) != (f' i : Int)) = true := by simp; omega
          have hne' : (f i != f' i) = true := by simp; omega
          have HF : Hid (sameWB L L f f' = false) := Lib.hid (sameWB_false fun h => he (h.2 i hlt))
          go_wp2
          go_quiet (fail)
          go_wp2
          go_ret
          exact ⟨ret_bool HF.out.symm, below_drewN (below_drewN (Below.refl _ _) _) _⟩
      · have he : i = L := by omega
        subst he
        go_wp2
        go_ret
        exact ⟨ret_bool (sameWB_true ⟨rfl, HP.out⟩).symm, below_drewN (Below.refl _ _) _⟩
  · rw [sameWB_false fun h => hLL h.1]
    have hne : ((L : Int) != (L' : Int)) = true := by simp; omega
    have hne' : (L != L') = true := by simp; omega
    go_enter Tryd.func31, Tryd.ntmps31
    go_wp2
    first
      | (go_ret; exact ⟨rfl, Below.refl _ _⟩)
      | (go_quiet (fail); go_wp2; go_ret; exact ⟨rfl, below_drewN (Below.refl _ _) _⟩)

/-- Read, when m words are unpacked: the schema lies at g, its types at gs. -/
structure RD (w : World) (g L : Nat) (f gs : Nat → Nat) (m : Nat) (W : World) : Prop where
  lo : w.heap.size ≤ g
  row : W.rowIs g 46 L (fun i => if i < m then .slice (some ⟨gs i, 0, none⟩) (f i % 8) (f i % 8) else .slice none 0 0)
  rows : ∀ i, i < m → gs i ≠ g ∧ FRow W (some ⟨gs i, 0, none⟩) (f i % 8) (fun j => ((dig (f i / 8) j % 8 : Nat) : Int)) (fun j => ((dig (f i / 8) j / 8 : Nat) : Int))
  below : Below w.heap.size w W
theorem RD.fresh {w : World} {g L : Nat} {f gs : Nat → Nat} {m : Nat} {W W' : World} (h : RD w g L f gs m W) (hb : Below W.heap.size W W') : RD w g L f gs m W' :=
  ⟨h.lo, h.row.of_block (hb.block _ h.row.lt), fun i hi => ⟨(h.rows i hi).1, (h.rows i hi).2.below hb⟩, Below.step h.below hb h.below.size⟩
theorem RD.put {w : World} {g L : Nat} {f gs : Nat → Nat} {m : Nat} {W : World} (h : RD w g L f gs m W) (b : Nat) (hb : b ≠ g) (hf : FRow W (some ⟨b, 0, none⟩) (f m % 8) (fun j => ((dig (f m / 8) j % 8 : Nat) : Int)) (fun j => ((dig (f m / 8) j / 8 : Nat) : Int))) : RD w g L f (adPut gs m b) (m + 1) (W.setCell ⟨g, m, none⟩ (.slice (some ⟨b, 0, none⟩) (f m % 8) (f m % 8))) := by
  have hz : W.heap.size ≤ (W.setCell ⟨g, m, none⟩ (.slice (some ⟨b, 0, none⟩) (f m % 8) (f m % 8))).heap.size := ((Below.refl 0 W).setCell (p := ⟨g, m, none⟩) (Nat.zero_le _) _).size
  refine ⟨h.lo, (h.row.set m _).congr fun i _ => ?_, fun i hi => ?_, h.below.setCell (p := ⟨g, m, none⟩) h.lo _⟩
  · by_cases e : i = m
    · subst e; rw [if_pos rfl, if_pos (by omega), adPut_at]
    · by_cases h2 : i < m
      · rw [if_neg e, if_pos h2, if_pos (by omega), adPut_ne _ _ h2]
      · rw [if_neg e, if_neg h2, if_neg (by omega)]
  · by_cases e : i = m
    · subst e
      rw [adPut_at]
      exact ⟨hb, hf.of_block (fun _ a e _ => by cases e; exact Below.heap_setCell W ⟨g, i, none⟩ _ b hb) hz⟩
    · have hi' : i < m := by omega
      obtain ⟨h1, h2⟩ := h.rows i hi'
      rw [adPut_ne _ _ hi']
      exact ⟨h1, h2.of_block (fun _ a e _ => by cases e; exact Below.heap_setCell W ⟨g, m, none⟩ _ (gs i) h1) hz⟩
theorem RD.sat {w : World} {g L : Nat} {f gs : Nat → Nat} {W : World} (h : RD w g L f gs L W) : SAt W (some ⟨g, 0, none⟩) (unS f L) :=
  ⟨fun _ => ⟨g, 0, rfl, h.row.lt, fun i hi => ⟨some ⟨gs i, 0, none⟩, f i % 8, by
    have := h.row.cell (i := i) hi
    rw [if_pos (show i < L from hi)] at this
    rw [Nat.zero_add]
    exact this, (h.rows i hi).2⟩⟩⟩
theorem WRow.cellAt {W : World} {b off L : Nat} {f : Nat → Nat} (h : WRow W (some ⟨b, off, none⟩) L f) {j : Nat} (hj : j < L) : W.cell? ⟨b, off + j, none⟩ = some (.int .u64 (f j : Nat)) := by
  obtain ⟨b', off', e, _, hc⟩ := h.some_ (by omega)
  cases e
  exact hc j hj

set_option maxRecDepth 100000 in
set_option maxHeartbeats 4000000 in
theorem read_yes (A : Option Addr) (L c : Nat) (f : Nat → Nat) (w : World) (hr : WRow w A L f) (h8 : L ≤ 8) (h : readOk f L) : Calls Tryd.prog 13 #[.slice A L c] w fun e w' => ∃ g, e = .returned (.tuple #[.slice (some ⟨g, 0, none⟩) L L, .nilIface]) ∧ SAt w' (some ⟨g, 0, none⟩) (unS f L) ∧ Below w.heap.size w w' := by
  have HW := Lib.hid hr
  clear hr
  have HO := Lib.hid h
  clear h
  have hmk := run_make_row' (P := Tryd.prog) 23 46 (.slice none 0 0) 24 Tryd.underlying23 info_fs rfl .i64 .i64 L (by omega) (by omega)
  have d8 : decide (8 < (L : Int)) = false := by simp; omega
  go_enter Tryd.func13, Tryd.ntmps13
  go_wp2
  have HR0 : Hid (RD w w.heap.size L f (fun _ => 0) 0 (w.alloc (.cells (madeCells #[.slice none 0 0] L) 46))) := Lib.hid ⟨Nat.le_refl _, (World.rowIs_made w (.slice none 0 0) L 46).congr fun j _ => by simp, fun i hi => by omega, by (repeat (first | with_reducible exact Below.refl _ _ | with_reducible refine Below.drew ?_ | (with_reducible refine Below.setCell ?_ ?side _; case side => exact (by first | (simp; done) | (simp; omega) | omega)) | (with_reducible refine Below.alloc ?_ ?side _; case side => exact (by first | (simp; done) | (simp; omega) | omega))))⟩
  clear hmk d8
  generalize w.alloc (.cells (madeCells #[.slice none 0 0] L) 46) = W0 at HR0 ⊢
  generalize hg : w.heap.size = g at HR0 ⊢
  go_loopw [16] (fun i wr => ∃ (m : Nat) (gs : Nat → Nat), m ≤ L ∧ i = .int .i64 m ∧ Hid (RD w g L f gs m wr)) (fun i _ => L - (intOf i).toNat)
  case atStart => exact ⟨0, _, by omega, rfl, HR0⟩
  case round =>
    clear HR0
    obtain ⟨m, gs, hm, rfl, HR⟩ := hrel
    by_cases hlt : m < L
    · obtain ⟨b, off, rfl, hb, hc⟩ := (HW.out.below HR.out.below).some_ (by omega)
      have c1 := hc m hlt
      have hfm := HW.out.lt m hlt
      clear hc
      go_wp2_with fail
      refine (unpacked_any (f m) hfm _).mono ?_
      rintro e w1 ⟨b1, rfl, hb1, hf1, hbel⟩
      have HR1 := Lib.hid (HR.out.fresh hbel)
      have HF1 := Lib.hid hf1
      have HNE : Hid (b1 ≠ g) := Lib.hid (by have := HR.out.row.lt; omega)
      clear hf1 hbel HR c1 hb hb1
      have r1 := HR1.out.row.cell hlt
      have rf := HR1.out.row.frozen m
      rw [if_neg (Nat.lt_irrefl m)] at r1
      go_wp2
      go_roundw
      case rel => exact ⟨m + 1, _, by omega, by go_num, Lib.hid (HR1.out.put b1 HNE.out HF1.out)⟩
      case measure => simp [intOf]; omega
    · have e : m = L := by omega
      subst e
      have HS := Lib.hid HR.out.sat
      have HB := Lib.hid HR.out.below
      clear HR hlt hm
      have hk := check_yes (unS f m) _ m wr HS.out (okS_true HO.out.1)
      rw [show (unS f m).n = m from rfl] at hk
      go_wp2_with fail
      refine hk.mono ?_
      rintro e w1 ⟨rfl, hb⟩
      have HS1 := Lib.hid (HS.out.below hb)
      have HB1 := Lib.hid (Below.step HB.out hb HB.out.size)
      clear hb hk HS HB
      have hk := pack_yes (unS f m) _ m w1 HS1.out HO.out.1
      rw [show (unS f m).n = m from rfl] at hk
      go_wp2_with fail
      refine hk.mono ?_
      rintro e w2 ⟨g2, rfl, hg2, hrow, hb⟩
      have HS2 := Lib.hid (HS1.out.below hb)
      have HB2 := Lib.hid (Below.step HB1.out hb HB1.out.size)
      have HP := Lib.hid (wrow_of_rowIs hrow (fun j hj => by have := HO.out.1.wd_lt (i := j) hj; omega))
      clear hb hk HS1 HB1 hrow
      go_wp2_with fail
      refine (equal_any _ _ A m m m c (wd (unS f m)) f (by omega) HP.out (HW.out.below HB2.out)).mono ?_
      rintro e w3 ⟨rfl, hb⟩
      rw [sameWB_true ⟨rfl, (noRest_iff f m).1 HO.out.2⟩]
      have HS3 := Lib.hid (HS2.out.below hb)
      have HB3 := Lib.hid (Below.step HB2.out hb HB2.out.size)
      clear hb HS2 HB2 HP
      go_wp2
      go_ret2
      exact ⟨g, rfl, HS3.out, HB3.out⟩

set_option maxRecDepth 100000 in
set_option maxHeartbeats 4000000 in
theorem read_bad (A : Option Addr) (L c : Nat) (f : Nat → Nat) (w : World) (hr : WRow w A L f) (h8 : L ≤ 8) (h : okS (unS f L) = false) : Calls Tryd.prog 13 #[.slice A L c] w fun e w' => e = .returned (.tuple #[.slice none 0 0, .iface 43 (.int .i64 10)]) ∧ Below w.heap.size w w' := by
  have HW := Lib.hid hr
  clear hr
  have HO := Lib.hid h
  clear h
  have hmk := run_make_row' (P := Tryd.prog) 23 46 (.slice none 0 0) 24 Tryd.underlying23 info_fs rfl .i64 .i64 L (by omega) (by omega)
  have d8 : decide (8 < (L : Int)) = false := by simp; omega
  go_enter Tryd.func13, Tryd.ntmps13
  go_wp2
  have HR0 : Hid (RD w w.heap.size L f (fun _ => 0) 0 (w.alloc (.cells (madeCells #[.slice none 0 0] L) 46))) := Lib.hid ⟨Nat.le_refl _, (World.rowIs_made w (.slice none 0 0) L 46).congr fun j _ => by simp, fun i hi => by omega, by (repeat (first | with_reducible exact Below.refl _ _ | with_reducible refine Below.drew ?_ | (with_reducible refine Below.setCell ?_ ?side _; case side => exact (by first | (simp; done) | (simp; omega) | omega)) | (with_reducible refine Below.alloc ?_ ?side _; case side => exact (by first | (simp; done) | (simp; omega) | omega))))⟩
  clear hmk d8
  generalize w.alloc (.cells (madeCells #[.slice none 0 0] L) 46) = W0 at HR0 ⊢
  generalize hg : w.heap.size = g at HR0 ⊢
  go_loopw [16] (fun i wr => ∃ (m : Nat) (gs : Nat → Nat), m ≤ L ∧ i = .int .i64 m ∧ Hid (RD w g L f gs m wr)) (fun i _ => L - (intOf i).toNat)
  case atStart => exact ⟨0, _, by omega, rfl, HR0⟩
  case round =>
    clear HR0
    obtain ⟨m, gs, hm, rfl, HR⟩ := hrel
    by_cases hlt : m < L
    · obtain ⟨b, off, rfl, hb, hc⟩ := (HW.out.below HR.out.below).some_ (by omega)
      have c1 := hc m hlt
      have hfm := HW.out.lt m hlt
      clear hc
      go_wp2_with fail
      refine (unpacked_any (f m) hfm _).mono ?_
      rintro e w1 ⟨b1, rfl, hb1, hf1, hbel⟩
      have HR1 := Lib.hid (HR.out.fresh hbel)
      have HF1 := Lib.hid hf1
      have HNE : Hid (b1 ≠ g) := Lib.hid (by have := HR.out.row.lt; omega)
      clear hf1 hbel HR c1 hb hb1
      have r1 := HR1.out.row.cell hlt
      have rf := HR1.out.row.frozen m
      rw [if_neg (Nat.lt_irrefl m)] at r1
      go_wp2
      go_roundw
      case rel => exact ⟨m + 1, _, by omega, by go_num, Lib.hid (HR1.out.put b1 HNE.out HF1.out)⟩
      case measure => simp [intOf]; omega
    · have e : m = L := by omega
      subst e
      have HS := Lib.hid HR.out.sat
      have HB := Lib.hid HR.out.below
      clear HR hlt hm
      have hk := check_no (unS f m) _ m wr HS.out HO.out
      rw [show (unS f m).n = m from rfl] at hk
      go_wp2_with fail
      refine hk.mono ?_
      rintro e w1 ⟨rfl, hb⟩
      have HB1 := Lib.hid (Below.step HB.out hb HB.out.size)
      clear hb hk HS HB
      go_wp2_with fail
      refine (Cs.new_code 10 _ rfl).mono ?_
      rintro e w' ⟨rfl, rfl⟩
      go_wp2
      go_ret2
      exact ⟨rfl, HB1.out⟩

set_option maxRecDepth 100000 in
set_option maxHeartbeats 4000000 in
theorem read_rest (A : Option Addr) (L c : Nat) (f : Nat → Nat) (w : World) (hr : WRow w A L f) (h8 : L ≤ 8) (h : RightS (unS f L)) (h2 : ¬ noRest f L) : Calls Tryd.prog 13 #[.slice A L c] w fun e w' => e = .returned (.tuple #[.slice none 0 0, .iface 43 (.int .i64 10)]) ∧ Below w.heap.size w w' := by
  have HW := Lib.hid hr
  clear hr
  have HO := Lib.hid h
  have HR2 := Lib.hid h2
  clear h h2
  have hmk := run_make_row' (P := Tryd.prog) 23 46 (.slice none 0 0) 24 Tryd.underlying23 info_fs rfl .i64 .i64 L (by omega) (by omega)
  have d8 : decide (8 < (L : Int)) = false := by simp; omega
  go_enter Tryd.func13, Tryd.ntmps13
  go_wp2
  have HR0 : Hid (RD w w.heap.size L f (fun _ => 0) 0 (w.alloc (.cells (madeCells #[.slice none 0 0] L) 46))) := Lib.hid ⟨Nat.le_refl _, (World.rowIs_made w (.slice none 0 0) L 46).congr fun j _ => by simp, fun i hi => by omega, by (repeat (first | with_reducible exact Below.refl _ _ | with_reducible refine Below.drew ?_ | (with_reducible refine Below.setCell ?_ ?side _; case side => exact (by first | (simp; done) | (simp; omega) | omega)) | (with_reducible refine Below.alloc ?_ ?side _; case side => exact (by first | (simp; done) | (simp; omega) | omega))))⟩
  clear hmk d8
  generalize w.alloc (.cells (madeCells #[.slice none 0 0] L) 46) = W0 at HR0 ⊢
  generalize hg : w.heap.size = g at HR0 ⊢
  go_loopw [16] (fun i wr => ∃ (m : Nat) (gs : Nat → Nat), m ≤ L ∧ i = .int .i64 m ∧ Hid (RD w g L f gs m wr)) (fun i _ => L - (intOf i).toNat)
  case atStart => exact ⟨0, _, by omega, rfl, HR0⟩
  case round =>
    clear HR0
    obtain ⟨m, gs, hm, rfl, HR⟩ := hrel
    by_cases hlt : m < L
    · obtain ⟨b, off, rfl, hb, hc⟩ := (HW.out.below HR.out.below).some_ (by omega)
      have c1 := hc m hlt
      have hfm := HW.out.lt m hlt
      clear hc
      go_wp2_with fail
      refine (unpacked_any (f m) hfm _).mono ?_
      rintro e w1 ⟨b1, rfl, hb1, hf1, hbel⟩
      have HR1 := Lib.hid (HR.out.fresh hbel)
      have HF1 := Lib.hid hf1
      have HNE : Hid (b1 ≠ g) := Lib.hid (by have := HR.out.row.lt; omega)
      clear hf1 hbel HR c1 hb hb1
      have r1 := HR1.out.row.cell hlt
      have rf := HR1.out.row.frozen m
      rw [if_neg (Nat.lt_irrefl m)] at r1
      go_wp2
      go_roundw
      case rel => exact ⟨m + 1, _, by omega, by go_num, Lib.hid (HR1.out.put b1 HNE.out HF1.out)⟩
      case measure => simp [intOf]; omega
    · have e : m = L := by omega
      subst e
      have HS := Lib.hid HR.out.sat
      have HB := Lib.hid HR.out.below
      clear HR hlt hm
      have hk := check_yes (unS f m) _ m wr HS.out (okS_true HO.out)
      rw [show (unS f m).n = m from rfl] at hk
      go_wp2_with fail
      refine hk.mono ?_
      rintro e w1 ⟨rfl, hb⟩
      have HS1 := Lib.hid (HS.out.below hb)
      have HB1 := Lib.hid (Below.step HB.out hb HB.out.size)
      clear hb hk HS HB
      have hk := pack_yes (unS f m) _ m w1 HS1.out HO.out
      rw [show (unS f m).n = m from rfl] at hk
      go_wp2_with fail
      refine hk.mono ?_
      rintro e w2 ⟨g2, rfl, hg2, hrow, hb⟩
      have HB2 := Lib.hid (Below.step HB1.out hb HB1.out.size)
      have HP := Lib.hid (wrow_of_rowIs hrow (fun j hj => by have := HO.out.wd_lt (i := j) hj; omega))
      clear hb hk HS1 HB1 hrow
      go_wp2_with fail
      refine (equal_any _ _ A m m m c (wd (unS f m)) f (by omega) HP.out (HW.out.below HB2.out)).mono ?_
      rintro e w3 ⟨rfl, hb⟩
      rw [sameWB_false fun h => HR2.out ((noRest_iff f m).2 h.2)]
      have HB3 := Lib.hid (Below.step HB2.out hb HB2.out.size)
      clear hb HB2 HP
      go_wp2_with fail
      refine (Cs.new_code 10 _ rfl).mono ?_
      rintro e w' ⟨rfl, rfl⟩
      go_wp2
      go_ret2
      exact ⟨rfl, HB3.out⟩

set_option maxRecDepth 100000 in
set_option maxHeartbeats 1000000 in
theorem read_long (A : Option Addr) (L c : Nat) (w : World) (h8 : ¬ L ≤ 8) : Calls Tryd.prog 13 #[.slice A L c] w fun e w' => e = .returned (.tuple #[.slice none 0 0, .iface 43 (.int .i64 10)]) ∧ Below w.heap.size w w' := by
  have d8 : decide (8 < (L : Int)) = true := by simp; omega
  have d9 : decide (8 < L) = true := by simp; omega
  go_enter Tryd.func13, Tryd.ntmps13
  go_wp2_with fail
  refine (Cs.new_code 10 _ rfl).mono ?_
  rintro e w' ⟨rfl, rfl⟩
  go_wp2
  go_ret2
  exact ⟨rfl, Below.refl _ _⟩
theorem read_no (A : Option Addr) (L c : Nat) (f : Nat → Nat) (w : World) (hr : WRow w A L f) (h : ¬ readOk f L) : Calls Tryd.prog 13 #[.slice A L c] w fun e w' => e = .returned (.tuple #[.slice none 0 0, .iface 43 (.int .i64 10)]) ∧ Below w.heap.size w w' := by
  by_cases h8 : L ≤ 8
  · by_cases ho : okS (unS f L) = true
    · exact read_rest A L c f w hr h8 (right_of_okS ho) fun g => h ⟨right_of_okS ho, g⟩
    · exact read_bad A L c f w hr h8 (by simpa using ho)
  · exact read_long A L c w h8

end Go.Proofs.YtfafffeeembceaaDoor
