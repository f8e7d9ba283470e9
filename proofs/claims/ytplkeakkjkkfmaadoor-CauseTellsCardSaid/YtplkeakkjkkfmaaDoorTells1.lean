/- The document's own answers (intaglioref01): Codes, Word, Top, Root, Has, Text. -/
import Derived.Test.YtplkeakkjkkfmaaDoorTold
namespace Go.Proofs.YtplkeakkjkkfmaaDoor
open Go.RowKit

/-- The cells of a row of parts. -/
structure PartCells (g : Nat) (p : List (Int × Int)) (W : World) : Prop where
  lt : g < W.heap.size
  at_ : ∀ k c n, p[k]? = some (c, n) → W.cell? ⟨g, k * 2, none⟩ = some (.int .i64 c) ∧ W.cell? ⟨g, k * 2 + 1, none⟩ = some (.int .i64 n)
theorem PartCells.below {g : Nat} {p : List (Int × Int)} {B : Nat} {W W' : World} (h : PartCells g p W) (hb : Below B W W') (hB : B = W.heap.size) : PartCells g p W' := by
  subst hB
  exact ⟨Nat.lt_of_lt_of_le h.lt hb.size, fun k c n hk => ⟨(hb.cell (p := ⟨g, k * 2, none⟩) h.lt).trans (h.at_ k c n hk).1, (hb.cell (p := ⟨g, k * 2 + 1, none⟩) h.lt).trans (h.at_ k c n hk).2⟩⟩

theorem cellsP_get : ∀ (p : List (Int × Int)) (k : Nat) (c n : Int), p[k]? = some (c, n) → (cellsP p)[k * 2]? = some (.int .i64 c) ∧ (cellsP p)[k * 2 + 1]? = some (.int .i64 n)
  | [], k, c, n, h => by simp at h
  | (c', n') :: r, 0, c, n, h => by simp at h; simp [cellsP, h]
  | (c', n') :: r, k + 1, c, n, h => by
    have := cellsP_get r k c n (by simpa using h)
    simpa [cellsP, Nat.succ_mul] using this

theorem Row.look {B : Nat} {v : Value} {p : List (Int × Int)} {W : World} (h : Row B v p W) :
    ∃ A cap, v = .slice A p.length cap ∧ (p ≠ [] → ∃ g, A = some ⟨g, 0, none⟩ ∧ PartCells g p W) := by
  cases p with
  | nil => exact ⟨none, 0, h.nil rfl, fun h => absurd rfl h⟩
  | cons x r =>
    obtain ⟨g, cap, rfl, hg, hcl⟩ := row_form h
    have hadd : ∀ j, (⟨g, 0, none⟩ : Addr).add j = ⟨g, j, none⟩ := fun j => by unfold Addr.add; split <;> simp_all
    refine ⟨_, _, rfl, fun _ => ⟨g, rfl, hg, fun k c n hk => ?_⟩⟩
    obtain ⟨h1, h2⟩ := cellsP_get _ k c n hk
    have e1 := hcl _ _ h1
    have e2 := hcl _ _ h2
    rw [hadd] at e1 e2
    exact ⟨e1, e2⟩

theorem codesP_append : ∀ (a b : List (Int × Int)), codesP (a ++ b) = codesP a ++ codesP b
  | [], b => rfl
  | (c, n) :: r, b => by
    rw [List.cons_append]
    by_cases hc : c = 0
    · subst hc; rw [codesP_word, codesP_word, codesP_append r b]
    · rw [codesP_code _ _ hc, codesP_code _ _ hc, codesP_append r b]; rfl
theorem take_next {p : List (Int × Int)} {k : Nat} {x : Int × Int} (h : p[k]? = some x) : p.take (k + 1) = p.take k ++ [x] := by
  obtain ⟨hk, rfl⟩ := List.getElem?_eq_some_iff.1 h
  exact List.take_succ_eq_append_getElem hk
theorem codes_take_word {p : List (Int × Int)} {k : Nat} {n : Int} (h : p[k]? = some (0, n)) : codesP (p.take (k + 1)) = codesP (p.take k) := by
  rw [take_next h, codesP_append, codesP_word]; simp [codesP]
theorem codes_take_code {p : List (Int × Int)} {k : Nat} {c n : Int} (h : p[k]? = some (c, n)) (hc : ¬ c = 0) : codesP (p.take (k + 1)) = codesP (p.take k) ++ [c] := by
  rw [take_next h, codesP_append, codesP_code _ _ hc]; simp [codesP]
theorem wordFrom_append : ∀ (a b : List (Int × Int)) (s : Int × Bool), wordFrom s (a ++ b) = wordFrom (wordFrom s a) b
  | [], b, s => rfl
  | (c, n) :: r, b, s => by
    rw [List.cons_append]
    by_cases hc : c = 0
    · subst hc; rw [wordFrom_word, wordFrom_word, wordFrom_append r b]
    · rw [wordFrom_code _ _ _ hc, wordFrom_code _ _ _ hc, wordFrom_append r b]
theorem word_take_word {p : List (Int × Int)} {k : Nat} {n : Int} (h : p[k]? = some (0, n)) (s : Int × Bool) : wordFrom s (p.take (k + 1)) = (n, true) := by
  rw [take_next h, wordFrom_append, wordFrom_word]; rfl
theorem word_take_code {p : List (Int × Int)} {k : Nat} {c n : Int} (h : p[k]? = some (c, n)) (hc : ¬ c = 0) (s : Int × Bool) : wordFrom s (p.take (k + 1)) = wordFrom s (p.take k) := by
  rw [take_next h, wordFrom_append, wordFrom_code _ _ _ hc]; rfl

set_option maxRecDepth 100000 in
set_option maxHeartbeats 1000000 in
theorem ref_codes (B : Nat) (p : List (Int × Int)) (hp : p.length ≤ 100) (v : Value) (w : World) (h : Row B v p w) :
    Calls Tryd.prog 11 #[v] w fun e w' => ∃ v', e = .returned v' ∧ CodeRow w.heap.size v' (codesP p) w' ∧ Below w.heap.size w w' := by
  obtain ⟨A, cap, rfl, hl⟩ := h.look
  have Hl := Lib.hid hl; clear hl h
  obtain ⟨i0, hi, hz1, hz2, hz3⟩ := info_parts info38
  go_enter Tryd.func11, Tryd.ntmps11
  go_wp2
  go_loopw [3, 4] (fun out i wr => ∃ k : Nat, k ≤ p.length ∧ i = .int .i64 k ∧ Hid (CodeRow w.heap.size out (codesP (p.take k)) wr) ∧ Below w.heap.size w wr) (fun _ i _ => p.length - (intOf i).toNat)
  case atStart => exact ⟨0, by omega, rfl, ⟨World.ownsRow_nil _ _ _ _, fun _ => rfl⟩, Below.refl _ _⟩
  case round =>
    obtain ⟨k, hk, rfl, HC, hB⟩ := hrel
    by_cases hlt : k < p.length
    · obtain ⟨⟨c, n⟩, hkc⟩ : ∃ x, p[k]? = some x := ⟨p[k]'hlt, List.getElem?_eq_getElem _⟩
      obtain ⟨g, rfl, hpc⟩ := Hl.out (by intro h; rw [h] at hlt; cases hlt)
      have c0 := ((hpc.below hB rfl).at_ k c n hkc).1
      have Hkc := Lib.hid hkc
      clear hpc hkc
      by_cases hc : c = 0
      · subst hc
        have HC' : Hid (CodeRow w.heap.size u3 (codesP (p.take (k + 1))) wr) := by rw [codes_take_word Hkc.out]; exact HC
        go_wp2
        go_roundw
        case rel => exact ⟨k + 1, by omega, by go_num, HC', hB⟩
        case measure => simp [intOf]; omega
      · have hlc : (codesP (p.take k)).length ≤ k := Nat.le_trans (codesP_len _) (by simp; omega)
        have hc' : (c == 0) = false := by simpa using hc
        have Hc := Lib.hid hc; clear hc
        have Hr : Hid (∀ j, u3.ownBlock = some j → w.heap.size ≤ j) := by
          rcases HC.out.own.2 with ⟨rfl, _⟩ | ⟨g, cap, cur, rfl, hg, _⟩
          · intro j h; cases h
          · intro j h; cases h; exact hg
        obtain ⟨a3, c3, rfl⟩ := HC.out.form
        have hz := hB.size
        go_wp2_with (at_builtin; refine wpList_append_own _ rfl _ _ 30 rfl w.heap.size 38 i0 (.int .i64 0) 1 8 Tryd.underlying30 hi hz1 hz2 hz3 rfl (by decide) _ _ _ rfl (HC.out.own.alloc _) ⟨wr.heap.size, 0, none⟩ 1 1 [.int .i64 c] rfl rfl (cell_one_new _ _ _) (by simp [Value.oneCell']) (by unfold maxLen; omega) (by omega) (by simp; omega) ?_; intro v' w1 hown' hgrow _; have Hown := Lib.hid hown'; have Hgrow := Lib.hid hgrow; clear hown' hgrow)
        go_roundw
        case rel => exact ⟨k + 1, by omega, by go_num, ⟨by rw [codes_take_code Hkc.out Hc.out]; simpa [cellsC] using Hown.out, fun h => by rw [codes_take_code Hkc.out Hc.out] at h; simp at h⟩, (hB.alloc hz _).grown Hgrow.out (by simp; omega) Hr.out⟩
        case measure => simp [intOf]; omega
    · obtain rfl : k = p.length := by omega
      rw [List.take_length] at HC
      go_wp2
      go_ret
      exact ⟨_, rfl, HC.out, hB⟩


/-- A Num that lies in a block of its own. -/
structure NumAt (b : Nat) (x : Int × Bool) (W : World) : Prop where
  block : W.heap[b]? = some (.cells #[.int .i64 x.1, .bool x.2] 36 (0, 0))
theorem NumAt.lt {b : Nat} {x : Int × Bool} {W : World} (h : NumAt b x W) : b < W.heap.size := (Array.getElem?_eq_some_iff.1 h.block).1
theorem NumAt.c0 {b : Nat} {x : Int × Bool} {W : World} (h : NumAt b x W) : W.cell? ⟨b, 0, none⟩ = some (.int .i64 x.1) := by rw [cell_of_row _ _ 0 _ _ _ h.block]; rfl
theorem NumAt.c1 {b : Nat} {x : Int × Bool} {W : World} (h : NumAt b x W) : W.cell? ⟨b, 1, none⟩ = some (.bool x.2) := by rw [cell_of_row _ _ 1 _ _ _ h.block]; rfl
theorem NumAt.f (k : Nat) {b : Nat} {x : Int × Bool} {W : World} (h : NumAt b x W) : W.frozen? ⟨b, k, none⟩ = false := by simp [World.frozen?, h.block]

theorem NumAt.store {b : Nat} {x : Int × Bool} {W : World} (h : NumAt b x W) (n : Int) (t : Bool) : NumAt b (n, t) ((W.setCell ⟨b, 0, none⟩ (.int .i64 n)).setCell ⟨b, 1, none⟩ (.bool t)) := by
  constructor
  have e : W.heap[b]? = some (.cells #[.int .i64 x.1, .bool x.2] 36 (0, 0)) := h.block
  simp [World.setCell, Array.getElem?_modify, e]
theorem NumAt.other {b b' : Nat} {x : Int × Bool} {W : World} (h : NumAt b x W) (hne : b ≠ b') (u u' : Value) : NumAt b x ((W.setCell ⟨b', 0, none⟩ u).setCell ⟨b', 1, none⟩ u') :=
  ⟨by simp [World.setCell, Array.getElem?_modify, Ne.symm hne, h.block]⟩
theorem num_start (w : World) : NumAt w.heap.size (0, false) ((w.alloc (.cells #[.int .i64 0, .bool false] 36)).alloc (.cells #[.int .i64 0, .bool false] 36)) ∧ NumAt (w.heap.size + 1) (0, false) ((w.alloc (.cells #[.int .i64 0, .bool false] 36)).alloc (.cells #[.int .i64 0, .bool false] 36)) := by
  refine ⟨⟨?_⟩, ⟨?_⟩⟩
  · rw [Below.heap_alloc _ _ _ (by simp)]; exact heap_alloc_new w _
  · have := heap_alloc_new (w.alloc (.cells #[.int .i64 0, .bool false] 36)) (.cells #[.int .i64 0, .bool false] 36)
    simpa using this

set_option maxRecDepth 100000 in
set_option maxHeartbeats 1000000 in
theorem ref_word (B : Nat) (p : List (Int × Int)) (hp : p.length ≤ 100) (v : Value) (w : World) (h : Row B v p w) :
    Calls Tryd.prog 13 #[v] w fun e w' => e = .returned (.agg #[.int .i64 (wordFrom (0, false) p).1, .bool (wordFrom (0, false) p).2]) ∧ Below w.heap.size w w' := by
  obtain ⟨A, cap, rfl, hl⟩ := h.look
  have Hl := Lib.hid hl; clear hl h
  have Hst := Lib.hid (num_start w)
  have hal : Below w.heap.size w ((w.alloc (.cells #[.int .i64 0, .bool false] 36)).alloc (.cells #[.int .i64 0, .bool false] 36)) := ((Below.refl _ w).alloc (Nat.le_refl _) _).alloc (by simp) _
  go_enter Tryd.func13, Tryd.ntmps13
  go_wp2
  go_loopw [4] (fun i wr => ∃ k : Nat, k ≤ p.length ∧ i = .int .i64 k ∧ Hid (NumAt w.heap.size (0, false) wr) ∧ Hid (NumAt (w.heap.size + 1) (wordFrom (0, false) (p.take k)) wr) ∧ Below w.heap.size w wr) (fun i _ => p.length - (intOf i).toNat)
  case atStart => exact ⟨0, by omega, rfl, Hst.out.1, Hst.out.2, hal⟩
  case round =>
    obtain ⟨k, hk, rfl, HR, HN, hB⟩ := hrel
    have d0 := HN.out.c0
    have d1 := HN.out.c1
    have f0 := HN.out.f 0
    have f1 := HN.out.f 1
    by_cases hlt : k < p.length
    · obtain ⟨⟨c, n⟩, hkc⟩ : ∃ x, p[k]? = some x := ⟨p[k]'hlt, List.getElem?_eq_getElem _⟩
      obtain ⟨g, rfl, hpc⟩ := Hl.out (by intro h; rw [h] at hlt; cases hlt)
      obtain ⟨c0, c1⟩ := (hpc.below hB rfl).at_ k c n hkc
      have Hkc := Lib.hid hkc
      clear hpc hkc
      by_cases hc : c = 0
      · subst hc
        have Hw := Lib.hid (word_take_word Hkc.out (0, false))
        go_wp2
        go_roundw
        case rel => exact ⟨k + 1, by omega, by go_num, HR.out.other (by omega) _ _, by rw [Hw.out]; exact HN.out.store _ _, (hB.setCell (by simp) _).setCell (by simp) _⟩
        case measure => simp [intOf]; omega
      · have Hw := Lib.hid (word_take_code Hkc.out hc (0, false))
        have hc' : (c == 0) = false := by simpa using hc
        clear hc
        go_wp2
        go_roundw
        case rel => exact ⟨k + 1, by omega, by go_num, HR, by rw [Hw.out]; exact HN, hB⟩
        case measure => simp [intOf]; omega
    · obtain rfl : k = p.length := by omega
      have r0 := HR.out.c0
      have r1 := HR.out.c1
      have rf0 := HR.out.f 0
      have rf1 := HR.out.f 1
      rw [List.take_length] at d0 d1 HN
      have Hs := Lib.hid (HR.out.store (wordFrom (0, false) p).1 (wordFrom (0, false) p).2)
      go_wp2
      refine bodyPost_ret (results_cell_row (p := 2) (ty := 36) rfl _ _ w.heap.size 36 _ (0, 0) _ rfl Hs.out.block Tryd.underlying36 rfl (by kernel_rfl)) rfl ?_
      exact ⟨rfl, (hB.setCell (by simp) _).setCell (by simp) _⟩

set_option maxRecDepth 100000 in
set_option maxHeartbeats 1000000 in
theorem ref_top (B : Nat) (p : List (Int × Int)) (hp : p.length ≤ 100) (v : Value) (w : World) (h : Row B v p w) :
    Calls Tryd.prog 15 #[v] w fun e w' => e = .returned (.int .i64 (topP p)) ∧ Below w.heap.size w w' := by
  have HC := Lib.hid (ref_codes B p hp v w h)
  unfold topP
  clear h
  go_enter Tryd.func15, Tryd.ntmps15
  go_wp2_with fail
  refine HC.out.mono ?_
  rintro e w1 ⟨v1, rfl, hr, hb⟩
  cases hL : codesP p with
  | nil =>
    rw [hL] at hr
    obtain rfl := hr.nil rfl
    clear hr
    go_wp2
    go_ret
    exact ⟨by rw [hL]; rfl, hb⟩
  | cons x r =>
    have hlen := codesP_len p
    rw [hL] at hr hlen
    simp only [List.length_cons] at hlen
    obtain ⟨g, cap, rfl, hcl⟩ := hr.cells (by simp)
    have c0 := hcl.at_ 0 x rfl
    clear hr hcl
    go_wp2
    go_ret
    exact ⟨by rw [hL]; rfl, hb⟩

set_option maxRecDepth 100000 in
set_option maxHeartbeats 1000000 in
theorem ref_root (B : Nat) (p : List (Int × Int)) (hp : p.length ≤ 100) (v : Value) (w : World) (h : Row B v p w) :
    Calls Tryd.prog 17 #[v] w fun e w' => e = .returned (.int .i64 ((codesP p).getLast?.getD 0)) ∧ Below w.heap.size w w' := by
  have HC := Lib.hid (ref_codes B p hp v w h)
  clear h
  go_enter Tryd.func17, Tryd.ntmps17
  go_wp2_with fail
  refine HC.out.mono ?_
  rintro e w1 ⟨v1, rfl, hr, hb⟩
  cases hL : codesP p with
  | nil =>
    rw [hL] at hr
    obtain rfl := hr.nil rfl
    clear hr
    go_wp2
    go_ret
    exact ⟨by rw [hL]; rfl, hb⟩
  | cons x r =>
    have hlen := codesP_len p
    rw [hL] at hr hlen
    simp only [List.length_cons] at hlen
    obtain ⟨g, cap, rfl, hcl⟩ := hr.cells (by simp)
    obtain ⟨c, hkc⟩ : ∃ c, (x :: r)[r.length]? = some c := ⟨(x :: r)[r.length]'(by simp), List.getElem?_eq_getElem _⟩
    have hlast : (x :: r).getLast?.getD 0 = c := by rw [List.getLast?_eq_getElem?, List.length_cons, Nat.add_sub_cancel, hkc]; rfl
    have c0 := hcl.at_ _ c hkc
    have Hlast := Lib.hid hlast
    clear hr hcl hlast hkc
    simp only [List.length_cons]
    go_wp2
    go_ret
    exact ⟨by rw [hL, Hlast.out]; rfl, hb⟩

set_option maxRecDepth 100000 in
set_option maxHeartbeats 1000000 in
theorem ref_has (B : Nat) (p : List (Int × Int)) (d : Int) (hok : Ok p) (hp : p.length ≤ 100) (v : Value) (w : World) (h : Row B v p w) :
    Calls Tryd.prog 21 #[v, .int .i64 d] w fun e w' => e = .returned (.bool (hasT p d)) ∧ Below w.heap.size w w' := by
  have HC := Lib.hid (ref_codes B p hp v w h)
  clear h
  have hh : hasT p d = if (codesP p) = [] then d == 0 else (codesP p).contains d := by
    cases p with
    | nil => rfl
    | cons x r => rw [if_neg (codes_ne _ hok (by simp))]; rfl
  rw [hh]
  clear hh hok
  have hlen := codesP_len p
  generalize codesP p = L at HC hlen
  generalize hres : (if L = [] then d == 0 else L.contains d) = res
  have Hres := Lib.hid hres
  clear hres
  go_enter Tryd.func21, Tryd.ntmps21
  go_wp2_with fail
  refine HC.out.mono ?_
  rintro e w1 ⟨v1, rfl, hr, hb⟩
  obtain ⟨A1, cap1, rfl, hl1⟩ := hr.look
  have Hl1 := Lib.hid hl1
  clear hr hl1 HC
  go_wp2
  go_loopw [6] (fun i wr => ∃ k : Nat, k ≤ L.length ∧ i = .int .i64 k ∧ wr = w1 ∧ Hid ((L.take k).contains d = false)) (fun i _ => L.length - (intOf i).toNat)
  case atStart => exact ⟨0, by omega, rfl, rfl, by simp [Hid]⟩
  case round =>
    obtain ⟨k, hk, rfl, rfl, Hk⟩ := hrel
    by_cases hlt : k < L.length
    · obtain ⟨c, hkc⟩ : ∃ c, L[k]? = some c := ⟨L[k]'hlt, List.getElem?_eq_getElem _⟩
      have hne : L ≠ [] := by intro h; rw [h] at hlt; cases hlt
      obtain ⟨g1, rfl, hc1⟩ := Hl1.out hne
      have c1 := hc1.at_ k c hkc
      have Htk := Lib.hid (take_contains L k c d hkc)
      clear hc1
      by_cases hcd : c = d
      · subst hcd
        have hin : L.contains c = true := by simpa using List.mem_of_getElem? hkc
        have Hin := Lib.hid hin
        have Hne := Lib.hid hne
        clear hkc hin hne
        go_wp2
        go_ret
        exact ⟨by rw [← Hres.out, if_neg Hne.out, Hin.out]; rfl, hb⟩
      · have hcd' : (c == d) = false := by simpa using hcd
        clear hkc hne hcd
        go_wp2
        go_roundw
        case rel => exact ⟨k + 1, by omega, by go_num, trivial, by rw [Hid, Htk.out, Hk.out, hcd']; rfl⟩
        case measure => simp [intOf]; omega
    · obtain rfl : k = L.length := by omega
      rw [List.take_length] at Hk
      cases L with
      | nil =>
        simp only [List.length_nil]
        go_wp2
        go_ret
        exact ⟨by rw [← Hres.out]; rfl, hb⟩
      | cons x r =>
        have h0 : decide (((r.length : Int) + 1) = 0) = false := by simp; omega
        simp only [List.length_cons]
        go_wp2
        go_ret
        exact ⟨by rw [← Hres.out, if_neg (by simp), Hk.out]; rfl, hb⟩

end Go.Proofs.YtplkeakkjkkfmaaDoor
