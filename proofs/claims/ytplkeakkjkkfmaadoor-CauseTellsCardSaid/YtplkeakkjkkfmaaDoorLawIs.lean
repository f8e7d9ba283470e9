/- The law CauseIs: for every input it answers true. -/
import Derived.Test.YtplkeakkjkkfmaaDoorNone
import Derived.Deep.QuietTactic
import Derived.BigQuiet
namespace Go.Proofs.YtplkeakkjkkfmaaDoor
open Go.RowKit

theorem codes_ne : ∀ p : List (Int × Int), Ok p → p ≠ [] → codesP p ≠ []
  | [], _, h => absurd rfl h
  | (c, n) :: r, hok, _ => by
    by_cases hc : c = 0
    · subst hc; rw [codesP_word]; exact codes_ne r hok.2 (hok.1 rfl)
    · rw [codesP_code _ _ hc]; simp

theorem errors_is_nil (d : Int) (w : World) : Calls Tryd.prog 26 #[.nilIface, .iface 38 (.int .i64 d)] w fun e w' => e = .returned (.bool false) ∧ Below w.heap.size w w' := errors_is d [] trivial w

theorem CodeRow.below {B : Nat} {v : Value} {l : List Int} {W W' : World} (h : CodeRow B v l W) (hb : Below W.heap.size W W') : CodeRow B v l W' :=
  ⟨h.own.kept (row := none) ⟨hb.os, hb.tape, hb.output, hb.size, fun k hk _ => hb.block k hk⟩ (by cases v.ownBlock <;> simp), h.nil⟩

theorem below_drew {B : Nat} {a w : World} (h : Below B a w) (n : Nat) : Below B a (w.drewN n) := h.trans ⟨rfl, rfl, rfl, Nat.le_refl _, fun _ _ => rfl⟩

/-- The cells of a row of codes. -/
structure CodeCells (g : Nat) (l : List Int) (W : World) : Prop where
  lt : g < W.heap.size
  at_ : ∀ k c, l[k]? = some c → W.cell? ⟨g, k, none⟩ = some (.int .i64 c)
theorem CodeCells.below {g : Nat} {l : List Int} {W W' : World} (h : CodeCells g l W) (hb : Below W.heap.size W W') : CodeCells g l W' :=
  ⟨Nat.lt_of_lt_of_le h.lt hb.size, fun k c hk => (hb.cell (p := ⟨g, k, none⟩) h.lt).trans (h.at_ k c hk)⟩
theorem CodeCells.but {g a : Nat} {l : List Int} {W W' : World} (h : CodeCells g l W) (hg : W.grownBy W' (some a)) (hne : g ≠ a) : CodeCells g l W' :=
  ⟨Nat.lt_of_lt_of_le h.lt hg.size, fun k c hk => hg.cell (a := ⟨g, k, none⟩) (h.at_ k c hk) (by simpa using hne)⟩
theorem CodeRow.cells {B : Nat} {v : Value} {l : List Int} {W : World} (h : CodeRow B v l W) (hl : l ≠ []) :
    ∃ g cap, v = .slice (some ⟨g, 0, none⟩) l.length cap ∧ CodeCells g l W := by
  rcases h.own.2 with ⟨_, h0⟩ | ⟨g, cap, cur, rfl, _, hg, _⟩
  · exact absurd (List.length_eq_zero_iff.1 h0) hl
  · refine ⟨g, cap, rfl, (Array.getElem?_eq_some_iff.1 hg).1, fun k c hk => ?_⟩
    have := h.own.cells (g := g) rfl k (.int .i64 c) (by simp [cellsC, hk])
    rw [show (⟨g, 0, none⟩ : Addr).add k = ⟨g, k, none⟩ from by unfold Addr.add; split <;> simp_all] at this
    exact this

theorem take_contains (l : List Int) (k : Nat) (c d : Int) (h : l[k]? = some c) : (l.take (k + 1)).contains d = ((l.take k).contains d || (c == d)) := by
  obtain ⟨hk, rfl⟩ := List.getElem?_eq_some_iff.1 h
  rw [List.take_succ_eq_append_getElem hk]
  rw [List.contains_append, List.contains_cons, BEq.comm, show ([] : List Int).contains d = false from rfl, Bool.or_false]

set_option maxRecDepth 100000 in
set_option maxHeartbeats 2000000 in
theorem is_any (A : Option Addr) (len cap : Nat) (code : Int) (w : World) (hS : Script w A len) (htab : Tab w) (hE : ErrT w) :
    Calls Tryd.prog 7 #[.slice A len cap, .int .i64 code] w fun e w' => e = .returned (.bool true) ∧ Below w.heap.size w w' := by
  have Htab := Lib.hid htab; clear htab
  have HS := Lib.hid hS; clear hS
  have HE := Lib.hid hE; clear hE
  go_enter Tryd.func7, Tryd.ntmps7
  go_wp2_with fail
  refine (awake_any _ Htab.out).mono ?_
  rintro e w2 ⟨rfl, hb2⟩
  go_wp2_with fail
  refine (built_any A len cap _ (HS.out.below hb2)).mono ?_
  rintro e w3 ⟨p, v, rfl, hG, hp, hR, hb3⟩
  have hB : Below w.heap.size w w3 := hb2.trans (hb3.mono hb2.size)
  have HG := Lib.hid hG
  clear hG hR hb3 hb2
  have hlp := codesP_len p
  go_wp2_with fail
  refine (codes_any p HG.out.ok (by omega) _).mono ?_
  rintro e w4 ⟨v1, rfl, hr, hb4⟩
  replace hB : Below w.heap.size w w4 := hB.trans (hb4.mono hB.size)
  by_cases hn : p = []
  · subst hn
    obtain rfl := hr.nil rfl
    clear hr hb4 hlp hp
    rw [show enc [] = Value.nilIface from rfl]
    have hal : Below w.heap.size w (w4.alloc (.cells #[.int .i64 0] 38)) := hB.alloc hB.size _
    go_wp2_with fail
    refine (errors_as_nil _ _).mono ?_
    rintro e w' ⟨rfl, rfl⟩
    go_wp2
    go_loopw [11, 12] (fun am i wr => am = .bool false ∧ i = .int .i64 0 ∧ wr = w4.alloc (.cells #[.int .i64 0] 38)) (fun _ _ _ => 0)
    case atStart => exact ⟨rfl, rfl, rfl⟩
    case round =>
      obtain ⟨rfl, rfl, rfl⟩ := hrel
      go_wp2
      go_quiet (fail)
      go_wp2_with fail
      refine (errors_is_nil code _).mono ?_
      rintro e w6 ⟨rfl, hb6⟩
      go_wp2
      go_ret
      exact ⟨rfl, (below_drew hal nq).trans (hb6.mono hal.size)⟩
  · have hne := codes_ne p HG.out.ok hn
    obtain ⟨g, cap1, rfl, hcl⟩ := hr.cells hne
    have HI : Hid (∀ d W, Calls Tryd.prog 26 #[enc p, .iface 38 (.int .i64 d)] W fun e w' => e = .returned (.bool ((codesP p).contains d)) ∧ Below W.heap.size W w') := fun d W => errors_is d p HG.out.ok W
    have HA : Hid (∀ W, Target52 w4.heap.size W → ErrT W → Calls Tryd.prog 25 #[enc p, .iface 52 (.pointer (some ⟨w4.heap.size, 0, none⟩))] W fun e w' => e = .returned (.bool true) ∧ Found w4.heap.size ((codesP p).headD 0) W w') := fun W h1 h2 => errors_as w4.heap.size p hn HG.out.ok W h1 h2
    generalize codesP p = L at hlp hne hcl HI HA hr
    obtain ⟨x, r, rfl⟩ : ∃ x r, L = x :: r := by
      cases L with
      | nil => exact absurd rfl hne
      | cons x r => exact ⟨x, r, rfl⟩
    clear hr hne hb4
    have hal : Below w.heap.size w (w4.alloc (.cells #[.int .i64 0] 38)) := hB.alloc hB.size _
    have hcl1 : CodeCells g (x :: r) (w4.alloc (.cells #[.int .i64 0] 38)) := hcl.below ((Below.refl _ w4).alloc (Nat.le_refl _) _)
    have hga := hcl.lt
    clear hcl
    have Hcl1 := Lib.hid hcl1; clear hcl1
    have Hnew := Lib.hid (Boxed.new w4 38 (.int .i64 0))
    generalize hen : enc p = en at HI HA
    clear hen
    go_wp2_with fail
    refine (HA.out _ ⟨0, Hnew.out⟩ (HE.out.below hal)).mono ?_
    rintro e w5 ⟨rfl, hF⟩
    have hcl2 : CodeCells g (x :: r) w5 := Hcl1.out.but hF.but (by omega)
    have hB5 : Below w.heap.size w w5 := hal.grown hF.but hal.size (fun k e => by cases e; exact hB.size)
    have hbox : Boxed w5 w4.heap.size 38 (.int .i64 x) := hF.box
    have Hcl2 := Lib.hid hcl2
    have Hbox := Lib.hid hbox
    clear hcl2 hbox hF Hcl1 Hnew HA
    have hlen : r.length + 1 ≤ 20 := by simp only [List.length_cons] at hlp; omega
    go_wp2
    go_loopw [11, 12] (fun am i wr => ∃ k : Nat, k ≤ r.length + 1 ∧ i = .int .i64 k ∧ am = .bool (((x :: r).take k).contains code) ∧ Hid (CodeCells g (x :: r) wr) ∧ Hid (Boxed wr w4.heap.size 38 (.int .i64 x)) ∧ Below w.heap.size w wr) (fun _ i _ => r.length + 1 - (intOf i).toNat)
    case atStart => exact ⟨0, by omega, rfl, rfl, Hcl2, Hbox, hB5⟩
    case round =>
      obtain ⟨k, hk, rfl, rfl, Hc, Hb, hBr⟩ := hrel
      by_cases hlt : k < r.length + 1
      · obtain ⟨c, hkc⟩ : ∃ c, (x :: r)[k]? = some c := ⟨(x :: r)[k]'(by simpa using hlt), List.getElem?_eq_getElem _⟩
        have c0 := Hc.out.at_ k c hkc
        have hin : (x :: r).contains c = true := by simpa using List.mem_of_getElem? hkc
        have htk := take_contains (x :: r) k c code hkc
        go_wp2_with fail
        refine (HI.out c _).mono ?_
        rintro e w6 ⟨rfl, hb6⟩
        rw [hin]
        have Hc6 := Lib.hid (Hc.out.below hb6)
        have Hb6 := Lib.hid (boxed_below Hb.out hb6)
        have c06 := Hc6.out.at_ k c hkc
        have hB6 : Below w.heap.size w w6 := hBr.trans (hb6.mono hBr.size)
        clear hb6
        cases ham : ((x :: r).take k).contains code
        all_goals
          rw [ham] at htk
          go_wp2
          go_roundw
          case rel => exact ⟨k + 1, by omega, by go_num, by rw [htk]; rfl, Hc6, Hb6, hB6⟩
          case measure => simp [intOf]; omega
      · obtain rfl : k = r.length + 1 := by omega
        have c0 := Hc.out.at_ 0 x rfl
        have c1 := Hb.out.cell
        rw [List.take_of_length_le (by simp)]
        have hgt : decide ((0 : Int) < (r.length : Int) + 1) = true := by simp
        go_wp2_with fail
        go_quiet (fail)
        go_wp2_with fail
        refine (HI.out code _).mono ?_
        rintro e w6 ⟨rfl, hb6⟩
        go_wp2
        go_ret
        exact ⟨by simp, (below_drew hBr nq).trans (hb6.mono hBr.size)⟩

end Go.Proofs.YtplkeakkjkkfmaaDoor
