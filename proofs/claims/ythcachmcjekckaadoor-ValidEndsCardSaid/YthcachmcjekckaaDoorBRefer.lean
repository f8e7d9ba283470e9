/- A word that refers to what is laid next. -/
import Derived.Test.YthcachmcjekckaaDoorBOwn
import Derived.Laws.OwnMore
namespace Go.Proofs.YthcachmcjekckaaDoor
open Go.ChangeShapes Go.WideShapes Go.ChangeAt Go.RowKit
theorem BW.put {q : Nat} {s : Sch} {A : Option Addr} {c : Nat} {L : List Nat} {g cap : Nat} {W : World} (h : BW q s A c L g cap W) (p x : Nat) : BW q s A c (L.set p x) g cap (W.setCell ⟨g, p, none⟩ (.int .u64 (x : Nat))) := by
  refine ⟨?_, ?_, h.ne⟩
  · rw [List.length_set]
    exact h.box.setOther (a := ⟨g, p, none⟩) h.ne _
  · have e : wcells (L.set p x) = (wcells L).set p (.int .u64 (x : Nat)) := by simp [wcells, List.map_set]
    rw [List.length_set, e]
    exact (h.own.stored p _).1
theorem BW.cell {q : Nat} {s : Sch} {A : Option Addr} {c : Nat} {L : List Nat} {g cap : Nat} {W : World} (h : BW q s A c L g cap W) {p : Nat} (hp : p < L.length) : W.cell? ⟨g, p, none⟩ = some (.int .u64 ((L[p] : Nat) : Int)) := by
  rw [h.own.cellAt p (by omega)]
  simp [wcells, hp]

set_option maxRecDepth 100000 in
set_option maxHeartbeats 4000000 in
theorem refer_any (q : Nat) (s : Sch) (A : Option Addr) (c : Nat) (L : List Nat) (g cap p n : Nat) (W : World) (h : BW q s A c L g cap W) (hp : p < L.length) (hL : L.length ≤ 10000) :
    Calls Tryd.prog 99 #[.pointer (some ⟨q, 0, none⟩), .int .i64 (p : Int), .int .i64 (n : Int)] W fun e W' => e = .returned (.tuple #[]) ∧ BW q s A c (referL p n L) g cap W' ∧ ButP (fun b => b = g) W W' := by
  have H := Lib.hid h
  have c1 := h.box.cell (i := 1) (by omega)
  simp only [show ((1 : Nat) = 0) = False by simp, if_false] at c1
  have gc := h.cell hp
  have gf := h.own.frozenAt p
  have hgl := h.gq
  have hqne := h.ne
  clear h
  by_cases hn : 0 < n
  · have HR : Hid (referL p n L = L.set p (refN ((L.length : Int) - p) n)) := Lib.hid (if_pos hn)
    have d1 : decide ((0 : Int) < (n : Int)) = true := decide_eq_true (by omega)
    have d2 : decide (0 < n) = true := decide_eq_true hn
    have hw : IntKind.i64.wrap ((L.length : Int) - (p : Int)) = (L.length : Int) - (p : Int) := IntWalk.i64_in _ (by omega)
    have g0 : (0 : Int) ≤ (p : Int) := by omega
    have g1 : (p : Int) < (L.length : Int) := by omega
    go_enter Tryd.func99, Tryd.ntmps99
    go_wp2_with fail
    go_region_with (
      (go_at_call 35; go_must (refine Calls.mono (bref_any ((L.length : Int) - p) n _) ?_); rintro e w' ⟨rfl, rfl⟩))
    all_goals
      go_wp2
      have hb := (H.out.put p (refN ((L.length : Int) - p) n)).below (Below.refl _ _).drew
      exact bodyPost_end (v := .tuple #[]) (by simp [results, Tryd.results99, go_sem]) rfl ⟨rfl, by rw [HR.out]; exact hb, ButP.trans (ButP.set (Q := fun b => b = g) (ButP.refl _ _) (p := ⟨g, p, none⟩) rfl _) (ButP.of_below (Below.refl _ _).drew)⟩
  · have HR : Hid (referL p n L = L) := Lib.hid (if_neg hn)
    have d1 : decide ((0 : Int) < (n : Int)) = false := decide_eq_false (by omega)
    have d2 : decide (0 < n) = false := decide_eq_false hn
    go_enter Tryd.func99, Tryd.ntmps99
    go_wp2
    exact bodyPost_end (v := .tuple #[]) (by simp [results, Tryd.results99, go_sem]) rfl ⟨rfl, by rw [HR.out]; exact H.out, ButP.refl _ _⟩

end Go.Proofs.YthcachmcjekckaaDoor
