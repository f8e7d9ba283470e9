/- Top is a trouble's first code, Has tells whether a code is one of its codes. -/
import Derived.Test.YtplkeakkjkkfmaaDoorErrAs
namespace Go.Proofs.YtplkeakkjkkfmaaDoor
open Go.RowKit

set_option maxRecDepth 100000 in
set_option maxHeartbeats 1000000 in
theorem top_any (t : List (Int × Int)) (hok : Ok t) (ht : t.length ≤ 1000) (w : World) (hE : ErrT w) :
    Calls Tryd.prog 14 #[enc t] w fun e w' => e = .returned (.int .i64 (topP t)) ∧ Below w.heap.size w w' := by
  have HK := Lib.hid (fun W => known_any t hok ht W)
  have hal : Below w.heap.size w (w.alloc (.cells #[.int .i64 0] 38)) := (Below.refl _ w).alloc (Nat.le_refl _) _
  have Hal := Lib.hid hal; clear hal
  have HE := Lib.hid hE; clear hE
  by_cases hn : t = []
  · subst hn
    clear hok ht
    show Calls Tryd.prog 14 #[.nilIface] w _
    have HK2 : Hid (∀ W, Calls Tryd.prog 30 #[.nilIface] W fun e w' => e = .returned .nilIface ∧ Below W.heap.size W w') := HK.out
    clear HK
    go_enter Tryd.func14, Tryd.ntmps14
    go_wp2_with (first | (go_at_call 30; refine (HK2.out _).mono ?_; rintro e w1 ⟨rfl, hb1⟩) | (go_at_call 25; refine (errors_as_nil _ _).mono ?_; rintro e w' ⟨rfl, rfl⟩))
    go_ret
    exact ⟨rfl, Hal.out.trans (hb1.mono (by simp))⟩
  · have HA := Lib.hid (fun W h1 h2 => errors_as w.heap.size t hn hok W h1 h2)
    have Hnew := Lib.hid (Boxed.new w 38 (.int .i64 0))
    clear hn hok ht
    go_enter Tryd.func14, Tryd.ntmps14
    go_wp2_with fail
    refine (HK.out _).mono ?_
    rintro e w1 ⟨rfl, hb1⟩
    go_wp2_with fail
    refine (HA.out _ ⟨0, boxed_below Hnew.out hb1⟩ (HE.out.below (Hal.out.trans (hb1.mono (by simp))))).mono ?_
    rintro e w2 ⟨rfl, hF⟩
    have hc := hF.box.cell
    have hB : Below w.heap.size w w2 := by
      have h1 : Below w.heap.size w w1 := Hal.out.trans (hb1.mono (by simp))
      exact h1.grown hF.but h1.size (fun k e => by cases e; exact Nat.le_refl _)
    clear hF hb1
    go_wp2
    go_ret
    exact ⟨rfl, hB⟩

/-- What Has tells. -/
def hasT (t : List (Int × Int)) (d : Int) : Bool := if t.isEmpty then d == 0 else hasP t d

set_option maxRecDepth 100000 in
set_option maxHeartbeats 1000000 in
theorem has_any (t : List (Int × Int)) (d : Int) (hok : Ok t) (ht : t.length ≤ 1000) (w : World) :
    Calls Tryd.prog 20 #[enc t, .int .i64 d] w fun e w' => e = .returned (.bool (hasT t d)) ∧ Below w.heap.size w w' := by
  cases t with
  | nil =>
    show Calls Tryd.prog 20 #[.nilIface, .int .i64 d] w _
    go_enter Tryd.func20, Tryd.ntmps20
    go_wp2
    go_ret
    exact ⟨rfl, Below.refl _ _⟩
  | cons x r =>
    have HK := Lib.hid (fun W => known_any (x :: r) hok ht W)
    have HI := Lib.hid (fun W => errors_is d (x :: r) hok W)
    have e1 : hasT (x :: r) d = hasP (x :: r) d := rfl
    rw [e1]
    obtain ⟨T, u, hx⟩ := enc_cons x r
    rw [hx] at HK HI ⊢
    clear hx e1 hok ht
    go_enter Tryd.func20, Tryd.ntmps20
    go_wp2_with fail
    refine (HK.out _).mono ?_
    rintro e w1 ⟨rfl, hb1⟩
    go_wp2_with fail
    refine (HI.out _).mono ?_
    rintro e w2 ⟨rfl, hb2⟩
    go_wp2
    go_ret
    exact ⟨rfl, hb1.trans (hb2.mono hb1.size)⟩

end Go.Proofs.YtplkeakkjkkfmaaDoor
