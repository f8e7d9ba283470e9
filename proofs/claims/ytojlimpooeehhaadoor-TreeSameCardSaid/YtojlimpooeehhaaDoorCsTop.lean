/- Top is a trouble's first code, Has tells whether a code is one of its codes. -/
import Derived.Test.YtojlimpooeehhaaDoorCsErrAs
namespace Go.Proofs.YtojlimpooeehhaaDoor.Cs
open Go.RowKit


set_option maxRecDepth 100000 in
set_option maxHeartbeats 1000000 in
theorem top_any (t : List (Int × Int)) (hok : Ok t) (ht : t.length ≤ 1000) (w : World) (hE : ErrT w) :
    Calls Tryd.prog 28 #[enc t] w fun e w' => e = .returned (.int .i64 (topP t)) ∧ Below w.heap.size w w' := by
  have HK := Lib.hid (fun W => known_any t hok ht W)
  have hal : Below w.heap.size w (w.alloc (.cells #[.int .i64 0] 57)) := (Below.refl _ w).alloc (Nat.le_refl _) _
  have Hal := Lib.hid hal; clear hal
  have HE := Lib.hid hE; clear hE
  by_cases hn : t = []
  · subst hn
    clear hok ht
    show Calls Tryd.prog 28 #[.nilIface] w _
    have HK2 : Hid (∀ W, Calls Tryd.prog 50 #[.nilIface] W fun e w' => e = .returned .nilIface ∧ Below W.heap.size W w') := HK.out
    clear HK
    go_enter Tryd.func28, Tryd.ntmps28
    go_wp2_with (first | (go_at_call 50; refine (HK2.out _).mono ?_; rintro e w1 ⟨rfl, hb1⟩) | (go_at_call 49; refine (errors_as_nil _ _).mono ?_; rintro e w' ⟨rfl, rfl⟩))
    go_ret
    exact ⟨rfl, Hal.out.trans (hb1.mono (by simp))⟩
  · have HA := Lib.hid (fun W h1 h2 => errors_as w.heap.size t hn hok W h1 h2)
    have Hnew := Lib.hid (Boxed.new w 57 (.int .i64 0))
    clear hn hok ht
    go_enter Tryd.func28, Tryd.ntmps28
    go_wp2_with fail
    refine (HK.out _).mono ?_
    rintro e w1 ⟨rfl, hb1⟩
    go_wp2_with fail
    refine (HA.out _ ⟨0, boxed_below Hnew.out hb1⟩ (HE.out.below (Hal.out.trans (hb1.mono (by simp))))).mono ?_
    rintro e w2 ⟨rfl, hF⟩
    have hc := hF.box.cell
    have hB : Below w.heap.size w w2 := by
      have h1 : Below w.heap.size w w1 := Hal.out.trans (hb1.mono (by simp))
      exact h1.grown hF.but h1.size (fun k e => by cases e; exact Nat.le_refl _)
    clear hF hb1
    go_wp2
    go_ret
    exact ⟨rfl, hB⟩

end Go.Proofs.YtojlimpooeehhaaDoor.Cs
