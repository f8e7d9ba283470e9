/- Rows of numbers: the same; heads. -/
import Derived.Test.YtkpffnihnhlghaaGreatDoorHMade
import Derived.Test.YtkpffnihnhlghaaGreatDoorPOnce
import Derived.Deep.RegionHeld3
import Derived.Deep.Cut
namespace Go.Proofs.YtkpffnihnhlghaaGreatDoor
open Go.RowKit
/-- A row of numbers. -/
def IRw (W : World) (v : Value) (L : List Int) : Prop := ∃ A cap, v = .slice A L.length cap ∧ (0 < L.length → ∃ b o, A = some ⟨b, o, none⟩ ∧ b < W.heap.size ∧ ∀ (j : Nat) (h : j < L.length), W.cell? ⟨b, o + j, none⟩ = some (.int .i64 L[j]))
theorem IRw.below {W W' : World} {v : Value} {L : List Int} (h : IRw W v L) (hb : Below W.heap.size W W') : IRw W' v L := by
  obtain ⟨A, cap, e, hc⟩ := h
  refine ⟨A, cap, e, fun h0 => ?_⟩
  obtain ⟨b, o, h1, h2, h3⟩ := hc h0
  exact ⟨b, o, h1, Nat.lt_of_lt_of_le h2 hb.size, fun j hj => (hb.cell (p := ⟨b, o + j, none⟩) h2).trans (h3 j hj)⟩
theorem own_irw {W : World} {B : Nat} {v : Value} {L : List Int} (h : W.ownsRow B 3 1 v L.length (L.map (Value.int .i64))) : IRw W v L := by
  have h' := h
  rcases h with ⟨hl, (⟨hn, h0⟩ | ⟨g, cap, cur, e', b1, b2, b3⟩)⟩
  · exact ⟨none, 0, by rw [hn, h0], fun h => by omega⟩
  · refine ⟨some ⟨g, 0, none⟩, cap, e', fun _ => ⟨g, 0, rfl, (Array.getElem?_eq_some_iff.1 b2).1, fun j hj => ?_⟩⟩
    subst e'
    have hc := h'.cellAt j (by omega)
    rw [Nat.zero_add, hc]
    simp [hj]
theorem irw_box (w : World) (L : List Int) (t : TypeId) : IRw (w.alloc (.cells (L.map (Value.int .i64)).toArray t)) (.slice (some ⟨w.heap.size, 0, none⟩) L.length L.length) L :=
  ⟨_, _, rfl, fun _ => ⟨w.heap.size, 0, rfl, by simp, fun j hj => by
    have h := World.rowIs_alloc w (L.map (Value.int .i64)).toArray t (fun j => .int .i64 (L.getD j 0)) (by intro j hj'; simp at hj'; simp [hj', List.getD])
    have h2 := h.cell (i := j) (by simpa using hj)
    rw [Nat.zero_add, h2]
    simp [List.getD, hj]⟩⟩
set_option maxRecDepth 100000 in
set_option maxHeartbeats 1000000 in
theorem same_eq (L : List Int) (hL : L.length ≤ 1000) (v v' : Value) (w : World) (h : IRw w v L) (h' : IRw w v' L) : Calls Tryz.prog 11 #[v, v'] w fun e w' => e = .returned (.bool true) ∧ Below w.heap.size w w' := by
  obtain ⟨A, cap, rfl, hc⟩ := h
  obtain ⟨A', cap', rfl, hc'⟩ := h'
  have HC := Lib.hid hc
  have HC' := Lib.hid hc'
  clear hc hc'
  obtain ⟨n, HN⟩ : ∃ n, Hid (L.length = n) := ⟨_, Lib.hid rfl⟩
  rw [HN.out] at hL ⊢
  go_enter Tryz.func11, Tryz.ntmps11
  go_wp2_with fail
  go_loopw [5] (fun iv wr => ∃ i : Nat, i ≤ n ∧ iv = .int .i64 i ∧ Hid (Below w.heap.size w wr)) (fun iv _ => n - (intOf iv).toNat)
  case atStart => exact ⟨0, by omega, rfl, Lib.hid (Below.refl _ _)⟩
  case round =>
    obtain ⟨i, hi, rfl, HB⟩ := hrel
    by_cases hin : i < n
    · obtain ⟨b, o, rfl, hb, hcc⟩ := HC.out (by have := HN.out; omega)
      obtain ⟨b', o', rfl, hb', hcc'⟩ := HC'.out (by have := HN.out; omega)
      have e1 := (HB.out.cell (p := ⟨b, o + i, none⟩) hb).trans (hcc i (by have := HN.out; omega))
      have e2 := (HB.out.cell (p := ⟨b', o' + i, none⟩) hb').trans (hcc' i (by have := HN.out; omega))
      generalize L[i]'(by have := HN.out; omega) = z at e1 e2
      clear hcc hcc'
      have g0 : (0 : Int) ≤ (i : Int) := by omega
      have g1 : (i : Int) < (n : Int) := by omega
      have hbw : b < wr.heap.size := Nat.lt_of_lt_of_le hb HB.out.size
      have hbw' : b' < wr.heap.size := Nat.lt_of_lt_of_le hb' HB.out.size
      go_wp2_with fail
      go_quiet (fail)
      go_wp2
      go_roundw
      case rel => first | exact ⟨i + 1, by omega, by go_num, Lib.hid (below_drewN HB.out _)⟩ | ((repeat apply Exists.intro); exact ⟨⟨i + 1, by omega, by go_num, Lib.hid (below_drewN HB.out _)⟩, rfl⟩)
      case measure => simp [intOf]; omega
    · have g1 : ¬ (i : Int) < (n : Int) := by omega
      go_wp2
      go_ret
      exact ⟨rfl, HB.out⟩

end Go.Proofs.YtkpffnihnhlghaaGreatDoor
