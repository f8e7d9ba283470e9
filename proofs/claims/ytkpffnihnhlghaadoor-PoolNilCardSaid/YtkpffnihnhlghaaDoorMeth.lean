/- An arena's state as a value; the methods: New, Load, Store, Swap, Last. -/
import Derived.Test.YtkpffnihnhlghaaDoorStepL
import Derived.Test.YtkpffnihnhlghaaDoorStepS
import Derived.Test.YtkpffnihnhlghaaDoorStepH
import Derived.Test.YtkpffnihnhlghaaDoorStepM
import Derived.Deep.OwnRows
namespace Go.Proofs.YtkpffnihnhlghaaDoor
open Go.RowKit
/-- The trouble of a step where there is no i-th word. -/
def trouble (i : Int) : Value := .iface 234 (.agg #[.iface 46 (.int .i64 23), .int .i64 i])
def errV : Option Int → Value
  | none => .nilIface
  | some i => trouble i

set_option maxHeartbeats 400000 in
theorem c_new (w : World) : Calls Tryd.prog 52 #[.int .i64 23] w fun e w' => e = .returned (.iface 46 (.int .i64 23)) ∧ w = w' := by
  go_enter Tryd.func52, Tryd.ntmps52
  go_wp2
  go_ret
  exact ⟨rfl, rfl⟩

set_option maxHeartbeats 400000 in
theorem c_at (n : Int) (t : TypeId) (u : Value) (w : World) : Calls Tryd.prog 154 #[.iface t u, .int .i64 n] w fun e w' => e = .returned (.iface 234 (.agg #[.iface t u, .int .i64 n])) ∧ w = w' := by
  go_enter Tryd.func154, Tryd.ntmps154
  go_wp2
  go_ret
  exact ⟨rfl, rfl⟩

set_option maxHeartbeats 400000 in
theorem fail_first (w : World) (p : Nat) (i : Int) (hc : w.cell? ⟨p, 6, none⟩ = some .nilIface) (hf : w.frozen? ⟨p, 6, none⟩ = false) : Calls Tryd.prog 144 #[.pointer (some ⟨p, 0, none⟩), .int .i64 i] w fun e w' => e = .returned (.tuple #[]) ∧ w' = w.setCell ⟨p, 6, none⟩ (trouble i) := by
  go_enter Tryd.func144, Tryd.ntmps144
  go_wp2_with (first
    | (go_at_call 52; refine (c_new _).mono ?_; rintro e w' ⟨rfl, rfl⟩)
    | (go_at_call 154; refine (c_at _ _ _ _).mono ?_; rintro e w' ⟨rfl, rfl⟩))
  go_end0
  exact ⟨rfl, rfl⟩

set_option maxHeartbeats 400000 in
theorem fail_again (w : World) (p : Nat) (i : Int) (t : TypeId) (u : Value) (hc : w.cell? ⟨p, 6, none⟩ = some (.iface t u)) : Calls Tryd.prog 144 #[.pointer (some ⟨p, 0, none⟩), .int .i64 i] w fun e w' => e = .returned (.tuple #[]) ∧ w' = w := by
  go_enter Tryd.func144, Tryd.ntmps144
  go_wp2
  go_end0
  exact ⟨rfl, rfl⟩

theorem fail_any (w : World) (p c n : Nat) (f : Nat → Int) (s k i v : Int) (ch : Bool) (E : Option Int) (h : Ar w p c n f s k i v ch (errV E)) (j : Int) :
    Calls Tryd.prog 144 #[.pointer (some ⟨p, 0, none⟩), .int .i64 j] w fun e w' => e = .returned (.tuple #[]) ∧ Ar w' p c n f s k i v ch (errV (some (E.getD j))) ∧ Only p c w w' ∧ (∀ b, b ≠ p → w'.heap[b]? = w.heap[b]?) := by
  cases E with
  | none =>
    refine (fail_first w p j h.c6 (h.obj.frozen 6)).mono ?_
    rintro e w' ⟨rfl, rfl⟩
    exact ⟨rfl, h.setE _, (Only.refl p c w).set (q := ⟨p, 6, none⟩) (.inl rfl) _, fun b hb => Below.heap_setCell _ _ _ _ hb⟩
  | some x =>
    refine (fail_again w p j _ _ h.c6).mono ?_
    rintro e w' ⟨rfl, rfl⟩
    exact ⟨rfl, h, Only.refl _ _ _, fun _ _ => rfl⟩

set_option maxRecDepth 100000 in
set_option maxHeartbeats 1000000 in
theorem step_out (w : World) (p c n : Nat) (f : Nat → Int) (s k i v : Int) (ch : Bool) (E : Option Int) (h : Ar w p c n f s k i v ch (errV E)) (h0 : 0 ≤ s) (h1 : s < 1000000) (K m : Int) (d : Value) (hm : m < 0 ∨ (n : Int) ≤ m) :
    Calls Tryd.prog 114 #[.pointer (some ⟨p, 0, none⟩), .int .i64 K, .int .i64 m, d] w fun e w' => e = .returned (.agg #[.int .i64 K, .int .i64 m, .int .u64 0, .bool false]) ∧ Ar w' p c n f (s + 1) K m 0 false (errV (some (E.getD m))) ∧ Only p c w w' := by
  have c0 := h.c0
  have c1 := h.c1
  have c2 := h.c2
  have c3 := h.c3
  have c4 := h.c4
  have c5 := h.c5
  have hp := h.obj.lt
  have hcl := h.row.lt
  have hpc := h.ne
  have fr := h.obj.frozen
  have hmd : decide (m < 0) = true ∨ (decide (m < 0) = false ∧ decide ((n : Int) ≤ m) = true) := by
    rcases Int.lt_or_le m 0 with g | g
    · exact .inl (by simpa using g)
    · exact .inr ⟨by simpa using g, by simp; omega⟩
  clear hm
  go_enter Tryd.func114, Tryd.ntmps114
  go_wp2_with fail
  refine (add_one p s _ h0 h1 (by go_simp) (by go_simp)).mono ?_
  rintro e w' ⟨rfl, rfl⟩
  rcases hmd with hm1 | ⟨hm1, hm2⟩
  all_goals
    go_wp2_with fail
    have hA := h.begun (s + 1) K m (.cells #[.int .i64 0, .int .i64 0, .int .u64 0, .bool false] 82)
    have hO := Only.begun w p c (.int .i64 (s + 1)) (.int .i64 K) (.int .i64 m) (.int .u64 0) (.bool false) (.cells #[.int .i64 0, .int .i64 0, .int .u64 0, .bool false] 82)
    have hR := begun_row w p (.int .i64 (s + 1)) (.int .i64 K) (.int .i64 m) (.int .u64 0) (.bool false)
    clear c0 c1 c2 c3 c4 c5 fr h
    revert hA hO hR
    generalize (((((w.setCell ⟨p, 1, none⟩ (.int .i64 (s + 1))).setCell ⟨p, 2, none⟩ (.int .i64 K)).setCell ⟨p, 3, none⟩ (.int .i64 m)).setCell ⟨p, 4, none⟩ (.int .u64 0)).setCell ⟨p, 5, none⟩ (.bool false)).alloc (.cells #[.int .i64 0, .int .i64 0, .int .u64 0, .bool false] 82) = W
    intro hA hO hR
    refine (fail_any W p c n f (s + 1) K m 0 false E hA m).mono ?_
    rintro e W2 ⟨rfl, hB, hO2, hb⟩
    have hS := hR.of_block (hb w.heap.size (by omega))
    have hP := hO.trans hO2
    clear hb hO2 hR hO hA
    have c0 := hB.c0
    have c2 := hB.c2
    have c3 := hB.c3
    have c4 := hB.c4
    have c5 := hB.c5
    have r0 := hS.cell (i := 0) (by omega)
    have r1 := hS.cell (i := 1) (by omega)
    have r2 := hS.cell (i := 2) (by omega)
    have r3 := hS.cell (i := 3) (by omega)
    have rf := hS.frozen
    have hd : w.heap.size ≠ p := by omega
    have hd' : p ≠ w.heap.size := by omega
    have hc' : c ≠ w.heap.size := by omega
    go_wp2
    have e0 : ∀ u : Value, Ar _ p c n _ _ _ _ _ _ _ := fun u => (((hB.setOther (a := ⟨w.heap.size, 0, none⟩) hd' hc' (.int .i64 K)).setOther (a := ⟨w.heap.size, 1, none⟩) hd' hc' (.int .i64 m)).setOther (a := ⟨w.heap.size, 2, none⟩) hd' hc' (.int .u64 0)).setOther (a := ⟨w.heap.size, 3, none⟩) hd' hc' u
    have e1 : ∀ u : Value, Only p c w _ := fun u => (((hP.set (q := ⟨w.heap.size, 0, none⟩) (.inr (.inr (Nat.le_refl _))) (.int .i64 K)).set (q := ⟨w.heap.size, 1, none⟩) (.inr (.inr (Nat.le_refl _))) (.int .i64 m)).set (q := ⟨w.heap.size, 2, none⟩) (.inr (.inr (Nat.le_refl _))) (.int .u64 0)).set (q := ⟨w.heap.size, 3, none⟩) (.inr (.inr (Nat.le_refl _))) u
    exact bodyPost_ret (v := .agg #[.int .i64 K, .int .i64 m, .int .u64 0, .bool false]) (by simp [results, Tryd.results114, go_sem, r0, r1, r2, r3]) rfl ⟨rfl, e0 _, e1 _⟩

end Go.Proofs.YtkpffnihnhlghaaDoor
