/- The document's own look: its box; what is wrong, what is claimed. -/
import Derived.Test.YtkhbhkllnigbgaaDoorVTwo
namespace Go.Proofs.YtkhbhkllnigbgaaDoor
open Go.ChangeShapes Go.WideShapes Go.ChangeAt Go.RowKit
def vcode (r : VR) : Nat := match r.1 with
  | none => 0
  | some e => e.1
def vat (r : VR) : Nat := match r.1 with
  | none => 0
  | some e => e.2
/-- The document's look in its box at q. -/
structure RK (w : World) (q : Nat) (r : VR) (W : World) : Prop where
  box : W.rowIs q 106 4 (fun j => if j = 0 then .int .i64 (vcode r : Nat) else if j = 1 then .int .i64 (vat r : Nat) else if j = 2 then .bool r.1.isSome else .int .i64 (r.2 : Nat))
  be : Below w.heap.size w W
  qb : w.heap.size ≤ q
section
variable {w : World} {q : Nat} {r : VR} {W W' : World}
theorem RK.below (h : RK w q r W) (hb : Below W.heap.size W W') : RK w q r W' := ⟨h.box.of_block (hb.block _ h.box.lt), Below.step h.be hb h.be.size, h.qb⟩
theorem RK.all (h : RK w q r W) : W.cell? ⟨q, 0, none⟩ = some (.int .i64 (vcode r : Nat)) ∧ W.cell? ⟨q, 1, none⟩ = some (.int .i64 (vat r : Nat)) ∧ W.cell? ⟨q, 2, none⟩ = some (.bool r.1.isSome) ∧ W.cell? ⟨q, 3, none⟩ = some (.int .i64 (r.2 : Nat)) ∧ (∀ j, W.frozen? ⟨q, j, none⟩ = false) ∧ q < W.heap.size :=
  ⟨h.box.cell (i := 0) (by omega), h.box.cell (i := 1) (by omega), h.box.cell (i := 2) (by omega), h.box.cell (i := 3) (by omega), h.box.frozen, h.box.lt⟩
/-- The same, with what was there in W0 as it was, but for the box. -/
def RF (W0 : World) (w : World) (q : Nat) (r : VR) (W : World) : Prop := RK w q r W ∧ ButP (fun b => b = q) W0 W
set_option maxRecDepth 100000 in
set_option maxHeartbeats 1000000 in
theorem r8wrong_any (c k p : Nat) (H : Hid (RK w q (none, c) W)) : Calls Tryd.prog 78 #[.pointer (some ⟨q, 0, none⟩), .int .i64 (k : Int), .int .i64 (p : Int)] W fun e W' => e = .returned (.tuple #[]) ∧ RF W w q (some (k, p), c) W' := by
  obtain ⟨c0, c1, c2, c3, cf, hq⟩ := RK.all H.out
  have f0 := cf 0
  have f1 := cf 1
  have f2 := cf 2
  have c0 : W.cell? ⟨q, 0, none⟩ = some (.int .i64 0) := c0
  go_enter Tryd.func78, Tryd.ntmps78
  go_wp2
  refine bodyPost_end (v := .tuple #[]) (by simp [results, Tryd.results78, go_sem]) rfl ⟨rfl, ⟨?_, ?_, H.out.qb⟩, ?_⟩
  · exact (((H.out.box.set 0 (.int .i64 (k : Int))).set 1 (.int .i64 (p : Int))).set 2 (.bool true)).congr fun j hj => (by match j, hj with | 0, _ => rfl | 1, _ => rfl | 2, _ => rfl | 3, _ => rfl)
  · exact ((H.out.be.setCell (p := ⟨q, 0, none⟩) H.out.qb _).setCell (p := ⟨q, 1, none⟩) H.out.qb _).setCell (p := ⟨q, 2, none⟩) H.out.qb _
  · exact ((ButP.set (Q := fun b => b = q) (p := ⟨q, 0, none⟩) (ButP.refl _ _) rfl _).set (p := ⟨q, 1, none⟩) rfl _).set (p := ⟨q, 2, none⟩) rfl _
set_option maxRecDepth 100000 in
set_option maxHeartbeats 1000000 in
theorem r8claim_any (c : Nat) (hc : c ≤ 1000) (A : Option Addr) (N cw : Nat) (hN : 1 ≤ N ∧ N ≤ 200) (p zt k : Nat) (hto : zt ≤ 100000000000) (hk : k ≤ 1000) (H : Hid (RK w q (none, c) W)) : Calls Tryd.prog 79 #[.pointer (some ⟨q, 0, none⟩), .slice A N cw, .int .i64 (zt : Int), .int .i64 (k : Int), .int .i64 (p : Int)] W fun e W' => e = .returned (.tuple #[]) ∧ RF W w q (claimV N p zt k c) W' := by
  obtain ⟨c0, c1, c2, c3, cf, hq⟩ := RK.all H.out
  have f3 := cf 3
  have c3 : W.cell? ⟨q, 3, none⟩ = some (.int .i64 (c : Nat)) := c3
  have H2 : Hid (RK w q (none, c + k) (W.setCell ⟨q, 3, none⟩ (.int .i64 ((c : Int) + (k : Int))))) := Lib.hid ⟨(H.out.box.set 3 _).congr fun j hj => (by match j, hj with | 0, _ => rfl | 1, _ => rfl | 2, _ => rfl | 3, _ => rfl), H.out.be.setCell (p := ⟨q, 3, none⟩) H.out.qb _, H.out.qb⟩
  have HP2 : Hid (ButP (fun b => b = q) W (W.setCell ⟨q, 3, none⟩ (.int .i64 ((c : Int) + (k : Int))))) := Lib.hid (ButP.set (Q := fun b => b = q) (p := ⟨q, 3, none⟩) (ButP.refl _ _) rfl _)
  by_cases h1 : N < zt + k
  · have e : claimV N p zt k c = (some (23, p), c + k) := by unfold claimV; rw [if_pos h1]
    rw [e]
    have d1 : decide ((N : Int) < (zt : Int) + (k : Int)) = true := by simp; omega
    go_enter Tryd.func79, Tryd.ntmps79
    go_wp2_with fail
    refine (r8wrong_any (c + k) 23 p H2).mono ?_
    rintro e w' ⟨rfl, h9, h8⟩
    go_wp2
    exact bodyPost_end (v := .tuple #[]) (by simp [results, Tryd.results79, go_sem]) rfl ⟨rfl, h9, ButP.trans HP2.out h8⟩
  · have d1 : decide ((N : Int) < (zt : Int) + (k : Int)) = false := by simp; omega
    have W2 : ∃ V, Hid (V = W.setCell ⟨q, 3, none⟩ (.int .i64 ((c : Int) + (k : Int)))) := ⟨_, Lib.hid rfl⟩
    obtain ⟨V, HV⟩ := W2
    rw [← HV.out] at H2 HP2
    by_cases h2 : N - 1 < c + k
    · have e : claimV N p zt k c = (some (16, p), c + k) := by unfold claimV; rw [if_neg h1, if_pos h2]
      rw [e]
      have d2 : decide ((N : Int) - 1 < (c : Int) + (k : Int)) = true := by simp; omega
      go_enter Tryd.func79, Tryd.ntmps79
      go_wp2_with fail
      rw [← HV.out]
      refine (r8wrong_any (c + k) 16 p H2).mono ?_
      rintro e w' ⟨rfl, h9, h8⟩
      go_wp2
      exact bodyPost_end (v := .tuple #[]) (by simp [results, Tryd.results79, go_sem]) rfl ⟨rfl, h9, ButP.trans HP2.out h8⟩
    · have e : claimV N p zt k c = (none, c + k) := by unfold claimV; rw [if_neg h1, if_neg h2]
      rw [e]
      have d2 : decide ((N : Int) - 1 < (c : Int) + (k : Int)) = false := by simp; omega
      go_enter Tryd.func79, Tryd.ntmps79
      go_wp2_with fail
      rw [← HV.out]
      exact bodyPost_end (v := .tuple #[]) (by simp [results, Tryd.results79, go_sem]) rfl ⟨rfl, H2.out, HP2.out⟩
end

end Go.Proofs.YtkhbhkllnigbgaaDoor
