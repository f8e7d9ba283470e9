/- Err, Steps, Len; the document's own arena. -/
import Derived.Test.YtkhbhkllnigbgaaDoorWords
import Derived.LoopTactic
namespace Go.Proofs.YtkhbhkllnigbgaaDoor
open Go.RowKit
/-- The cells of the document's own arena. -/
def objR (c n : Nat) (x : St) : Nat → Value
  | 0 => .slice (some ⟨c, 0, none⟩) n n
  | 1 => .int .i64 x.s
  | 2 => .int .i64 x.k
  | 3 => .int .i64 x.i
  | 4 => .int .u64 x.v
  | 5 => .bool x.ch
  | 6 => .bool x.e.isSome
  | _ => .int .i64 (x.e.getD 0)

structure RS (w : World) (p c n : Nat) (x : St) : Prop where
  obj : w.rowIs p 90 8 (objR c n x)
  row : w.rowIs c 26 n (fun j => .int .u64 (x.f j))
  ne : p ≠ c

theorem RS.c (j : Nat) {w : World} {p c n : Nat} {x : St} (h : RS w p c n x) (hj : j < 8) : w.cell? ⟨p, j, none⟩ = some (objR c n x j) := h.obj.cell hj

theorem RS.below {w w' : World} {p c n B : Nat} {x : St} (h : RS w p c n x) (hb : Below B w w') (h1 : p < B) (h2 : c < B) : RS w' p c n x := ⟨h.obj.of_block (hb.block _ h1), h.row.of_block (hb.block _ h2), h.ne⟩
/-- It stands where another arena has changed. -/
theorem RS.only {w w' : World} {p c n p' c' : Nat} {x : St} (h : RS w p c n x) (b : Only p' c' w w') (h1 : p ≠ p') (h2 : p ≠ c') (h3 : c ≠ p') (h4 : c ≠ c') : RS w' p c n x :=
  ⟨h.obj.of_block (b.block _ h.obj.lt h1 h2), h.row.of_block (b.block _ h.row.lt h3 h4), h.ne⟩
def St.begun (x : St) (k i : Int) : St := { x with s := x.s + 1, k := k, i := i, v := 0, ch := false }

set_option maxHeartbeats 400000 in
theorem r_new (n : Nat) (h1 : 1 ≤ n) (h2 : n ≤ 4096) (w : World) : Calls Tryd.prog 69 #[.int .i64 n] w fun e w' => e = .returned (.pointer (some ⟨w.heap.size + 1, 0, none⟩)) ∧ RS w' (w.heap.size + 1) w.heap.size n St.zero ∧ Below w.heap.size w w' := by
  have hmk := run_make_row' (P := Tryd.prog) 22 26 (.int .u64 0) 8 Tryd.underlying22 info_u64 rfl .i64 .i64 n (by omega) (by omega)
  go_enter Tryd.func69, Tryd.ntmps69
  go_wp2
  go_ret
  refine ⟨rfl, ⟨?_, new_row _ _ _, by omega⟩, ((Below.refl _ _).alloc (Nat.le_refl _) _).alloc (by simp) _⟩
  have h := World.rowIs_alloc (w.alloc (.cells (madeCells #[.int .u64 0] n) 26)) #[.slice (some ⟨w.heap.size, 0, none⟩) n n, .int .i64 0, .int .i64 0, .int .i64 0, .int .u64 0, .bool false, .bool false, .int .i64 0] 90 (objR w.heap.size n St.zero) (by intro j hj; match j, hj with | 0, _ => rfl | 1, _ => rfl | 2, _ => rfl | 3, _ => rfl | 4, _ => rfl | 5, _ => rfl | 6, _ => rfl | 7, _ => rfl)
  simp only [World.size_alloc] at h
  exact h

theorem Only.s1 {p c : Nat} {a b : World} (h : Only p c a b) (j : Nat) (u : Value) : Only p c a (b.setCell ⟨p, j, none⟩ u) := h.set (q := ⟨p, j, none⟩) (.inl rfl) u


end Go.Proofs.YtkhbhkllnigbgaaDoor
