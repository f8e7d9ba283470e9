/- Err, Steps, Len; the document's own arena. -/
import Derived.Test.YtkpffnihnhlghaaDoorWords
import Derived.LoopTactic
namespace Go.Proofs.YtkpffnihnhlghaaDoor
open Go.RowKit
set_option maxHeartbeats 400000 in
theorem aload_any (p : Nat) (s : Int) (w : World) (hc : w.cell? ⟨p, 1, none⟩ = some (.int .i64 s)) : Calls Tryd.prog 78 #[.pointer (some ⟨p, 1, none⟩)] w fun e w' => e = .returned (.int .i64 s) ∧ w = w' := by
  have hld := run_call_load (P := Tryd.prog) Tryd.func119 (by kernel_rfl) (by kernel_rfl) (by kernel_rfl) .i64 (by kernel_rfl) hc
  go_enter Tryd.func78, Tryd.ntmps78
  go_wp2
  go_ret
  exact ⟨rfl, rfl⟩

set_option maxHeartbeats 400000 in
theorem steps_any (w : World) (p c n : Nat) (x : St) (h : ArS w p c n x) : Calls Tryd.prog 33 #[.pointer (some ⟨p, 0, none⟩)] w fun e w' => e = .returned (.int .i64 x.s) ∧ w = w' := by
  have c1 := h.c1
  clear h
  go_enter Tryd.func33, Tryd.ntmps33
  go_wp2_with (go_at_call 78; refine (aload_any p x.s _ c1).mono ?_; rintro e w' ⟨rfl, rfl⟩)
  go_ret
  exact ⟨rfl, rfl⟩

/-- The cells of the document's own arena. -/
def objR (c n : Nat) (x : St) : Nat → Value
  | 0 => .slice (some ⟨c, 0, none⟩) n n
  | 1 => .int .i64 x.s
  | 2 => .int .i64 x.k
  | 3 => .int .i64 x.i
  | 4 => .int .u64 x.v
  | 5 => .bool x.ch
  | 6 => .bool x.e.isSome
  | _ => .int .i64 (x.e.getD 0)

structure RS (w : World) (p c n : Nat) (x : St) : Prop where
  obj : w.rowIs p 85 8 (objR c n x)
  row : w.rowIs c 29 n (fun j => .int .u64 (x.f j))
  ne : p ≠ c

theorem RS.c (j : Nat) {w : World} {p c n : Nat} {x : St} (h : RS w p c n x) (hj : j < 8) : w.cell? ⟨p, j, none⟩ = some (objR c n x j) := h.obj.cell hj

theorem RS.below {w w' : World} {p c n B : Nat} {x : St} (h : RS w p c n x) (hb : Below B w w') (h1 : p < B) (h2 : c < B) : RS w' p c n x := ⟨h.obj.of_block (hb.block _ h1), h.row.of_block (hb.block _ h2), h.ne⟩
/-- It stands where another arena has changed. -/
theorem RS.only {w w' : World} {p c n p' c' : Nat} {x : St} (h : RS w p c n x) (b : Only p' c' w w') (h1 : p ≠ p') (h2 : p ≠ c') (h3 : c ≠ p') (h4 : c ≠ c') : RS w' p c n x :=
  ⟨h.obj.of_block (b.block _ h.obj.lt h1 h2), h.row.of_block (b.block _ h.row.lt h3 h4), h.ne⟩
theorem Ar.only {w w' : World} {p c n p' c' : Nat} {x : St} (h : ArS w p c n x) (b : Only p' c' w w') (h1 : p ≠ p') (h2 : p ≠ c') (h3 : c ≠ p') (h4 : c ≠ c') : ArS w' p c n x :=
  ⟨h.obj.of_block (b.block _ h.obj.lt h1 h2), h.row.of_block (b.block _ h.row.lt h3 h4), h.ne⟩

def St.begun (x : St) (k i : Int) : St := { x with s := x.s + 1, k := k, i := i, v := 0, ch := false }

set_option maxHeartbeats 400000 in
theorem r_new (n : Nat) (h1 : 1 ≤ n) (h2 : n ≤ 4096) (w : World) : Calls Tryd.prog 67 #[.int .i64 n] w fun e w' => e = .returned (.pointer (some ⟨w.heap.size + 1, 0, none⟩)) ∧ RS w' (w.heap.size + 1) w.heap.size n St.zero ∧ Below w.heap.size w w' := by
  have hmk := run_make_row' (P := Tryd.prog) 25 29 (.int .u64 0) 8 Tryd.underlying25 info_u64 rfl .i64 .i64 n (by omega) (by omega)
  go_enter Tryd.func67, Tryd.ntmps67
  go_wp2
  go_ret
  refine ⟨rfl, ⟨?_, new_row _ _ _, by omega⟩, ((Below.refl _ _).alloc (Nat.le_refl _) _).alloc (by simp) _⟩
  have h := World.rowIs_alloc (w.alloc (.cells (madeCells #[.int .u64 0] n) 29)) #[.slice (some ⟨w.heap.size, 0, none⟩) n n, .int .i64 0, .int .i64 0, .int .i64 0, .int .u64 0, .bool false, .bool false, .int .i64 0] 85 (objR w.heap.size n St.zero) (by intro j hj; match j, hj with | 0, _ => rfl | 1, _ => rfl | 2, _ => rfl | 3, _ => rfl | 4, _ => rfl | 5, _ => rfl | 6, _ => rfl | 7, _ => rfl)
  simp only [World.size_alloc] at h
  exact h

theorem Only.s1 {p c : Nat} {a b : World} (h : Only p c a b) (j : Nat) (u : Value) : Only p c a (b.setCell ⟨p, j, none⟩ u) := h.set (q := ⟨p, j, none⟩) (.inl rfl) u

set_option maxHeartbeats 400000 in
theorem rstep_in (w : World) (p c n : Nat) (x : St) (h : RS w p c n x) (h0 : 0 ≤ x.s) (h1 : x.s < 1000000) (K : Int) (m : Nat) (hm : m < n) :
    Calls Tryd.prog 117 #[.pointer (some ⟨p, 0, none⟩), .int .i64 K, .int .i64 m] w fun e w' => e = .returned (.bool true) ∧ RS w' p c n (x.begun K m) ∧ Only p c w w' := by
  have c0 := h.c 0 (by omega)
  have c1 := h.c 1 (by omega)
  have c2 := h.c 2 (by omega)
  have c3 := h.c 3 (by omega)
  have c4 := h.c 4 (by omega)
  have c5 := h.c 5 (by omega)
  simp only [objR] at c0 c1 c2 c3 c4 c5
  have fr := h.obj.frozen
  go_enter Tryd.func117, Tryd.ntmps117
  go_wp2
  go_ret
  refine ⟨rfl, ⟨(((((h.obj.set 1 _).set 2 _).set 3 _).set 4 _).set 5 _).congr ?_, ((((h.row.setOther (a := ⟨p, 1, none⟩) h.ne.symm _).setOther (a := ⟨p, 2, none⟩) h.ne.symm _).setOther (a := ⟨p, 3, none⟩) h.ne.symm _).setOther (a := ⟨p, 4, none⟩) h.ne.symm _).setOther (a := ⟨p, 5, none⟩) h.ne.symm _, h.ne⟩, (((((Only.refl p c w).s1 1 _).s1 2 _).s1 3 _).s1 4 _).s1 5 _⟩
  intro j hj; match j, hj with | 0, _ => rfl | 1, _ => rfl | 2, _ => rfl | 3, _ => rfl | 4, _ => rfl | 5, _ => rfl | 6, _ => rfl | 7, _ => rfl

set_option maxHeartbeats 400000 in
theorem rstep_out (w : World) (p c n : Nat) (x : St) (h : RS w p c n x) (h0 : 0 ≤ x.s) (h1 : x.s < 1000000) (K m : Int) (hm : m < 0 ∨ (n : Int) ≤ m) :
    Calls Tryd.prog 117 #[.pointer (some ⟨p, 0, none⟩), .int .i64 K, .int .i64 m] w fun e w' => e = .returned (.bool false) ∧ RS w' p c n (x.out K m) ∧ Only p c w w' := by
  have c0 := h.c 0 (by omega)
  have c1 := h.c 1 (by omega)
  have c2 := h.c 2 (by omega)
  have c3 := h.c 3 (by omega)
  have c4 := h.c 4 (by omega)
  have c5 := h.c 5 (by omega)
  have c6 := h.c 6 (by omega)
  have c7 := h.c 7 (by omega)
  simp only [objR] at c0 c1 c2 c3 c4 c5 c6 c7
  have fr := h.obj.frozen
  have hmd : decide (0 ≤ m) = false ∨ (decide (0 ≤ m) = true ∧ decide (m < (n : Int)) = false) := by
    rcases Int.lt_or_le m 0 with g | g
    · exact .inl (by simpa using g)
    · exact .inr ⟨by simpa using g, by simp; omega⟩
  clear hm
  cases hE : x.e with
  | none =>
    rw [hE] at c6 c7
    simp only [Option.isSome_none, Option.getD_none] at c6 c7
    have HE := Lib.hid hE
    clear hE
    rcases hmd with hm1 | ⟨hm1, hm2⟩
    all_goals
      go_enter Tryd.func117, Tryd.ntmps117
      go_wp2
      go_ret
      refine ⟨rfl, ⟨(((((((h.obj.set 1 _).set 2 _).set 3 _).set 4 _).set 5 _).set 6 _).set 7 _).congr ?_, ((((((h.row.setOther (a := ⟨p, 1, none⟩) h.ne.symm _).setOther (a := ⟨p, 2, none⟩) h.ne.symm _).setOther (a := ⟨p, 3, none⟩) h.ne.symm _).setOther (a := ⟨p, 4, none⟩) h.ne.symm _).setOther (a := ⟨p, 5, none⟩) h.ne.symm _).setOther (a := ⟨p, 6, none⟩) h.ne.symm _).setOther (a := ⟨p, 7, none⟩) h.ne.symm _, h.ne⟩, (((((((Only.refl p c w).s1 1 _).s1 2 _).s1 3 _).s1 4 _).s1 5 _).s1 6 _).s1 7 _⟩
      intro j hj
      have hE := HE.out
      match j, hj with | 0, _ => rfl | 1, _ => rfl | 2, _ => rfl | 3, _ => rfl | 4, _ => rfl | 5, _ => rfl | 6, _ => rfl | 7, _ => simp [objR, St.out, hE]
  | some y =>
    rw [hE] at c6
    simp only [Option.isSome_some] at c6
    have HE := Lib.hid hE
    clear hE c7
    rcases hmd with hm1 | ⟨hm1, hm2⟩
    all_goals
      go_enter Tryd.func117, Tryd.ntmps117
      go_wp2
      go_ret
      refine ⟨rfl, ⟨(((((h.obj.set 1 _).set 2 _).set 3 _).set 4 _).set 5 _).congr ?_, ((((h.row.setOther (a := ⟨p, 1, none⟩) h.ne.symm _).setOther (a := ⟨p, 2, none⟩) h.ne.symm _).setOther (a := ⟨p, 3, none⟩) h.ne.symm _).setOther (a := ⟨p, 4, none⟩) h.ne.symm _).setOther (a := ⟨p, 5, none⟩) h.ne.symm _, h.ne⟩, (((((Only.refl p c w).s1 1 _).s1 2 _).s1 3 _).s1 4 _).s1 5 _⟩
      intro j hj
      have hE := HE.out
      match j, hj with | 0, _ => rfl | 1, _ => rfl | 2, _ => rfl | 3, _ => rfl | 4, _ => rfl | 5, _ => rfl | 6, _ => simp [objR, St.out, hE] | 7, _ => simp [objR, St.out, hE]

end Go.Proofs.YtkpffnihnhlghaaDoor
