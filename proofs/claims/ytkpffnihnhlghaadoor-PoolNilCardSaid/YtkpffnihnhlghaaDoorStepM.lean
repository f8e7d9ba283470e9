/- A step of an arena, of a word that there is: a Swap that misses. -/
import Derived.Test.YtkpffnihnhlghaaDoorStep
namespace Go.Proofs.YtkpffnihnhlghaaDoor
open Go.RowKit
set_option maxRecDepth 100000 in
set_option maxHeartbeats 4000000 in
theorem step_miss (w : World) (p c n : Nat) (f : Nat → Int) (s k i v : Int) (ch : Bool) (E : Value) (h : Ar w p c n f s k i v ch E) (h0 : 0 ≤ s) (h1 : s < 1000000) (K : Int) (m : Nat) (hm : m < n) (o : Int) (ho : (f m != o) = true) (q : Nat) (qz : q < w.heap.size) (qp : q ≠ p) (qc : q ≠ c) (qv : w.cell? ⟨q, 0, none⟩ = some (.int .u64 o)) (u : Value) :
    Calls Tryd.prog 114 #[.pointer (some ⟨p, 0, none⟩), .int .i64 K, .int .i64 m, .func (.func 159) #[] #[.pointer (some ⟨q, 0, none⟩), u]] w fun e w' => e = .returned (.agg #[.int .i64 K, .int .i64 m, .int .u64 (f m), .bool false]) ∧ Ar w' p c n (put f m (f m)) (s + 1) K m (f m) false E ∧ Only p c w w' := by
  have c0 := h.c0
  have c1 := h.c1
  have c2 := h.c2
  have c3 := h.c3
  have c4 := h.c4
  have c5 := h.c5
  have c6 := h.c6
  have hp := h.obj.lt
  have hcl := h.row.lt
  have hpc := h.ne
  have fr := h.obj.frozen
  have frc := h.row.frozen
  have cm := h.row.cell hm
  go_enter Tryd.func114, Tryd.ntmps114
  go_wp2_with fail
  refine (add_one p s _ h0 h1 (by go_simp) (by go_simp)).mono ?_
  rintro e w' ⟨rfl, rfl⟩
  go_wp2_with fail
  have hA := h.begun (s + 1) K m (.cells #[.int .i64 0, .int .i64 0, .int .u64 0, .bool false] 82)
  have hO := Only.begun w p c (.int .i64 (s + 1)) (.int .i64 K) (.int .i64 m) (.int .u64 0) (.bool false) (.cells #[.int .i64 0, .int .i64 0, .int .u64 0, .bool false] 82)
  have hR := begun_row w p (.int .i64 (s + 1)) (.int .i64 K) (.int .i64 m) (.int .u64 0) (.bool false)
  clear c0 c1 c2 c3 c4 c5 c6 fr frc cm h
  revert hA hO hR
  generalize (((((w.setCell ⟨p, 1, none⟩ (.int .i64 (s + 1))).setCell ⟨p, 2, none⟩ (.int .i64 K)).setCell ⟨p, 3, none⟩ (.int .i64 m)).setCell ⟨p, 4, none⟩ (.int .u64 0)).setCell ⟨p, 5, none⟩ (.bool false)).alloc (.cells #[.int .i64 0, .int .i64 0, .int .u64 0, .bool false] 82) = W
  intro hA hO hR
  have c0 := hA.c0
  have c5 := hA.c5
  have hcp : c ≠ p := fun e => hpc e.symm
  have cm := hA.row.cell hm
  have hm1 : (0 : Int) ≤ (m : Int) := by omega
  have hm2 : (m : Int) < (n : Int) := by omega
  have fr := hA.obj.frozen
  have frc := hA.row.frozen
  have qw := (hO.cell 0 qz qp qc).trans qv
  go_region_with (go_at_call 159; refine (do_miss _ o q u _ ho (by go_simp)).mono ?_; rintro e w' ⟨rfl, rfl⟩)
  all_goals
    have hB := ((hA.setW m (f m)).setC false).drew
    have hP := ((hO.set (q := ⟨c, m, none⟩) (.inr (.inl rfl)) (.int .u64 (f m))).set (q := ⟨p, 5, none⟩) (.inl rfl) (.bool false)).drew
    have hS := ((hR.setOther (a := ⟨c, m, none⟩) (by simp; omega) (.int .u64 (f m))).setOther (a := ⟨p, 5, none⟩) (by simp; omega) (.bool false)).drew
    clear c0 c5 cm fr frc hA hO hR qw
    revert hB hP hS
    generalize ((W.setCell ⟨c, m, none⟩ (.int .u64 (f m))).setCell ⟨p, 5, none⟩ (.bool false)).drew = W2
    intro hB hP hS
    have c0 := hB.c0
    have c2 := hB.c2
    have c3 := hB.c3
    have c4 := hB.c4
    have c5 := hB.c5
    have cm := hB.cw hm
    have fr := hB.obj.frozen
    have r0 := hS.cell (i := 0) (by omega)
    have r1 := hS.cell (i := 1) (by omega)
    have r2 := hS.cell (i := 2) (by omega)
    have r3 := hS.cell (i := 3) (by omega)
    have rf := hS.frozen
    have hd : w.heap.size ≠ p := by omega
    have hd' : p ≠ w.heap.size := by omega
    have hc' : c ≠ w.heap.size := by omega
    rw [put_at] at cm
    go_wp2
    have e0 : ∀ u : Value, Ar _ p c n _ _ _ _ _ _ _ := fun u => ((((hB.setV (f m)).setOther (a := ⟨w.heap.size, 0, none⟩) hd' hc' (.int .i64 K)).setOther (a := ⟨w.heap.size, 1, none⟩) hd' hc' (.int .i64 m)).setOther (a := ⟨w.heap.size, 2, none⟩) hd' hc' (.int .u64 (f m))).setOther (a := ⟨w.heap.size, 3, none⟩) hd' hc' u
    have e1 : ∀ u : Value, Only p c w _ := fun u => ((((hP.set (q := ⟨p, 4, none⟩) (.inl rfl) (.int .u64 (f m))).set (q := ⟨w.heap.size, 0, none⟩) (.inr (.inr (Nat.le_refl _))) (.int .i64 K)).set (q := ⟨w.heap.size, 1, none⟩) (.inr (.inr (Nat.le_refl _))) (.int .i64 m)).set (q := ⟨w.heap.size, 2, none⟩) (.inr (.inr (Nat.le_refl _))) (.int .u64 (f m))).set (q := ⟨w.heap.size, 3, none⟩) (.inr (.inr (Nat.le_refl _))) u
    exact bodyPost_ret (v := .agg #[.int .i64 K, .int .i64 m, .int .u64 (f m), .bool false]) (by simp [results, Tryd.results114, go_sem, r0, r1, r2, r3]) rfl ⟨rfl, e0 _, e1 _⟩

end Go.Proofs.YtkpffnihnhlghaaDoor
