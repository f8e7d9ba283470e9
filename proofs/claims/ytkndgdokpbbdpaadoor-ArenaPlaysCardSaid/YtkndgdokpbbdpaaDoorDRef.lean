/- The document's own arena: Load, Store, Swap; Same. -/
import Derived.Test.YtkndgdokpbbdpaaDoorDOps
namespace Go.Proofs.YtkndgdokpbbdpaaDoor
open Go.RowKit

set_option maxHeartbeats 400000 in
theorem r_load_in (w : World) (p c n : Nat) (x : St) (h : RS w p c n x) (h0 : 0 ≤ x.s) (h1 : x.s < 1000000) (m : Nat) (hm : m < n) :
    Calls Tryd.prog 13 #[.pointer (some ⟨p, 0, none⟩), .int .i64 m] w fun e w' => e = .returned (.int .u64 (x.f m)) ∧ RS w' p c n (x.kept 1 m) ∧ Only p c w w' := by
  go_enter Tryd.func13, Tryd.ntmps13
  go_wp2_with fail
  refine (rstep_in w p c n x h h0 h1 1 m hm).mono ?_
  rintro e w1 ⟨rfl, hR, hO⟩
  have c0 := hR.c 0 (by omega)
  have c4 := hR.c 4 (by omega)
  simp only [objR] at c0 c4
  have cm := hR.row.cell hm
  simp only [St.begun] at cm
  have fr := hR.obj.frozen
  have hpc := hR.ne
  have hcp : c ≠ p := fun e => hpc e.symm
  have HR := Lib.hid hR
  have HO := Lib.hid hO
  clear hR hO h
  go_wp2
  go_ret
  refine ⟨rfl, ⟨(HR.out.obj.set 4 _).congr ?_, HR.out.row.setOther (a := ⟨p, 4, none⟩) hcp _, hpc⟩, HO.out.s1 4 _⟩
  intro j hj; match j, hj with | 0, _ => rfl | 1, _ => rfl | 2, _ => rfl | 3, _ => rfl | 4, _ => rfl | 5, _ => rfl | 6, _ => rfl | 7, _ => rfl

set_option maxHeartbeats 400000 in
theorem r_load_out (w : World) (p c n : Nat) (x : St) (h : RS w p c n x) (h0 : 0 ≤ x.s) (h1 : x.s < 1000000) (i : Int) (hi : i < 0 ∨ (n : Int) ≤ i) :
    Calls Tryd.prog 13 #[.pointer (some ⟨p, 0, none⟩), .int .i64 i] w fun e w' => e = .returned (.int .u64 0) ∧ RS w' p c n (x.out 1 i) ∧ Only p c w w' := by
  have k1 := rstep_out w p c n x h h0 h1 1 i hi
  clear hi h
  go_enter Tryd.func13, Tryd.ntmps13
  go_wp2_with fail
  refine k1.mono ?_
  rintro e w1 ⟨rfl, hR, hO⟩
  have HR := Lib.hid hR
  have HO := Lib.hid hO
  clear hR hO k1
  go_wp2
  go_ret
  exact ⟨rfl, HR.out, HO.out⟩

theorem r_load (w : World) (p c n : Nat) (x : St) (h : RS w p c n x) (h0 : 0 ≤ x.s) (h1 : x.s < 1000000) (i : Int) :
    Calls Tryd.prog 13 #[.pointer (some ⟨p, 0, none⟩), .int .i64 i] w fun e w' => e = .returned (.int .u64 (x.loaded n i)) ∧ RS w' p c n (x.load n i) ∧ Only p c w w' := by
  by_cases hi : inB n i = true
  · rw [St.load, if_pos hi, St.loaded, if_pos hi]
    obtain ⟨m, rfl, hm⟩ := inB_true hi
    exact r_load_in w p c n x h h0 h1 m hm
  · rw [St.load, if_neg hi, St.loaded, if_neg hi]
    exact r_load_out w p c n x h h0 h1 i (inB_false hi)

theorem row_putW {W : World} {b t n : Nat} {g : Nat → Int} (h : W.rowIs b t n (fun j => .int .u64 (g j))) (m : Nat) (y : Int) : (W.setCell ⟨b, m, none⟩ (.int .u64 y)).rowIs b t n (fun j => .int .u64 (put g m y j)) :=
  (h.set m _).congr (by intro j _; unfold put; by_cases e : j = m <;> simp [e])

set_option maxHeartbeats 400000 in
theorem r_store_in (w : World) (p c n : Nat) (x : St) (h : RS w p c n x) (h0 : 0 ≤ x.s) (h1 : x.s < 1000000) (m : Nat) (hm : m < n) (y : Int) :
    Calls Tryd.prog 15 #[.pointer (some ⟨p, 0, none⟩), .int .i64 m, .int .u64 y] w fun e w' => e = .returned (.tuple #[]) ∧ RS w' p c n (x.made 2 m y) ∧ Only p c w w' := by
  go_enter Tryd.func15, Tryd.ntmps15
  go_wp2_with fail
  refine (rstep_in w p c n x h h0 h1 2 m hm).mono ?_
  rintro e w1 ⟨rfl, hR, hO⟩
  have c0 := hR.c 0 (by omega)
  have c4 := hR.c 4 (by omega)
  have c5 := hR.c 5 (by omega)
  simp only [objR] at c0 c4 c5
  have cm := hR.row.cell hm
  have fr := hR.obj.frozen
  have frc := hR.row.frozen
  have hpc := hR.ne
  have hcp : c ≠ p := fun e => hpc e.symm
  have HR := Lib.hid hR
  have HO := Lib.hid hO
  clear hR hO h
  go_wp2
  go_end0
  refine ⟨rfl, ⟨(((HR.out.obj.setOther (a := ⟨c, m, none⟩) hpc _).set 4 _).set 5 _).congr ?_, ((row_putW HR.out.row m y).setOther (a := ⟨p, 4, none⟩) hcp _).setOther (a := ⟨p, 5, none⟩) hcp _, hpc⟩, ((HO.out.set (q := ⟨c, m, none⟩) (.inr (.inl rfl)) _).s1 4 _).s1 5 _⟩
  intro j hj; match j, hj with | 0, _ => rfl | 1, _ => rfl | 2, _ => rfl | 3, _ => rfl | 4, _ => rfl | 5, _ => rfl | 6, _ => rfl | 7, _ => rfl

set_option maxHeartbeats 400000 in
theorem r_store_out (w : World) (p c n : Nat) (x : St) (h : RS w p c n x) (h0 : 0 ≤ x.s) (h1 : x.s < 1000000) (i : Int) (hi : i < 0 ∨ (n : Int) ≤ i) (y : Int) :
    Calls Tryd.prog 15 #[.pointer (some ⟨p, 0, none⟩), .int .i64 i, .int .u64 y] w fun e w' => e = .returned (.tuple #[]) ∧ RS w' p c n (x.out 2 i) ∧ Only p c w w' := by
  have k1 := rstep_out w p c n x h h0 h1 2 i hi
  clear hi h
  go_enter Tryd.func15, Tryd.ntmps15
  go_wp2_with fail
  refine k1.mono ?_
  rintro e w1 ⟨rfl, hR, hO⟩
  have HR := Lib.hid hR
  have HO := Lib.hid hO
  clear hR hO k1
  go_wp2
  go_end0
  exact ⟨rfl, HR.out, HO.out⟩

theorem r_store (w : World) (p c n : Nat) (x : St) (h : RS w p c n x) (h0 : 0 ≤ x.s) (h1 : x.s < 1000000) (i y : Int) :
    Calls Tryd.prog 15 #[.pointer (some ⟨p, 0, none⟩), .int .i64 i, .int .u64 y] w fun e w' => e = .returned (.tuple #[]) ∧ RS w' p c n (x.store n i y) ∧ Only p c w w' := by
  by_cases hi : inB n i = true
  · rw [St.store, if_pos hi]
    obtain ⟨m, rfl, hm⟩ := inB_true hi
    exact r_store_in w p c n x h h0 h1 m hm y
  · rw [St.store, if_neg hi]
    exact r_store_out w p c n x h h0 h1 i (inB_false hi) y

set_option maxHeartbeats 400000 in
theorem r_swap_hit (w : World) (p c n : Nat) (x : St) (h : RS w p c n x) (h0 : 0 ≤ x.s) (h1 : x.s < 1000000) (m : Nat) (hm : m < n) (y : Int) :
    Calls Tryd.prog 17 #[.pointer (some ⟨p, 0, none⟩), .int .i64 m, .int .u64 (x.f m), .int .u64 y] w fun e w' => e = .returned (.bool true) ∧ RS w' p c n (x.made 3 m y) ∧ Only p c w w' := by
  go_enter Tryd.func17, Tryd.ntmps17
  go_wp2_with fail
  refine (rstep_in w p c n x h h0 h1 3 m hm).mono ?_
  rintro e w1 ⟨rfl, hR, hO⟩
  have c0 := hR.c 0 (by omega)
  have c4 := hR.c 4 (by omega)
  have c5 := hR.c 5 (by omega)
  simp only [objR] at c0 c4 c5
  have cm := hR.row.cell hm
  simp only [St.begun] at cm
  have fr := hR.obj.frozen
  have frc := hR.row.frozen
  have hpc := hR.ne
  have hcp : c ≠ p := fun e => hpc e.symm
  have HR := Lib.hid hR
  have HO := Lib.hid hO
  clear hR hO h
  go_wp2
  go_ret
  refine ⟨rfl, ⟨(((HR.out.obj.setOther (a := ⟨c, m, none⟩) hpc _).set 5 _).set 4 _).congr ?_, ((row_putW HR.out.row m y).setOther (a := ⟨p, 5, none⟩) hcp _).setOther (a := ⟨p, 4, none⟩) hcp _, hpc⟩, ((HO.out.set (q := ⟨c, m, none⟩) (.inr (.inl rfl)) _).s1 5 _).s1 4 _⟩
  intro j hj; match j, hj with | 0, _ => rfl | 1, _ => rfl | 2, _ => rfl | 3, _ => rfl | 4, _ => rfl | 5, _ => rfl | 6, _ => rfl | 7, _ => rfl

set_option maxHeartbeats 400000 in
theorem r_swap_miss (w : World) (p c n : Nat) (x : St) (h : RS w p c n x) (h0 : 0 ≤ x.s) (h1 : x.s < 1000000) (m : Nat) (hm : m < n) (o y : Int) (ho : (x.f m == o) = false) :
    Calls Tryd.prog 17 #[.pointer (some ⟨p, 0, none⟩), .int .i64 m, .int .u64 o, .int .u64 y] w fun e w' => e = .returned (.bool false) ∧ RS w' p c n (x.kept 3 m) ∧ Only p c w w' := by
  go_enter Tryd.func17, Tryd.ntmps17
  go_wp2_with fail
  refine (rstep_in w p c n x h h0 h1 3 m hm).mono ?_
  rintro e w1 ⟨rfl, hR, hO⟩
  have c0 := hR.c 0 (by omega)
  have c4 := hR.c 4 (by omega)
  have c5 := hR.c 5 (by omega)
  simp only [objR, St.begun] at c0 c4 c5
  have cm := hR.row.cell hm
  simp only [St.begun] at cm
  have fr := hR.obj.frozen
  have hpc := hR.ne
  have hcp : c ≠ p := fun e => hpc e.symm
  have HR := Lib.hid hR
  have HO := Lib.hid hO
  clear hR hO h
  go_wp2
  go_ret
  refine ⟨rfl, ⟨(HR.out.obj.set 4 _).congr ?_, HR.out.row.setOther (a := ⟨p, 4, none⟩) hcp _, hpc⟩, HO.out.s1 4 _⟩
  intro j hj; match j, hj with | 0, _ => rfl | 1, _ => rfl | 2, _ => rfl | 3, _ => rfl | 4, _ => rfl | 5, _ => rfl | 6, _ => rfl | 7, _ => rfl

set_option maxHeartbeats 400000 in
theorem r_swap_out (w : World) (p c n : Nat) (x : St) (h : RS w p c n x) (h0 : 0 ≤ x.s) (h1 : x.s < 1000000) (i : Int) (hi : i < 0 ∨ (n : Int) ≤ i) (o y : Int) :
    Calls Tryd.prog 17 #[.pointer (some ⟨p, 0, none⟩), .int .i64 i, .int .u64 o, .int .u64 y] w fun e w' => e = .returned (.bool false) ∧ RS w' p c n (x.out 3 i) ∧ Only p c w w' := by
  have k1 := rstep_out w p c n x h h0 h1 3 i hi
  clear hi h
  go_enter Tryd.func17, Tryd.ntmps17
  go_wp2_with fail
  refine k1.mono ?_
  rintro e w1 ⟨rfl, hR, hO⟩
  have HR := Lib.hid hR
  have HO := Lib.hid hO
  clear hR hO k1
  go_wp2
  go_ret
  exact ⟨rfl, HR.out, HO.out⟩

theorem r_swap (w : World) (p c n : Nat) (x : St) (h : RS w p c n x) (h0 : 0 ≤ x.s) (h1 : x.s < 1000000) (i o y : Int) :
    Calls Tryd.prog 17 #[.pointer (some ⟨p, 0, none⟩), .int .i64 i, .int .u64 o, .int .u64 y] w fun e w' => e = .returned (.bool (x.swapped n i o)) ∧ RS w' p c n (x.swap n i o y) ∧ Only p c w w' := by
  by_cases hi : inB n i = true
  · rw [St.swap, if_pos hi]
    obtain ⟨m, rfl, hm⟩ := inB_true hi
    by_cases ho : x.f m = o
    · rw [if_pos (by simpa using ho)]
      have e : x.swapped n (m : Int) o = true := by simp [St.swapped, hi, ho]
      rw [e]
      subst ho
      exact r_swap_hit w p c n x h h0 h1 m hm y
    · rw [if_neg (by simpa using ho)]
      have e : x.swapped n (m : Int) o = false := by simp [St.swapped, hi, ho]
      rw [e]
      exact r_swap_miss w p c n x h h0 h1 m hm o y (by simpa using ho)
  · rw [St.swap, if_neg hi]
    have e : x.swapped n i o = false := by simp [St.swapped, hi]
    rw [e]
    exact r_swap_out w p c n x h h0 h1 i (inB_false hi) o y

set_option maxRecDepth 100000 in
set_option maxHeartbeats 1000000 in
theorem same_any (w : World) (g c n cap1 cap2 : Nat) (f : Nat → Int) (hn : n ≤ 4096) (h1 : ∀ j, j < n → w.cell? ⟨g, j, none⟩ = some (.int .u64 (f j))) (h2 : ∀ j, j < n → w.cell? ⟨c, j, none⟩ = some (.int .u64 (f j))) :
    Calls Tryd.prog 23 #[.slice (some ⟨g, 0, none⟩) n cap1, .slice (some ⟨c, 0, none⟩) n cap2] w fun e w' => e = .returned (.bool true) ∧ Below w.heap.size w w' := by
  have H1 := Lib.hid h1
  have H2 := Lib.hid h2
  clear h1 h2
  go_enter Tryd.func23, Tryd.ntmps23
  go_wp2_with fail
  go_loopw [5] (fun i wr => ∃ j : Nat, j ≤ n ∧ i = .int .i64 j ∧ ∃ m, wr = w.drewN m) (fun i _ => n - (intOf i).toNat)
  case atStart => exact ⟨0, by omega, rfl, 0, rfl⟩
  case round =>
    obtain ⟨j, hj, rfl, m, rfl⟩ := hrel
    by_cases hlt : j < n
    · have cg := H1.out j hlt
      have cc := H2.out j hlt
      have hj1 : (0 : Int) ≤ (j : Int) := by omega
      have hj2 : (j : Int) < (n : Int) := by omega
      have cg' : (w.drewN m).cell? ⟨g, j, none⟩ = some (.int .u64 (f j)) := cg
      have cc' : (w.drewN m).cell? ⟨c, j, none⟩ = some (.int .u64 (f j)) := cc
      clear cg cc
      have hb : ∃ W, W = w.drewN m := ⟨_, rfl⟩
      obtain ⟨W, hW⟩ := hb
      have HW := Lib.hid hW
      rw [← hW] at cg' cc' ⊢
      clear hW
      go_wp2_with fail
      go_quiet (fail)
      go_wp2_with fail
      go_roundw
      case rel =>
        refine ⟨j + 1, by omega, by go_num, ?_⟩
        rw [HW.out]
        exact ⟨_, World.drewN_drewN _ _ _⟩
      case measure => simp [intOf]; omega
    · go_wp2
      go_ret
      exact ⟨rfl, below_drewN (Below.refl _ _) _⟩
end Go.Proofs.YtkndgdokpbbdpaaDoor
