/- A walk in its box: what its small ways do. -/
import Derived.Test.YtkhbhkllnigbgaaDoorBAwake
import Derived.WalkSmall
namespace Go.Proofs.YtkhbhkllnigbgaaDoor
open Go.RowKit
/-- A walk. -/
structure Wk where
  s : Value
  p : Value
  nd : Bool
  wd : Int
  fr : Int
  sz : Int
  kd : Int
  inn : Int
  num : Int
  code : Int
def Wk.cell (y : Wk) : Nat → Value
  | 0 => y.s
  | 1 => y.p
  | 2 => .bool y.nd
  | 3 => .int .i64 y.wd
  | 4 => .int .i64 y.fr
  | 5 => .int .i64 y.sz
  | 6 => .int .i64 y.kd
  | 7 => .int .i64 y.inn
  | 8 => .int .u64 y.num
  | _ => .int .i64 y.code
def WkAt (W : World) (q : Nat) (y : Wk) : Prop := W.rowIs q 114 10 y.cell
theorem WkAt.below {W W' : World} {q : Nat} {y : Wk} (h : WkAt W q y) (hb : Below W.heap.size W W') : WkAt W' q y := World.rowIs.of_block h (hb.block _ (World.rowIs.lt h))
theorem WkAt.put {W : World} {q : Nat} {y y' : Wk} (h : WkAt W q y) (j : Nat) (v : Value) (he : ∀ i, i < 10 → (if i = j then v else y.cell i) = y'.cell i) : WkAt (W.setCell ⟨q, j, none⟩ v) q y' := World.rowIs.congr (World.rowIs.set h j v) he
theorem WkAt.all {W : World} {q : Nat} {y : Wk} (h : WkAt W q y) : W.cell? ⟨q, 0, none⟩ = some y.s ∧ W.cell? ⟨q, 1, none⟩ = some y.p ∧ W.cell? ⟨q, 2, none⟩ = some (.bool y.nd) ∧ W.cell? ⟨q, 3, none⟩ = some (.int .i64 y.wd) ∧ W.cell? ⟨q, 4, none⟩ = some (.int .i64 y.fr) ∧ W.cell? ⟨q, 5, none⟩ = some (.int .i64 y.sz) ∧ W.cell? ⟨q, 6, none⟩ = some (.int .i64 y.kd) ∧ W.cell? ⟨q, 7, none⟩ = some (.int .i64 y.inn) ∧ W.cell? ⟨q, 8, none⟩ = some (.int .u64 y.num) ∧ W.cell? ⟨q, 9, none⟩ = some (.int .i64 y.code) :=
  ⟨World.rowIs.cell h (i := 0) (by omega), World.rowIs.cell h (i := 1) (by omega), World.rowIs.cell h (i := 2) (by omega), World.rowIs.cell h (i := 3) (by omega), World.rowIs.cell h (i := 4) (by omega), World.rowIs.cell h (i := 5) (by omega), World.rowIs.cell h (i := 6) (by omega), World.rowIs.cell h (i := 7) (by omega), World.rowIs.cell h (i := 8) (by omega), World.rowIs.cell h (i := 9) (by omega)⟩
theorem WkAt.free {W : World} {q : Nat} {y : Wk} (h : WkAt W q y) (j : Nat) : W.frozen? ⟨q, j, none⟩ = false := World.rowIs.frozen h j

set_option maxRecDepth 100000 in
theorem next_nil (w : World) : Calls Tryd.prog 19 #[.pointer none] w fun e w' => e = .returned (.tuple #[.int .i64 0, .bool false]) ∧ w = w' := by
  go_enter Tryd.func19, Tryd.ntmps19
  go_wp2
  go_ret2
  exact ⟨rfl, rfl⟩
set_option maxRecDepth 100000 in
theorem told_nil (w : World) : Calls Tryd.prog 20 #[.pointer none] w fun e w' => e = .returned (.tuple #[.int .u64 0, Cs.enc [(1, 0)]]) ∧ Below w.heap.size w w' := by
  have hnew := fun w => Cs.new_code 1 w rfl
  go_enter Tryd.func20, Tryd.ntmps20
  go_wp2_with (go_at_call 53; refine (hnew _).mono ?_; rintro e w1 ⟨rfl, rfl⟩)
  go_ret2
  exact ⟨rfl, Below.refl _ _⟩
set_option maxRecDepth 100000 in
theorem give_nil (u : Int) (w : World) : Calls Tryd.prog 22 #[.pointer none, .int .u64 u] w fun e w' => e = .returned (.tuple #[]) ∧ w = w' := by
  go_enter Tryd.func22, Tryd.ntmps22
  go_wp2
  (try simp only [Exit.inBlock, Exit.then])
  refine bodyPost_ret (results_none rfl _ _ _) rfl ?_
  exact ⟨rfl, rfl⟩
set_option maxRecDepth 100000 in
theorem next9_any (q : Nat) (y : Wk) (w : World) (h : WkAt w q y) : Calls Tryd.prog 19 #[.pointer (some ⟨q, 0, none⟩)] w fun e w' => e = .returned (.tuple #[.int .i64 (if y.nd then y.wd else 0), .bool y.nd]) ∧ w = w' := by
  obtain ⟨-, -, c2, c3, -, -, -, -, -, -⟩ := h.all
  clear h
  obtain ⟨s, p, nd, wd, fr, sz, kd, inn, num, code⟩ := y
  cases nd
  · go_enter Tryd.func19, Tryd.ntmps19
    go_wp2
    go_ret2
    exact ⟨rfl, rfl⟩
  · go_enter Tryd.func19, Tryd.ntmps19
    go_wp2
    go_ret2
    exact ⟨rfl, rfl⟩
set_option maxRecDepth 100000 in
theorem tell9_any (q : Nat) (y : Wk) (n c : Int) (w : World) (h : WkAt w q y) : Calls Tryd.prog 56 #[.pointer (some ⟨q, 0, none⟩), .int .u64 n, .int .i64 c] w fun e w' => e = .returned (.tuple #[]) ∧ WkAt w' q { y with num := n, code := c } ∧ ButP (fun b => b = q) w w' := by
  have f8 := h.free 8
  have f9 := h.free 9
  obtain ⟨-, -, -, -, -, -, -, -, c8, c9⟩ := h.all
  have H := Lib.hid h
  clear h
  go_enter Tryd.func56, Tryd.ntmps56
  go_wp2
  go_end0
  refine ⟨rfl, ?_, ?_⟩
  · refine WkAt.put (y := { y with num := n }) (H.out.put 8 _ ?_) 9 _ ?_
    · intro i hi
      match i, hi with
      | 0, _ => rfl | 1, _ => rfl | 2, _ => rfl | 3, _ => rfl | 4, _ => rfl | 5, _ => rfl | 6, _ => rfl | 7, _ => rfl | 8, _ => rfl | 9, _ => rfl
    · intro i hi
      match i, hi with
      | 0, _ => rfl | 1, _ => rfl | 2, _ => rfl | 3, _ => rfl | 4, _ => rfl | 5, _ => rfl | 6, _ => rfl | 7, _ => rfl | 8, _ => rfl | 9, _ => rfl
  · exact ((ButP.refl (fun b => b = q) w).set (p := ⟨q, 8, none⟩) rfl _).set (p := ⟨q, 9, none⟩) rfl _
theorem wk_ten {P : Nat → Prop} (h0 : P 0) (h1 : P 1) (h2 : P 2) (h3 : P 3) (h4 : P 4) (h5 : P 5) (h6 : P 6) (h7 : P 7) (h8 : P 8) (h9 : P 9) : ∀ i, i < 10 → P i := by
  intro i hi
  match i, hi with
  | 0, _ => exact h0
  | 1, _ => exact h1
  | 2, _ => exact h2
  | 3, _ => exact h3
  | 4, _ => exact h4
  | 5, _ => exact h5
  | 6, _ => exact h6
  | 7, _ => exact h7
  | 8, _ => exact h8
  | 9, _ => exact h9
set_option maxRecDepth 100000 in
theorem pass9_any (q : Nat) (y : Wk) (b o n cap : Nat) (k : Int) (w : World) (h : WkAt w q y) (hp : y.p = .slice (some ⟨b, o, none⟩) (n + 1) cap) (hcap : n + 1 ≤ cap) (hmax : cap ≤ 9223372036854775807) (hk : w.cell? ⟨b, o, none⟩ = some (.int .i64 k)) :
    Calls Tryd.prog 83 #[.pointer (some ⟨q, 0, none⟩)] w fun e w' => e = .returned (.int .i64 k) ∧ ∃ A, WkAt w' q { y with p := .slice A n (cap - 1) } ∧ (0 < n → A = some ⟨b, o + 1, none⟩) ∧ ButP (fun b => b = q) w w' := by
  have f1 := h.free 1
  obtain ⟨-, c1, -, -, -, -, -, -, -, -⟩ := h.all
  rw [hp] at c1
  have H := Lib.hid h
  clear h hp
  have g1 : (1 : Int) ≤ (n : Int) + 1 := by omega
  go_enter Tryd.func83, Tryd.ntmps83
  go_wp2
  all_goals
    go_ret
    refine ⟨rfl, _, H.out.put 1 _ (wk_ten rfl rfl rfl rfl rfl rfl rfl rfl rfl rfl), ?_, (ButP.refl (fun b => b = q) w).set (p := ⟨q, 1, none⟩) rfl _⟩
    first | (intro _; rfl) | (intro h0; omega)
theorem two_new9 (w : World) (u v : Value) (t : TypeId) : (w.alloc (.cells #[u, v] t)).cell? ⟨w.heap.size, 0, none⟩ = some u ∧ (w.alloc (.cells #[u, v] t)).cell? ⟨w.heap.size, 1, none⟩ = some v :=
  have h := World.rowIs_alloc w #[u, v] t (fun j => if j = 0 then u else v) (by intro j hj; match j, hj with | 0, _ => rfl | 1, _ => rfl)
  ⟨h.cell (i := 0) (by simp), h.cell (i := 1) (by simp)⟩
set_option maxRecDepth 100000 in
theorem ask9_any (q : Nat) (y : Wk) (wd fr sz : Int) (w : World) (h : WkAt w q y) : Calls Tryd.prog 87 #[.pointer (some ⟨q, 0, none⟩), .int .i64 wd, .agg #[.int .i64 fr, .int .i64 sz]] w fun e w' => e = .returned (.tuple #[]) ∧ WkAt w' q { y with nd := true, wd := wd, fr := fr, sz := sz } ∧ ButP (fun b => b = q) w w' := by
  have hlt := World.rowIs.lt h
  have hne : q ≠ w.heap.size := by omega
  have H := Lib.hid h
  clear h
  go_enter Tryd.func87, Tryd.ntmps87
  have b0 := two_new9 w (.int .i64 fr) (.int .i64 sz) 112
  go_wp2_with fail
  generalize hWa : w.alloc (.cells #[.int .i64 fr, .int .i64 sz] 112) = Wa at b0 ⊢
  have HA : Hid (WkAt Wa q y) := Lib.hid (by rw [← hWa]; exact H.out.below ((Below.refl _ _).alloc (Nat.le_refl _) _))
  have HBA : Hid (ButP (fun b => b = q) w Wa) := Lib.hid (by rw [← hWa]; exact ButP.of_below ((Below.refl _ _).alloc (Nat.le_refl _) _))
  have f2 := HA.out.free 2
  have f3 := HA.out.free 3
  have f4 := HA.out.free 4
  have f5 := HA.out.free 5
  obtain ⟨-, -, c2, c3, c4, c5, -, -, -, -⟩ := HA.out.all
  obtain ⟨b0, b1⟩ := b0
  clear hWa
  generalize hqb : w.heap.size = qb at b0 b1 hne ⊢
  clear hqb hlt H
  go_region
  go_end0
  refine ⟨rfl, ?_, ?_⟩
  · exact World.rowIs.drew (WkAt.put (y := { y with nd := true, wd := wd, fr := fr }) (WkAt.put (y := { y with nd := true, wd := wd }) (WkAt.put (y := { y with nd := true }) (HA.out.put 2 _ (wk_ten rfl rfl rfl rfl rfl rfl rfl rfl rfl rfl)) 3 _ (wk_ten rfl rfl rfl rfl rfl rfl rfl rfl rfl rfl)) 4 _ (wk_ten rfl rfl rfl rfl rfl rfl rfl rfl rfl rfl)) 5 _ (wk_ten rfl rfl rfl rfl rfl rfl rfl rfl rfl rfl))
  · have hb := (((HBA.out.set (p := ⟨q, 2, none⟩) rfl (.bool true)).set (p := ⟨q, 3, none⟩) rfl (.int .i64 wd)).set (p := ⟨q, 4, none⟩) rfl (.int .i64 fr)).set (p := ⟨q, 5, none⟩) rfl (.int .i64 sz)
    exact ⟨hb.os, hb.tape, hb.output, hb.size, hb.block⟩
set_option maxRecDepth 100000 in
theorem ones9_ex (w : World) : Calls Tryd.prog 126 #[.int .i64 64] w fun e w' => e = .returned (.int .u64 18446744073709551615) ∧ w = w' := by
  go_enter Tryd.func126, Tryd.ntmps126
  go_wp2
  go_ret
  exact ⟨rfl, rfl⟩
set_option maxRecDepth 100000 in
theorem part9_ex (w : World) : Calls Tryd.prog 125 #[.int .i64 0, .int .i64 64] w fun e w' => e = .returned (.bool true) ∧ w = w' := by
  go_enter Tryd.func125, Tryd.ntmps125
  go_wp2
  go_ret
  exact ⟨rfl, rfl⟩
set_option maxRecDepth 100000 in
theorem get9_ex (w : World) : Calls Tryd.prog 95 #[.int .u64 5, .int .i64 0, .int .i64 64] w fun e w' => e = .returned (.int .u64 5) ∧ Below w.heap.size w w' := by
  go_enter Tryd.func95, Tryd.ntmps95
  go_wp2_with fail
  refine (part9_ex _).mono ?_
  rintro e w' ⟨rfl, rfl⟩
  go_wp2_with fail
  go_region_with (go_at_call 126; refine (ones9_ex _).mono ?_; rintro e w' ⟨rfl, rfl⟩)
  all_goals
    go_wp2
    go_ret
    exact ⟨rfl, by (repeat (first | with_reducible exact Below.refl _ _ | with_reducible refine Below.drew ?_ | (with_reducible refine Below.setCell ?_ ?side _; case side => exact (by first | (simp; done) | (simp; omega) | omega)) | (with_reducible refine Below.alloc ?_ ?side _; case side => exact (by first | (simp; done) | (simp; omega) | omega))))⟩
set_option maxRecDepth 100000 in
theorem of9_ex (w : World) : Calls Tryd.prog 57 #[.agg #[.int .i64 0, .int .i64 64], .int .u64 5] w fun e w' => e = .returned (.int .u64 5) ∧ Below w.heap.size w w' := by
  go_enter Tryd.func57, Tryd.ntmps57
  go_wp2_with fail
  refine (get9_ex _).mono ?_
  rintro e w1 ⟨rfl, hb⟩
  have HB := Lib.hid (Below.step (B := w.heap.size) (a := w) (by (repeat (first | with_reducible exact Below.refl _ _ | with_reducible refine Below.drew ?_ | (with_reducible refine Below.setCell ?_ ?side _; case side => exact (by first | (simp; done) | (simp; omega) | omega)) | (with_reducible refine Below.alloc ?_ ?side _; case side => exact (by first | (simp; done) | (simp; omega) | omega))))) hb (by simp))
  clear hb
  go_wp2
  go_ret
  exact ⟨rfl, HB.out⟩
set_option maxRecDepth 100000 in
theorem told9_any (q : Nat) (y : Wk) (w : World) (h : WkAt w q y) (hn : y.nd = false) (hc : y.code = 0) : Calls Tryd.prog 20 #[.pointer (some ⟨q, 0, none⟩)] w fun e w' => e = .returned (.tuple #[.int .u64 y.num, .nilIface]) ∧ Below w.heap.size w w' := by
  obtain ⟨-, -, c2, -, -, -, -, -, c8, c9⟩ := h.all
  rw [hn] at c2
  rw [hc] at c9
  clear h hn hc
  have hnew := Cs.new_nil
  go_enter Tryd.func20, Tryd.ntmps20
  go_wp2_with fail
  go_region_with (go_at_call 53; refine (hnew _).mono ?_; rintro e w1 ⟨rfl, rfl⟩)
  all_goals
    go_wp2
    go_ret2
    exact ⟨rfl, by (repeat (first | with_reducible exact Below.refl _ _ | with_reducible refine Below.drew ?_ | (with_reducible refine Below.setCell ?_ ?side _; case side => exact (by first | (simp; done) | (simp; omega) | omega)) | (with_reducible refine Below.alloc ?_ ?side _; case side => exact (by first | (simp; done) | (simp; omega) | omega))))⟩

end Go.Proofs.YtkhbhkllnigbgaaDoor
