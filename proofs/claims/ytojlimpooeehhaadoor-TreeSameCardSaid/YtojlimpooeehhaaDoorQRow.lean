/- Schemas in memory; when one is right. -/
import Derived.Test.YtojlimpooeehhaaDoorRows
import Derived.Test.YtojlimpooeehhaaDoorQMath
import Derived.WalkKit
import Derived.WalkSpells
import Derived.WalkLawsBesides
import Derived.Lib.Hide
import Derived.Laws.Pointers
import Derived.Deep.OwnRows
import Derived.Deep.QuietTactic
import Derived.BigQuiet
import Derived.StillTailTactics
import Derived.Below
import Derived.IntWalk
import Derived.Deep.RegionWith
import Derived.BigRegion
namespace Go.Proofs.YtojlimpooeehhaaDoor
open Go.RowKit
/-- A row of L fields. -/
structure FRow (W : World) (A : Option Addr) (L : Nat) (k t : Nat → Int) : Prop where
  some_ : 0 < L → ∃ b off, A = some ⟨b, off, none⟩ ∧ b < W.heap.size ∧ ∀ j, j < L → W.cell? ⟨b, off + j * 2, none⟩ = some (.int .i64 (k j)) ∧ W.cell? ⟨b, off + j * 2 + 1, none⟩ = some (.int .i64 (t j))
theorem FRow.below {W W' : World} {A : Option Addr} {L : Nat} {k t : Nat → Int} (h : FRow W A L k t) (hb : Below W.heap.size W W') : FRow W' A L k t :=
  ⟨fun h0 => by
    obtain ⟨b, off, hA, hlt, hc⟩ := h.some_ h0
    exact ⟨b, off, hA, Nat.lt_of_lt_of_le hlt hb.size, fun j hj => ⟨(hb.cell (p := ⟨b, off + j * 2, none⟩) hlt).trans (hc j hj).1, (hb.cell (p := ⟨b, off + j * 2 + 1, none⟩) hlt).trans (hc j hj).2⟩⟩⟩
/-- A schema's types. -/
structure SAt (W : World) (A : Option Addr) (s : Sch) : Prop where
  some_ : 0 < s.n → ∃ b off, A = some ⟨b, off, none⟩ ∧ b < W.heap.size ∧ ∀ i, i < s.n → ∃ Ai ci, W.cell? ⟨b, off + i, none⟩ = some (.slice Ai (s.len i) ci) ∧ FRow W Ai (s.len i) (s.k i) (s.t i)
theorem SAt.below {W W' : World} {A : Option Addr} {s : Sch} (h : SAt W A s) (hb : Below W.heap.size W W') : SAt W' A s :=
  ⟨fun h0 => by
    obtain ⟨b, off, hA, hlt, hc⟩ := h.some_ h0
    refine ⟨b, off, hA, Nat.lt_of_lt_of_le hlt hb.size, fun i hi => ?_⟩
    obtain ⟨Ai, ci, h1, h2⟩ := hc i hi
    exact ⟨Ai, ci, (hb.cell (p := ⟨b, off + i, none⟩) hlt).trans h1, h2.below hb⟩⟩
theorem Below.step {B : Nat} {a b c : World} (h : Below B a b) (k : Below b.heap.size b c) (hB : B ≤ b.heap.size) : Below B a c := h.trans (k.mono hB)
theorem ret_bool {a b : Bool} (h : a = b) : Ending.returned (.bool a) = .returned (.bool b) := by rw [h]

instance (n : Nat) (k t : Int) : Decidable (fieldOk n k t) := by unfold fieldOk; infer_instance
theorem fok_of {n : Nat} {k t : Int} {b : Bool} (h : b = true ↔ fieldOk n k t) : Ending.returned (.bool b) = .returned (.bool (decide (fieldOk n k t))) := ret_bool (by rw [Bool.eq_iff_iff, h]; simp)
set_option maxRecDepth 100000 in
set_option maxHeartbeats 1000000 in
theorem fieldOk_any (n : Nat) (hn : n ≤ 8) (h1 : 1 ≤ n) (k t : Int) (w : World) : Calls Tryd.prog 105 #[.agg #[.int .i64 k, .int .i64 t], .int .i64 n] w fun e w' => e = .returned (.bool (decide (fieldOk n k t))) ∧ Below w.heap.size w w' := by
  go_enter Tryd.func105, Tryd.ntmps105
  go_wp2
  all_goals
    go_ret
    refine ⟨fok_of ?_, by (repeat (first | with_reducible exact Below.refl _ _ | with_reducible refine Below.drew ?_ | (with_reducible refine Below.setCell ?_ ?side _; case side => exact (by first | (simp; done) | (simp; omega) | omega)) | (with_reducible refine Below.alloc ?_ ?side _; case side => exact (by first | (simp; done) | (simp; omega) | omega))))⟩
    simp only [beq_iff_eq, beq_eq_false_iff_ne] at *
    simp [fieldOk]
    omega

set_option maxRecDepth 100000 in
set_option maxHeartbeats 1000000 in
theorem areRight_any (n : Nat) (hn : n ≤ 8) (h1 : 1 ≤ n) (A : Option Addr) (L c : Nat) (k t : Nat → Int) (w : World) (hr : FRow w A L k t) : Calls Tryd.prog 100 #[.slice A L c, .int .i64 n] w fun e w' => e = .returned (.bool (decide (1 ≤ L ∧ L ≤ 6 ∧ ∀ j, j < L → fieldOk n (k j) (t j)))) ∧ Below w.heap.size w w' := by
  by_cases hL : 1 ≤ L ∧ L ≤ 6
  · obtain ⟨b, off, rfl, hb, hc⟩ := hr.some_ (by omega)
    have HC := Lib.hid hc
    clear hc hr
    go_enter Tryd.func100, Tryd.ntmps100
    go_wp2
    go_loopw [17] (fun i wr => ∃ m : Nat, m ≤ L ∧ i = .int .i64 m ∧ Below w.heap.size w wr ∧ ∀ j, j < m → fieldOk n (k j) (t j)) (fun i _ => L - (intOf i).toNat)
    case atStart => exact ⟨0, by omega, rfl, Below.refl _ _, fun j hj => by omega⟩
    case round =>
      obtain ⟨m, hm, rfl, hB, hp⟩ := hrel
      have HB := Lib.hid hB
      have HP := Lib.hid hp
      clear hB hp
      by_cases hlt : m < L
      · have c1 := (HB.out.cell (p := ⟨b, off + m * 2, none⟩) hb).trans (HC.out m hlt).1
        have c2 := (HB.out.cell (p := ⟨b, off + m * 2 + 1, none⟩) hb).trans (HC.out m hlt).2
        have hzw := HB.out.size
        go_wp2_with fail
        refine (fieldOk_any n hn h1 (k m) (t m) _).mono ?_
        rintro e w2 ⟨rfl, hb2⟩
        have H2 := Lib.hid (Below.step (B := w.heap.size) (a := w) (by (repeat (first | with_reducible exact Below.refl _ _ | with_reducible exact HB.out | with_reducible refine Below.drew ?_ | (with_reducible refine Below.setCell ?_ ?side _; case side => exact (by have := (HB.out).size; first | (simp; done) | (simp; omega) | omega)) | (with_reducible refine Below.alloc ?_ ?side _; case side => exact (by have := (HB.out).size; first | (simp; done) | (simp; omega) | omega))))) hb2 (by have := (HB.out).size; first | (simp; done) | (simp; omega) | omega))
        clear hb2 HB
        by_cases hf : fieldOk n (k m) (t m)
        · rw [decide_eq_true hf]
          go_wp2
          go_roundw
          case rel =>
            refine ⟨m + 1, by omega, by go_num, H2.out, fun j hj => ?_⟩
            by_cases e : j = m
            · subst e; exact hf
            · exact HP.out j (by omega)
          case measure => simp [intOf]; omega
        · rw [decide_eq_false hf]
          go_wp2
          go_ret
          exact ⟨ret_bool (by symm; simp only [decide_eq_false_iff_not]; exact fun h => hf (h.2.2 m hlt)), H2.out⟩
      · go_wp2
        go_ret
        have e : m = L := by omega
        subst e
        exact ⟨ret_bool (by symm; simp only [decide_eq_true_eq]; exact ⟨by omega, by omega, HP.out⟩), HB.out⟩
  · have hf : decide (1 ≤ L ∧ L ≤ 6 ∧ ∀ j, j < L → fieldOk n (k j) (t j)) = false := by
      simp only [decide_eq_false_iff_not]
      exact fun h => hL ⟨h.1, h.2.1⟩
    rw [hf]
    go_enter Tryd.func100, Tryd.ntmps100
    go_wp2
    all_goals
      go_ret
      exact ⟨rfl, Below.refl _ _⟩

theorem rowOk_iff (s : Sch) (i : Nat) : rowOk s i ↔ 1 ≤ s.len i ∧ s.len i ≤ 6 ∧ ∀ j, j < s.len i → fieldOk s.n (s.k i j) (s.t i j) := Iff.rfl
set_option maxRecDepth 100000 in
set_option maxHeartbeats 1000000 in
theorem isRight_any (s : Sch) (A : Option Addr) (c : Nat) (w : World) (hr : SAt w A s) : Calls Tryd.prog 84 #[.slice A s.n c] w fun e w' => e = .returned (.bool (okS s)) ∧ Below w.heap.size w w' := by
  obtain ⟨n, HN⟩ : ∃ n, Hid (s.n = n) := ⟨_, Lib.hid rfl⟩
  by_cases hL : 1 ≤ n ∧ n ≤ 8
  · obtain ⟨b, off, rfl, hb, hc⟩ := hr.some_ (by rw [HN.out]; omega)
    have HR := Lib.hid hc
    clear hr hc
    rw [HN.out]
    go_enter Tryd.func84, Tryd.ntmps84
    go_wp2
    go_loopw [15] (fun i wr => ∃ m : Nat, m ≤ n ∧ i = .int .i64 m ∧ Below w.heap.size w wr ∧ ∀ j, j < m → rowOk s j) (fun i _ => n - (intOf i).toNat)
    case atStart => exact ⟨0, by omega, rfl, Below.refl _ _, fun j hj => by omega⟩
    case round =>
      obtain ⟨m, hm, rfl, hB, hp⟩ := hrel
      have HB := Lib.hid hB
      have HP := Lib.hid hp
      clear hB hp
      by_cases hlt : m < n
      · obtain ⟨Ai, ci, hcell, hfr⟩ := HR.out m (by rw [HN.out]; exact hlt)
        have HF := Lib.hid hfr
        have c1 := (HB.out.cell (p := ⟨b, off + m, none⟩) hb).trans hcell
        clear hcell hfr
        have hzw := HB.out.size
        go_wp2_with fail
        refine (areRight_any n (by omega) (by omega) Ai (s.len m) ci (s.k m) (s.t m) _ (HF.out.below HB.out)).mono ?_
        rintro e w2 ⟨rfl, hb2⟩
        have H2 := Lib.hid (Below.step (B := w.heap.size) (a := w) (by (repeat (first | with_reducible exact Below.refl _ _ | with_reducible exact HB.out | with_reducible refine Below.drew ?_ | (with_reducible refine Below.setCell ?_ ?side _; case side => exact (by have := (HB.out).size; first | (simp; done) | (simp; omega) | omega)) | (with_reducible refine Below.alloc ?_ ?side _; case side => exact (by have := (HB.out).size; first | (simp; done) | (simp; omega) | omega))))) hb2 (by have := (HB.out).size; first | (simp; done) | (simp; omega) | omega))
        clear hb2 HB
        by_cases hf : rowOk s m
        · have hf' := hf
          rw [rowOk_iff, HN.out] at hf'
          rw [decide_eq_true hf']
          go_wp2
          go_roundw
          case rel =>
            refine ⟨m + 1, by omega, by go_num, H2.out, fun j hj => ?_⟩
            by_cases e : j = m
            · subst e; exact hf
            · exact HP.out j (by omega)
          case measure => simp [intOf]; omega
        · have hf' := hf
          rw [rowOk_iff, HN.out] at hf'
          rw [decide_eq_false hf']
          go_wp2
          go_ret
          exact ⟨ret_bool (okS_false fun h => hf (h.2.2 m (by rw [HN.out]; exact hlt))).symm, H2.out⟩
      · go_wp2
        go_ret
        have e : m = n := by omega
        subst e
        exact ⟨ret_bool (okS_true ⟨by rw [HN.out]; omega, by rw [HN.out]; omega, fun i hi => HP.out i (by rw [← HN.out]; exact hi)⟩).symm, HB.out⟩
  · have hf : okS s = false := okS_false fun h => hL ⟨by rw [← HN.out]; exact h.1, by rw [← HN.out]; exact h.2.1⟩
    rw [hf, HN.out]
    go_enter Tryd.func84, Tryd.ntmps84
    go_wp2
    all_goals
      go_ret
      exact ⟨rfl, Below.refl _ _⟩

end Go.Proofs.YtojlimpooeehhaaDoor
