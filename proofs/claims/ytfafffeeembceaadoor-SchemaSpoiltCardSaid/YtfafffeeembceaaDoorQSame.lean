/- Are two schemas the same? -/
import Derived.Test.YtfafffeeembceaaDoorQRRead
import Derived.ChangeKeysEq
import Derived.Laws.StructEq
namespace Go.Proofs.YtfafffeeembceaaDoor
open Go.RowKit
theorem guard_field : Tryd.prog.eqGuardType Tryd.prog.depth 48 = false := by kernel_rfl
theorem held_field : Tryd.prog.stoodInHeld 48 = false := by kernel_rfl
theorem under_field : Tryd.prog.underlying 48 = some (.struct (Tryd.prog.fieldsOf 48)) := by kernel_rfl
theorem jp_0 (a b : Int) (w : World) : (part 3 #[.int .i64 a, .int .i64 b] 0).run Tryd.prog w = .ok (.int .i64 a) w := by kernel_rfl
theorem jp_1 (a b : Int) (w : World) : (part 3 #[.int .i64 a, .int .i64 b] 1).run Tryd.prog w = .ok (.int .i64 b) w := by kernel_rfl
set_option maxRecDepth 100000 in
theorem neq_field (a b a' b' : Int) (w : World) : (binOp .neq 48 (.agg #[.int .i64 a, .int .i64 b]) (.agg #[.int .i64 a', .int .i64 b'])).run Tryd.prog w = .ok (.bool (!(a == a' && b == b'))) w := by
  rw [run_neq_struct, run_equalIn_struct w 9999 48 _ _ under_field held_field]
  simp only [Program.fieldsOf, Tryd.underlying48]
  simp [Op.eqFields, jp_0, jp_1, run_equalIn_int w _ _ _ _ _ _ Tryd.underlying3]
  by_cases h1 : a = a' <;> by_cases h2 : b = b' <;> simp [h1, h2]

set_option maxRecDepth 100000 in
set_option maxHeartbeats 4000000 in
theorem r5Same_any (a b : Sch) (A B : Option Addr) (c d : Nat) (w : World) (ha : SAt w A a) (hb : SAt w B b) (hn : a.n ≤ 1000) (hl : ∀ i, i < a.n → a.len i ≤ 1000) : Calls Tryd.prog 15 #[.slice A a.n c, .slice B b.n d] w fun e w' => e = .returned (.bool (sameB a b)) ∧ Below w.heap.size w w' := by
  have HA := Lib.hid ha
  have HB := Lib.hid hb
  have HL := Lib.hid hl
  clear ha hb hl
  obtain ⟨n, HN⟩ : ∃ n, Hid (a.n = n) := ⟨_, Lib.hid rfl⟩
  obtain ⟨n', HN'⟩ : ∃ n, Hid (b.n = n) := ⟨_, Lib.hid rfl⟩
  rw [HN.out] at hn ⊢
  rw [HN'.out]
  by_cases hnn : n = n'
  · subst hnn
    go_enter Tryd.func15, Tryd.ntmps15
    go_wp2
    go_loopw [5] (fun tv wr => ∃ m : Nat, m ≤ n ∧ tv = .int .i64 m ∧ Hid (Below w.heap.size w wr) ∧ Hid (∀ i, i < m → a.len i = b.len i ∧ ∀ j, j < a.len i → a.k i j = b.k i j ∧ a.t i j = b.t i j)) (fun tv _ => n - (intOf tv).toNat)
    case atStart => exact ⟨0, by omega, rfl, Lib.hid (Below.refl _ _), Lib.hid fun i hi => by omega⟩
    case round =>
      obtain ⟨m, hm, rfl, HW, HP⟩ := hrel
      by_cases hlt : m < n
      · obtain ⟨b1, o1, rfl, hb1, hc1⟩ := HA.out.some_ (by rw [HN.out]; omega)
        obtain ⟨A1, k1, e1, f1⟩ := hc1 m (by rw [HN.out]; omega)
        obtain ⟨b2, o2, rfl, hb2, hc2⟩ := HB.out.some_ (by rw [HN'.out]; omega)
        obtain ⟨A2, k2, e2, f2⟩ := hc2 m (by rw [HN'.out]; omega)
        have HE1 := Lib.hid e1
        have HE2 := Lib.hid e2
        have HF1 := Lib.hid f1
        have HF2 := Lib.hid f2
        have hlm := HL.out m (by rw [HN.out]; exact hlt)
        clear hc1 hc2 e1 e2 f1 f2
        have c1 := (HW.out.cell (p := ⟨b1, o1 + m, none⟩) hb1).trans HE1.out
        have c2 := (HW.out.cell (p := ⟨b2, o2 + m, none⟩) hb2).trans HE2.out
        by_cases hll : a.len m = b.len m
        · rw [← hll] at c2 HE2 HF2
          have HLL := Lib.hid hll
          clear hll
          obtain ⟨L, HLM⟩ : ∃ L, Hid (a.len m = L) := ⟨_, Lib.hid rfl⟩
          rw [HLM.out] at c1 c2 HE1 HE2 HF1 HF2 hlm
          go_wp2_with fail
          go_region
          have HW1 := Lib.hid HW.out.drew
          clear HW c1 c2
          go_wp2
          generalize wr.drew = W1 at HW1 ⊢
          go_loopw [6] (fun jv wr => ∃ q : Nat, q ≤ L ∧ jv = .int .i64 q ∧ Hid (Below w.heap.size w wr) ∧ Hid (∀ j, j < q → a.k m j = b.k m j ∧ a.t m j = b.t m j)) (fun jv _ => L - (intOf jv).toNat)
          case atStart => exact ⟨0, by omega, rfl, HW1, Lib.hid fun j hj => by omega⟩
          case round =>
            clear HW1
            obtain ⟨q, hq, rfl, HW, HQ⟩ := hrel
            have c1 := (HW.out.cell (p := ⟨b1, o1 + m, none⟩) hb1).trans HE1.out
            have c2 := (HW.out.cell (p := ⟨b2, o2 + m, none⟩) hb2).trans HE2.out
            by_cases hq1 : q < L
            · obtain ⟨x1, y1, rfl, hx1, hd1⟩ := HF1.out.some_ (by omega)
              obtain ⟨x2, y2, rfl, hx2, hd2⟩ := HF2.out.some_ (by omega)
              have u1 := (HW.out.cell (p := ⟨x1, y1 + q * 2, none⟩) hx1).trans (hd1 q hq1).1
              have u2 := (HW.out.cell (p := ⟨x1, y1 + q * 2 + 1, none⟩) hx1).trans (hd1 q hq1).2
              have u3 := (HW.out.cell (p := ⟨x2, y2 + q * 2, none⟩) hx2).trans (hd2 q hq1).1
              have u4 := (HW.out.cell (p := ⟨x2, y2 + q * 2 + 1, none⟩) hx2).trans (hd2 q hq1).2
              clear hd1 hd2
              have hneq := neq_field
              have hgf := guard_field
              by_cases he : a.k m q = b.k m q ∧ a.t m q = b.t m q
              · obtain ⟨he1, he2⟩ := he
                have hb0 : (!(a.k m q == b.k m q && a.t m q == b.t m q)) = false := by simp [he1, he2]
                have HQ2 : Hid (∀ j, j < q + 1 → a.k m j = b.k m j ∧ a.t m j = b.t m j) := Lib.hid fun j hj => by
                  by_cases e : j = q
                  · subst e; exact ⟨he1, he2⟩
                  · exact HQ.out j (by omega)
                go_wp2_with fail
                go_region
                all_goals
                  go_wp2
                  go_roundw
                  case rel => exact ⟨q + 1, by omega, by go_num, Lib.hid HW.out.drew, HQ2⟩
                  case measure => simp [intOf]; omega
              · have hb0 : (!(a.k m q == b.k m q && a.t m q == b.t m q)) = true := by
                  rcases Classical.em (a.k m q = b.k m q) with g | g
                  · have g2 : ¬ a.t m q = b.t m q := fun g2 => he ⟨g, g2⟩
                    simp [g, g2]
                  · simp [g]
                have HNO : Hid (sameB a b = false) := Lib.hid (sameB_false fun h => he ((h.2 m (by rw [HN.out]; exact hlt)).2 q (by rw [HLM.out]; exact hq1)))
                go_wp2_with fail
                go_region
                all_goals
                  go_wp2
                  go_ret
                  exact ⟨ret_bool HNO.out.symm, HW.out.drew⟩
            · have e : q = L := by omega
              subst e
              have HP2 : Hid (∀ i, i < m + 1 → a.len i = b.len i ∧ ∀ j, j < a.len i → a.k i j = b.k i j ∧ a.t i j = b.t i j) := Lib.hid fun i hi => by
                by_cases e : i = m
                · subst e; exact ⟨HLL.out, fun j hj => HQ.out j (by rw [HLM.out] at hj; exact hj)⟩
                · exact HP.out i (by omega)
              go_wp2
              go_roundw
              case rel => exact ⟨m + 1, by omega, by go_num, HW, HP2⟩
              case measure => simp [intOf]; omega
        · have hne : ((a.len m : Int) != (b.len m : Int)) = true := by simp; omega
          have hne' : (a.len m != b.len m) = true := by simp; omega
          have HNO : Hid (sameB a b = false) := Lib.hid (sameB_false fun h => hll (h.2 m (by rw [HN.out]; exact hlt)).1)
          go_wp2_with fail
          go_region
          all_goals
            go_wp2
            go_ret
            exact ⟨ret_bool HNO.out.symm, by (repeat (first | with_reducible exact Below.refl _ _ | with_reducible exact HW.out | with_reducible refine Below.drew ?_ | (with_reducible refine Below.setCell ?_ ?side _; case side => exact (by have := (HW.out).size; first | (simp; done) | (simp; omega) | omega)) | (with_reducible refine Below.alloc ?_ ?side _; case side => exact (by have := (HW.out).size; first | (simp; done) | (simp; omega) | omega))))⟩
      · have e : m = n := by omega
        subst e
        go_wp2
        go_ret
        exact ⟨ret_bool (sameB_true ⟨by rw [HN.out, HN'.out], fun i hi => HP.out i (by rw [HN.out] at hi; exact hi)⟩).symm, HW.out⟩
  · rw [sameB_false fun h => hnn (by rw [← HN.out, ← HN'.out]; exact h.1)]
    have hne : ((n : Int) != (n' : Int)) = true := by simp; omega
    have hne' : (n != n') = true := by simp; omega
    go_enter Tryd.func15, Tryd.ntmps15
    go_wp2
    first
      | (go_ret; exact ⟨rfl, Below.refl _ _⟩)
      | (go_region; all_goals (go_wp2; go_ret; exact ⟨rfl, by (repeat (first | with_reducible exact Below.refl _ _ | with_reducible refine Below.drew ?_ | (with_reducible refine Below.setCell ?_ ?side _; case side => exact (by first | (simp; done) | (simp; omega) | omega)) | (with_reducible refine Below.alloc ?_ ?side _; case side => exact (by first | (simp; done) | (simp; omega) | omega))))⟩))

end Go.Proofs.YtfafffeeembceaaDoor
