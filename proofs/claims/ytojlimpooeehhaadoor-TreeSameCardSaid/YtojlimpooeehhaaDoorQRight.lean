/- The document's Right. -/
import Derived.Test.YtojlimpooeehhaaDoorQRow
namespace Go.Proofs.YtojlimpooeehhaaDoor
open Go.RowKit
set_option maxRecDepth 100000 in
set_option maxHeartbeats 4000000 in
theorem r5Right_any (s : Sch) (A : Option Addr) (c : Nat) (w : World) (hr : SAt w A s) : Calls Tryd.prog 57 #[.slice A s.n c] w fun e w' => e = .returned (.bool (okS s)) ∧ Below w.heap.size w w' := by
  obtain ⟨n, HN⟩ : ∃ n, Hid (s.n = n) := ⟨_, Lib.hid rfl⟩
  by_cases hL : 1 ≤ n ∧ n ≤ 8
  · obtain ⟨b, off, rfl, hb, hc⟩ := hr.some_ (by rw [HN.out]; omega)
    have HR := Lib.hid hc
    clear hr hc
    rw [HN.out]
    go_enter Tryd.func57, Tryd.ntmps57
    go_wp2
    go_loopw [3] (fun i wr => ∃ m : Nat, m ≤ n ∧ i = .int .i64 m ∧ Below w.heap.size w wr ∧ ∀ j, j < m → rowOk s j) (fun i _ => n - (intOf i).toNat)
    case atStart => exact ⟨0, by omega, rfl, Below.refl _ _, fun j hj => by omega⟩
    case round =>
      obtain ⟨m, hm, rfl, hB, hp⟩ := hrel
      have HB := Lib.hid hB
      have HP := Lib.hid hp
      clear hB hp
      by_cases hlt : m < n
      · obtain ⟨Ai, ci, hcell, hfr⟩ := HR.out m (by rw [HN.out]; exact hlt)
        have c1 := (HB.out.cell (p := ⟨b, off + m, none⟩) hb).trans hcell
        have HCE := Lib.hid hcell
        clear hcell
        obtain ⟨L, HL⟩ : ∃ L, Hid (s.len m = L) := ⟨_, Lib.hid rfl⟩
        rw [HL.out] at c1 hfr
        by_cases hl : 1 ≤ L ∧ L ≤ 6
        · obtain ⟨b', off', rfl, hb', hc'⟩ := hfr.some_ (by omega)
          have HF := Lib.hid hc'
          clear hc' hfr
          go_wp2
          go_loopw [4] (fun i wr => ∃ q : Nat, q ≤ L ∧ i = .int .i64 q ∧ Below w.heap.size w wr ∧ ∀ j, j < q → fieldOk n (s.k m j) (s.t m j)) (fun i _ => L - (intOf i).toNat)
          case atStart => exact ⟨0, by omega, rfl, HB.out, fun j hj => by omega⟩
          case round =>
            clear HB c1
            obtain ⟨q, hq, rfl, hB, hp⟩ := hrel
            have HB := Lib.hid hB
            have HQ := Lib.hid hp
            clear hB hp
            have c1 := (HB.out.cell (p := ⟨b, off + m, none⟩) hb).trans HCE.out
            rw [HL.out] at c1
            by_cases hq1 : q < L
            · have c2 := (HB.out.cell (p := ⟨b', off' + q * 2, none⟩) hb').trans (HF.out q hq1).1
              have c3 := (HB.out.cell (p := ⟨b', off' + q * 2 + 1, none⟩) hb').trans (HF.out q hq1).2
              have hzw := HB.out.size
              have HFO : Hid (fieldOk n (s.k m q) (s.t m q) ↔ fieldOk s.n (s.k m q) (s.t m q)) := Lib.hid (by rw [HN.out])
              have HQL : Hid (q < s.len m) := Lib.hid (by rw [HL.out]; exact hq1)
              have HML : Hid (m < s.n) := Lib.hid (by rw [HN.out]; exact hlt)
              obtain ⟨k, hk⟩ : ∃ k, k = s.k m q := ⟨_, rfl⟩
              obtain ⟨t, ht⟩ : ∃ t, t = s.t m q := ⟨_, rfl⟩
              rw [← hk] at c2
              rw [← ht] at c3
              rw [← hk, ← ht] at HFO
              have HK := Lib.hid hk
              have HT := Lib.hid ht
              clear hk ht
              by_cases hf : fieldOk n k t
              · have hf' := hf
                unfold fieldOk at hf'
                obtain ⟨f1, f2, f3, f4, f5⟩ := hf'
                by_cases h4 : k < 4
                · have ht0 := f5 h4
                  clear f5
                  go_wp2
                  go_roundw
                  case rel =>
                    refine ⟨q + 1, by omega, by go_num, by (repeat (first | with_reducible exact Below.refl _ _ | with_reducible exact HB.out | with_reducible refine Below.drew ?_ | (with_reducible refine Below.setCell ?_ ?side _; case side => exact (by have := (HB.out).size; first | (simp; done) | (simp; omega) | omega)) | (with_reducible refine Below.alloc ?_ ?side _; case side => exact (by have := (HB.out).size; first | (simp; done) | (simp; omega) | omega)))), fun j hj => ?_⟩
                    by_cases e : j = q
                    · subst e; rw [← HK.out, ← HT.out]; exact hf
                    · exact HQ.out j (by omega)
                  case measure => simp [intOf]; omega
                · clear f5
                  go_wp2
                  go_roundw
                  case rel =>
                    refine ⟨q + 1, by omega, by go_num, by (repeat (first | with_reducible exact Below.refl _ _ | with_reducible exact HB.out | with_reducible refine Below.drew ?_ | (with_reducible refine Below.setCell ?_ ?side _; case side => exact (by have := (HB.out).size; first | (simp; done) | (simp; omega) | omega)) | (with_reducible refine Below.alloc ?_ ?side _; case side => exact (by have := (HB.out).size; first | (simp; done) | (simp; omega) | omega)))), fun j hj => ?_⟩
                    by_cases e : j = q
                    · subst e; rw [← HK.out, ← HT.out]; exact hf
                    · exact HQ.out j (by omega)
                  case measure => simp [intOf]; omega
              · have HNO : Hid (okS s = false) := Lib.hid (okS_false fun h => hf (HFO.out.2 (by rw [HK.out, HT.out]; exact (h.2.2 m HML.out).2.2 q HQL.out)))
                unfold fieldOk at hf
                go_wp2
                all_goals first
                  | (exfalso; omega)
                  | (exfalso; simp only [bne_iff_ne, ne_eq, bne_eq_false_iff_eq] at *; omega)
                  | (go_ret; exact ⟨ret_bool HNO.out.symm, by (repeat (first | with_reducible exact Below.refl _ _ | with_reducible exact HB.out | with_reducible refine Below.drew ?_ | (with_reducible refine Below.setCell ?_ ?side _; case side => exact (by have := (HB.out).size; first | (simp; done) | (simp; omega) | omega)) | (with_reducible refine Below.alloc ?_ ?side _; case side => exact (by have := (HB.out).size; first | (simp; done) | (simp; omega) | omega))))⟩)
            · go_wp2
              go_roundw
              case rel =>
                refine ⟨m + 1, by omega, by go_num, HB.out, fun j hj => ?_⟩
                by_cases e : j = m
                · subst e
                  refine ⟨by rw [HL.out]; omega, by rw [HL.out]; omega, fun i hi => ?_⟩
                  rw [HN.out]
                  exact HQ.out i (by have := HL.out; omega)
                · exact HP.out j (by omega)
              case measure => simp [intOf]; omega
        · have hno : okS s = false := okS_false fun h => hl ⟨by rw [← HL.out]; exact (h.2.2 m (by rw [HN.out]; exact hlt)).1, by rw [← HL.out]; exact (h.2.2 m (by rw [HN.out]; exact hlt)).2.1⟩
          have HNO := Lib.hid hno
          clear hno
          go_wp2
          all_goals
            go_ret
            exact ⟨ret_bool HNO.out.symm, HB.out⟩
      · go_wp2
        go_ret
        have e : m = n := by omega
        subst e
        exact ⟨ret_bool (okS_true ⟨by rw [HN.out]; omega, by rw [HN.out]; omega, fun i hi => HP.out i (by rw [← HN.out]; exact hi)⟩).symm, HB.out⟩
  · have hf : okS s = false := okS_false fun h => hL ⟨by rw [← HN.out]; exact h.1, by rw [← HN.out]; exact h.2.1⟩
    rw [hf, HN.out]
    go_enter Tryd.func57, Tryd.ntmps57
    go_wp2
    all_goals
      go_ret
      exact ⟨rfl, Below.refl _ _⟩

end Go.Proofs.YtojlimpooeehhaaDoor
