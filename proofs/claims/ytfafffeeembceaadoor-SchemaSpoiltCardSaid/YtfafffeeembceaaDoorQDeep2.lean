/- Deep; the document's Deep. -/
import Derived.Test.YtfafffeeembceaaDoorQDeep
import Derived.Test.YtfafffeeembceaaDoorQRPack
namespace Go.Proofs.YtfafffeeembceaaDoor
open Go.RowKit
/-- What Deep tells. -/
noncomputable def dpAt (s : Sch) (t : Int) : Int := if okS s = true ∧ hasT s t then (deepS s t.toNat : Nat) else 0

set_option maxRecDepth 100000 in
set_option maxHeartbeats 2000000 in
theorem deep_any (s : Sch) (A : Option Addr) (c : Nat) (t : Int) (w : World) (hr : SAt w A s) : Calls Tryd.prog 19 #[.slice A s.n c, .int .i64 t] w fun e w' => e = .returned (.int .i64 (dpAt s t)) ∧ Below w.heap.size w w' := by
  have HS := Lib.hid hr
  clear hr
  by_cases ho : okS s = true
  · have hk := check_yes s A c w HS.out ho
    by_cases ht : hasT s t
    · have hd : dpAt s t = (deepS s t.toNat : Nat) := if_pos ⟨ho, ht⟩
      rw [hd]
      have ht' := ht
      unfold hasT at ht'
      obtain ⟨m, rfl⟩ : ∃ m : Nat, t = m := ⟨t.toNat, by omega⟩
      have hm : m < s.n := by omega
      have HM := Lib.hid hm
      have hm8 : m < 8 := by have := (right_of_okS ho).2.1; omega
      simp only [Int.toNat_natCast]
      clear hd ht' hm
      go_enter Tryd.func19, Tryd.ntmps19
      go_wp2_with fail
      refine hk.mono ?_
      rintro e w1 ⟨rfl, hb⟩
      have HB := Lib.hid hb
      clear hb hk
      go_wp2_with fail
      refine (hasType_any s A c m _).mono ?_
      rintro e w' ⟨rfl, rfl⟩
      rw [decide_eq_true ht]
      go_wp2_with fail
      refine (depths_any s A c _ (HS.out.below HB.out) (right_of_okS ho)).mono ?_
      rintro e w2 ⟨B, v, rfl, hrow, hv, hb⟩
      have HB2 := Lib.hid (Below.step HB.out hb HB.out.size)
      have HV := Lib.hid (hv m HM.out)
      have HRow := Lib.hid hrow
      clear hb hv hrow
      go_wp2_with fail
      refine (deepf_any B v m hm8 _ HRow.out).mono ?_
      rintro e w' ⟨rfl, rfl⟩
      rw [HV.out]
      go_wp2
      go_ret
      exact ⟨rfl, HB2.out⟩
    · have hd : dpAt s t = 0 := if_neg fun g => ht g.2
      rw [hd]
      go_enter Tryd.func19, Tryd.ntmps19
      go_wp2_with fail
      refine hk.mono ?_
      rintro e w1 ⟨rfl, hb⟩
      have HB := Lib.hid hb
      clear hb hk
      go_wp2_with fail
      refine (hasType_any s A c t _).mono ?_
      rintro e w' ⟨rfl, rfl⟩
      rw [decide_eq_false ht]
      go_wp2
      go_ret
      exact ⟨rfl, HB.out⟩
  · have hk := check_no s A c w HS.out (by simpa using ho)
    have hd : dpAt s t = 0 := if_neg fun g => ho g.1
    rw [hd]
    go_enter Tryd.func19, Tryd.ntmps19
    go_wp2_with fail
    refine hk.mono ?_
    rintro e w1 ⟨rfl, hb⟩
    have HB := Lib.hid hb
    clear hb hk
    go_wp2
    go_ret
    exact ⟨rfl, HB.out⟩

theorem info_int : (Tryd.prog.info? 3).map (fun i => (i.zero, i.size, i.bytes)) = some (some (.int .i64 0), 1, 8) := by kernel_rfl

/-- Two rows of n depths, both made since w. -/
structure R2 (w : World) (n g g2 : Nat) (u v : Nat → Nat) (wr : World) : Prop where
  ne : g ≠ g2
  lo : w.heap.size ≤ g2
  old : wr.rowIs g 3 n (fun j => .int .i64 (u j : Nat))
  new : wr.rowIs g2 3 n (fun j => .int .i64 (v j : Nat))
  below : Below w.heap.size w wr
theorem R2.alloc {w : World} {n g g2 : Nat} {u v : Nat → Nat} {wr : World} (h : R2 w n g g2 u v wr) (o : Obj) : R2 w n g g2 u v (wr.alloc o) := ⟨h.ne, h.lo, h.old.alloc o, h.new.alloc o, h.below.alloc h.below.size o⟩
theorem R2.drewN {w : World} {n g g2 : Nat} {u v : Nat → Nat} {wr : World} (h : R2 w n g g2 u v wr) (m : Nat) : R2 w n g g2 u v (wr.drewN m) := ⟨h.ne, h.lo, h.old.of_block rfl, h.new.of_block rfl, below_drewN h.below m⟩
theorem R2.drew {w : World} {n g g2 : Nat} {u v : Nat → Nat} {wr : World} (h : R2 w n g g2 u v wr) : R2 w n g g2 u v wr.drew := ⟨h.ne, h.lo, h.old.of_block rfl, h.new.of_block rfl, h.below.drew⟩
theorem R2.set {w : World} {n g g2 : Nat} {u v v' : Nat → Nat} {wr : World} (h : R2 w n g g2 u v wr) (k : Nat) (x : Int) (hv : ∀ j, (if j = k then Value.int .i64 x else .int .i64 (v j : Nat)) = .int .i64 (v' j : Nat)) : R2 w n g g2 u v' (wr.setCell ⟨g2, k, none⟩ (.int .i64 x)) :=
  ⟨h.ne, h.lo, h.old.setOther (a := ⟨g2, k, none⟩) h.ne _, (h.new.set k _).congr fun j _ => hv j, h.below.setCell (p := ⟨g2, k, none⟩) h.lo _⟩
theorem R2.congr {w : World} {n g g2 : Nat} {u v v' : Nat → Nat} {wr : World} (h : R2 w n g g2 u v wr) (hv : ∀ j, j < n → v j = v' j) : R2 w n g g2 u v' wr :=
  ⟨h.ne, h.lo, h.old, h.new.congr fun j hj => by rw [hv j hj], h.below⟩
/-- What a field adds to a type's depth. -/
def fdp (s : Sch) (r k j : Nat) : Nat := if 4 ≤ s.k k j then dr s r (s.t k j).toNat + 1 else 0
theorem dr_succ (s : Sch) (r k : Nat) : dr s (r + 1) k = max 1 (mx (fdp s r k) (s.len k)) := rfl
/-- The new row, when k types are done, and the next one is x. -/
def nrow (s : Sch) (r k x j : Nat) : Nat := if j < k then dr s (r + 1) j else if j = k then x else 0
theorem nrow_put (s : Sch) (r k x y j : Nat) (z : Int) (hz : z = (y : Nat)) : (if j = k then Value.int .i64 z else .int .i64 (nrow s r k x j : Nat)) = .int .i64 (nrow s r k y j : Nat) := by
  subst hz
  unfold nrow
  by_cases e : j = k
  · subst e; simp
  · by_cases h : j < k
    · rw [if_neg e, if_pos h, if_pos h]
    · rw [if_neg e, if_neg h, if_neg h, if_neg e, if_neg e]
theorem nrow_next (s : Sch) (r k x : Nat) (hx : x = dr s (r + 1) k) (j : Nat) : nrow s r k x j = nrow s r (k + 1) 0 j := by
  subst hx
  unfold nrow
  by_cases e : j = k
  · subst e; simp
  · by_cases h : j < k
    · rw [if_pos h, if_pos (by omega)]
    · rw [if_neg h, if_neg e, if_neg (by omega)]
      by_cases e2 : j = k + 1
      · rw [if_pos e2]
      · rw [if_neg e2]
theorem nrow_at (s : Sch) (r k x : Nat) : nrow s r k x k = x := by simp [nrow]

set_option maxRecDepth 100000 in
set_option maxHeartbeats 4000000 in
theorem r5Deep_yes (s : Sch) (A : Option Addr) (c m : Nat) (w : World) (hr : SAt w A s) (h : RightS s) (hm : m < s.n) : Calls Tryd.prog 27 #[.slice A s.n c, .int .i64 m] w fun e w' => e = .returned (.int .i64 (deepS s m : Nat)) ∧ Below w.heap.size w w' := by
  have HS := Lib.hid hr
  have HR := Lib.hid h
  clear hr
  obtain ⟨h1, h8, -⟩ := h
  have hk := r5Right_any s A c w HS.out
  rw [okS_true HR.out] at hk
  obtain ⟨n, HN⟩ : ∃ n, Hid (s.n = n) := ⟨_, Lib.hid rfl⟩
  rw [HN.out] at h1 h8 hm hk ⊢
  have hmk := run_make_row' (P := Tryd.prog) 24 3 (.int .i64 0) 8 Tryd.underlying24 info_int rfl .i64 .i64 n (by omega) (by omega)
  go_enter Tryd.func27, Tryd.ntmps27
  go_wp2_with fail
  refine hk.mono ?_
  rintro e w1 ⟨rfl, hb⟩
  have HB := Lib.hid hb
  clear hb hk
  have d0 : decide ((m : Int) < 0) = false := by simp
  have d1 : decide (n ≤ m) = false := by simp; omega
  have d2 : decide ((n : Int) ≤ (m : Int)) = false := by simp; omega
  go_wp2
  clear d0 d1 d2
  have hR0 := (World.rowIs_made w1 (.int .i64 0) n 3)
  go_loopw [6, 7] (fun dv rv wr => ∃ r g : Nat, r ≤ 6 ∧ dv = .slice (some ⟨g, 0, none⟩) n n ∧ rv = .int .i64 r ∧ Hid (wr.rowIs g 3 n (fun j => .int .i64 (dr s r j : Nat))) ∧ Hid (Below w.heap.size w wr)) (fun _ rv _ => 6 - (intOf rv).toNat)
  case atStart => exact ⟨0, _, by omega, rfl, rfl, Lib.hid hR0, Lib.hid (by (repeat (first | with_reducible exact Below.refl _ _ | with_reducible exact HB.out | with_reducible refine Below.drew ?_ | (with_reducible refine Below.setCell ?_ ?side _; case side => exact (by have := (HB.out).size; first | (simp; done) | (simp; omega) | omega)) | (with_reducible refine Below.alloc ?_ ?side _; case side => exact (by have := (HB.out).size; first | (simp; done) | (simp; omega) | omega)))))⟩
  case round =>
    clear hR0 HB
    obtain ⟨r, g, hr, rfl, rfl, HO, HB⟩ := hrel
    have hmk := run_make_row' (P := Tryd.prog) 24 3 (.int .i64 0) 8 Tryd.underlying24 info_int rfl .i64 .i64 n (by omega) (by omega)
    by_cases hr6 : r < 6
    · have d6 : decide ((r : Int) < 6) = true := by simp; omega
      go_wp2
      clear d6
      have h2 : R2 w n g wr.heap.size (dr s r) (nrow s r 0 0) (wr.alloc (.cells (madeCells #[.int .i64 0] n) 3)) := ⟨by have := HO.out.lt; omega, HB.out.size, HO.out.alloc _, (World.rowIs_made wr (.int .i64 0) n 3).congr fun j _ => by simp [nrow], by (repeat (first | with_reducible exact Below.refl _ _ | with_reducible exact HB.out | with_reducible refine Below.drew ?_ | (with_reducible refine Below.setCell ?_ ?side _; case side => exact (by have := (HB.out).size; first | (simp; done) | (simp; omega) | omega)) | (with_reducible refine Below.alloc ?_ ?side _; case side => exact (by have := (HB.out).size; first | (simp; done) | (simp; omega) | omega))))⟩
      clear hmk HO HB
      generalize wr.heap.size = g2 at h2 ⊢
      generalize wr.alloc (.cells (madeCells #[.int .i64 0] n) 3) = W0 at h2 ⊢
      go_loopw [9] (fun kv wr => ∃ k : Nat, k ≤ n ∧ kv = .int .i64 k ∧ Hid (R2 w n g g2 (dr s r) (nrow s r k 0) wr)) (fun kv _ => n - (intOf kv).toNat)
      case atStart => exact ⟨0, by omega, rfl, Lib.hid h2⟩
      case round =>
        clear h2
        obtain ⟨k, hk, rfl, H2⟩ := hrel
        by_cases hlt : k < n
        · have hlt' : k < s.n := by rw [HN.out]; exact hlt
          obtain ⟨b, off, rfl, hb, hc⟩ := HS.out.some_ (by omega)
          obtain ⟨Ai, ci, hcell, hf⟩ := hc k hlt'
          obtain ⟨l1, l6, -⟩ := HR.out.2.2 k hlt'
          obtain ⟨b', off', rfl, hb', hc'⟩ := hf.some_ (by omega)
          have HC := Lib.hid hcell
          have HF := Lib.hid hc'
          have HG := Lib.hid (fun j hj => (HR.out.2.2 k hlt').2.2 j hj)
          have HDR := Lib.hid (dr_succ s r k)
          clear hc hc' hf hcell
          obtain ⟨L, HL⟩ : ∃ L, Hid (s.len k = L) := ⟨_, Lib.hid rfl⟩
          rw [HL.out] at HF HG HC HDR l1 l6
          rw [HN.out] at HG
          have ck := H2.out.new.cell hlt
          have fk := H2.out.new.frozen
          go_wp2
          have H3 := Lib.hid (H2.out.set (v' := nrow s r k 1) k 1 (fun j => nrow_put s r k 0 1 j 1 rfl))
          clear H2 ck fk
          generalize wr.setCell ⟨g2, k, none⟩ (.int .i64 1) = W1 at H3 ⊢
          go_loopw [10] (fun jv wr => ∃ q : Nat, q ≤ L ∧ jv = .int .i64 q ∧ Hid (R2 w n g g2 (dr s r) (nrow s r k (max 1 (mx (fdp s r k) q))) wr)) (fun jv _ => L - (intOf jv).toNat)
          case atStart => exact ⟨0, by omega, rfl, H3⟩
          case round =>
            clear H3
            obtain ⟨q, hq, rfl, H3⟩ := hrel
            have c1 := (H3.out.below.cell (p := ⟨b, off + k, none⟩) hb).trans HC.out
            by_cases hq1 : q < L
            · have c2 := (H3.out.below.cell (p := ⟨b', off' + q * 2, none⟩) hb').trans (HF.out q hq1).1
              have c3 := (H3.out.below.cell (p := ⟨b', off' + q * 2 + 1, none⟩) hb').trans (HF.out q hq1).2
              have HGQ := Lib.hid (HG.out q hq1)
              have hzw := H3.out.below.size
              have HMX := Lib.hid (show mx (fdp s r k) (q + 1) = max (mx (fdp s r k) q) (fdp s r k q) from rfl)
              by_cases h4 : 4 ≤ s.k k q
              · have HFD : Hid (fdp s r k q = dr s r (s.t k q).toNat + 1) := Lib.hid (if_pos h4)
                obtain ⟨j, hj⟩ : ∃ j : Nat, s.t k q = j := ⟨(s.t k q).toNat, by have := HGQ.out; unfold fieldOk at this; omega⟩
                have hjn : j < n := by have := HGQ.out; unfold fieldOk at this; omega
                rw [hj, Int.toNat_natCast] at HFD
                rw [hj] at c3
                have HDL : Hid (dr s r j ≤ r) := Lib.hid ((dr_le s r r j).2 (.inr (Nat.le_refl _)))
                have d7 : decide (4 ≤ s.k k q) = true := by simpa using h4
                have H4 := Lib.hid (H3.out.alloc (.cells #[.int .i64 (s.k k q), .int .i64 (j : Int)] 48))
                go_wp2_with fail
                have c4 : (wr.alloc (.cells #[.int .i64 (s.k k q), .int .i64 (j : Int)] 48)).cell? ⟨wr.heap.size, 0, none⟩ = some (.int .i64 (s.k k q)) := by simp [go_sem]
                have c5 : (wr.alloc (.cells #[.int .i64 (s.k k q), .int .i64 (j : Int)] 48)).cell? ⟨wr.heap.size, 1, none⟩ = some (.int .i64 (j : Int)) := by simp [go_sem]
                clear H3 c1 c2 c3
                generalize wr.alloc (.cells #[.int .i64 (s.k k q), .int .i64 (j : Int)] 48) = W4 at H4 c4 c5 ⊢
                have x1 := H4.out.old.cell hjn
                have x2 := H4.out.new.cell hlt
                have fk := H4.out.new.frozen
                rw [nrow_at] at x2
                obtain ⟨D, HDD⟩ : ∃ D, Hid (dr s r j = D) := ⟨_, Lib.hid rfl⟩
                obtain ⟨M, HMM⟩ : ∃ M, Hid (max 1 (mx (fdp s r k) q) = M) := ⟨_, Lib.hid rfl⟩
                rw [HDD.out] at x1 HFD HDL
                rw [HMM.out] at x2
                have hDL := HDL.out
                by_cases hMD : M < D + 1
                · have d8 : decide ((M : Int) < (D : Int) + 1) = true := by simp; omega
                  have H5 := Lib.hid (R2.drew (H4.out.set (v' := nrow s r k (D + 1)) k ((D : Int) + 1) (fun j => nrow_put s r k _ (D + 1) j _ (by omega))))
                  go_region
                  all_goals
                    go_wp2
                    go_roundw
                    case rel =>
                      refine ⟨q + 1, by omega, by go_num, Lib.hid (H5.out.congr fun j _ => ?_)⟩
                      have e : D + 1 = max 1 (mx (fdp s r k) (q + 1)) := by have := HMM.out; rw [HMX.out, HFD.out]; omega
                      rw [e]
                    case measure => simp [intOf]; omega
                · have d8 : decide ((M : Int) < (D : Int) + 1) = false := by simp; omega
                  have H5 := Lib.hid H4.out.drew
                  go_region
                  all_goals
                    go_wp2
                    go_roundw
                    case rel =>
                      refine ⟨q + 1, by omega, by go_num, Lib.hid (H5.out.congr fun j _ => ?_)⟩
                      have e : max 1 (mx (fdp s r k) q) = max 1 (mx (fdp s r k) (q + 1)) := by have := HMM.out; rw [HMX.out, HFD.out]; omega
                      rw [e]
                    case measure => simp [intOf]; omega
              · have HFD : Hid (fdp s r k q = 0) := Lib.hid (if_neg h4)
                have d7 : decide (4 ≤ s.k k q) = false := by simpa using h4
                have H4 := Lib.hid (H3.out.alloc (.cells #[.int .i64 (s.k k q), .int .i64 (s.t k q)] 48))
                go_wp2_with fail
                have c4 : (wr.alloc (.cells #[.int .i64 (s.k k q), .int .i64 (s.t k q)] 48)).cell? ⟨wr.heap.size, 0, none⟩ = some (.int .i64 (s.k k q)) := by simp [go_sem]
                clear H3 c1 c2 c3
                generalize wr.alloc (.cells #[.int .i64 (s.k k q), .int .i64 (s.t k q)] 48) = W4 at H4 c4 ⊢
                have H5 := Lib.hid H4.out.drew
                go_region
                all_goals
                  go_wp2
                  go_roundw
                  case rel =>
                    refine ⟨q + 1, by omega, by go_num, Lib.hid (H5.out.congr fun j _ => ?_)⟩
                    rw [HMX.out, HFD.out, Nat.max_zero]
                  case measure => simp [intOf]; omega
            · have hqL : q = L := by omega
              subst hqL
              go_wp2
              go_roundw
              case rel => exact ⟨k + 1, by omega, by go_num, Lib.hid (H3.out.congr fun j _ => nrow_next s r k _ HDR.out.symm j)⟩
              case measure => simp [intOf]; omega
        · have e : k = n := by omega
          subst e
          go_wp2
          go_roundw
          case rel => exact ⟨r + 1, g2, by omega, rfl, by go_num, Lib.hid (H2.out.new.congr fun j hj => by simp [nrow, hj]), Lib.hid H2.out.below⟩
          case measure => simp [intOf]; omega
    · have e : r = 6 := by omega
      rw [e] at HO
      have x1 := HO.out.cell hm
      have d3 : decide ((r : Int) < 6) = false := by simp; omega
      clear e hr6
      go_wp2
      go_ret
      exact ⟨rfl, HB.out⟩

set_option maxRecDepth 100000 in
set_option maxHeartbeats 2000000 in
theorem r5Deep_any (s : Sch) (A : Option Addr) (c : Nat) (t : Int) (w : World) (hr : SAt w A s) : Calls Tryd.prog 27 #[.slice A s.n c, .int .i64 t] w fun e w' => e = .returned (.int .i64 (dpAt s t)) ∧ Below w.heap.size w w' := by
  by_cases ho : okS s = true
  · by_cases ht : hasT s t
    · have hd : dpAt s t = (deepS s t.toNat : Nat) := if_pos ⟨ho, ht⟩
      rw [hd]
      unfold hasT at ht
      obtain ⟨m, rfl⟩ : ∃ m : Nat, t = m := ⟨t.toNat, by omega⟩
      exact r5Deep_yes s A c m w hr (right_of_okS ho) (by omega)
    · have hd : dpAt s t = 0 := if_neg fun g => ht g.2
      rw [hd]
      have hk := r5Right_any s A c w hr
      rw [ho] at hk
      unfold hasT at ht
      clear hr
      generalize s.n = n at hk ht ⊢
      go_enter Tryd.func27, Tryd.ntmps27
      go_wp2_with fail
      refine hk.mono ?_
      rintro e w1 ⟨rfl, hb⟩
      have HB := Lib.hid hb
      clear hb hk
      go_wp2
      all_goals
        go_ret
        exact ⟨rfl, HB.out⟩
  · have hd : dpAt s t = 0 := if_neg fun g => ho g.1
    rw [hd]
    have hk := r5Right_any s A c w hr
    rw [show okS s = false by simpa using ho] at hk
    clear hr
    go_enter Tryd.func27, Tryd.ntmps27
    go_wp2_with fail
    refine hk.mono ?_
    rintro e w1 ⟨rfl, hb⟩
    have HB := Lib.hid hb
    clear hb hk
    go_wp2
    all_goals
      go_ret
      exact ⟨rfl, HB.out⟩

end Go.Proofs.YtfafffeeembceaaDoor
