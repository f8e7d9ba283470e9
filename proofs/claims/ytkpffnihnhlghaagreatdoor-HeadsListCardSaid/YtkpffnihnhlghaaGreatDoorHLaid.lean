/- Words that are laid. -/
import Derived.Test.YtkpffnihnhlghaaGreatDoorHLawTurn
import Derived.Test.YtkpffnihnhlghaaGreatDoorPLawPlaces
namespace Go.Proofs.YtkpffnihnhlghaaGreatDoor
open Go.RowKit
/-- A word that is laid. -/
structure S5 where
  a : Int
  b : Int
  t : Nat
  d : Nat
  far : Bool
  lt : t < 4294967296
  ld : d < 18446744073709551616
def S5.cell (s : S5) : Nat → Value
  | 0 => .int .i64 s.a
  | 1 => .int .i64 s.b
  | 2 => .int .u32 (s.t : Int)
  | 3 => .int .u64 (s.d : Int)
  | _ => .bool s.far
def SRow (w : World) (A : Option Addr) (len : Nat) (g : Nat → S5) : Prop := 0 < len → ∃ b off, A = some ⟨b, off, none⟩ ∧ b < w.heap.size ∧ ∀ j, j < len → ∀ q, q < 5 → w.cell? ⟨b, off + j * 5 + q, none⟩ = some ((g j).cell q)
theorem SRow.below {W W' : World} {A : Option Addr} {len : Nat} {g : Nat → S5} (h : SRow W A len g) (hb : Below W.heap.size W W') : SRow W' A len g := fun h0 => by
  obtain ⟨b, o, e, h1, h2⟩ := h h0
  exact ⟨b, o, e, Nat.lt_of_lt_of_le h1 hb.size, fun j hj q hq => (hb.cell (p := ⟨b, o + j * 5 + q, none⟩) h1).trans (h2 j hj q hq)⟩
/-- The words, as far as they are laid: a row of the call's own. -/
structure LD (w : World) (x : Cfg) (qc c N : Nat) (f : Nat → Nat) (W : World) : Prop where
  cfg : CfgAt W qc x
  row : W.rowIs c 34 N (fun j => .int .u64 (f j : Nat))
  ne : qc ≠ c
  hq : w.heap.size ≤ qc
  hc : w.heap.size ≤ c
  be : Below w.heap.size w W
  lt : ∀ j, j < N → f j < 18446744073709551616
theorem LD.below {w : World} {x : Cfg} {qc c N : Nat} {f : Nat → Nat} {W W' : World} (h : LD w x qc c N f W) (hb : Below W.heap.size W W') : LD w x qc c N f W' :=
  ⟨h.cfg.below hb, h.row.of_block (hb.block _ h.row.lt), h.ne, h.hq, h.hc, Below.step h.be hb h.be.size, h.lt⟩
theorem LD.put {w : World} {x : Cfg} {qc c N : Nat} {f : Nat → Nat} {W : World} (h : LD w x qc c N f W) (m u : Nat) (hu : u < 18446744073709551616) : LD w x qc c N (fun j => if j = m then u else f j) (W.setCell ⟨c, m, none⟩ (.int .u64 (u : Nat))) :=
  ⟨h.cfg.of_block (Below.heap_setCell W ⟨c, m, none⟩ _ qc h.ne), (h.row.set m (.int .u64 (u : Nat))).congr (by intro j hj; by_cases e : j = m <;> simp [e]), h.ne, h.hq, h.hc, h.be.setCell (p := ⟨c, m, none⟩) h.hc _, fun j hj => by
    show (if j = m then u else f j) < _
    split
    · exact hu
    · exact h.lt j hj⟩
theorem LD.wh {w : World} {x : Cfg} {qc c N : Nat} {f : Nat → Nat} {W : World} (h : LD w x qc c N f W) : WH W c 0 N f := ⟨h.row.lt, fun j hj => by rw [Nat.zero_add]; exact h.row.cell hj⟩
/-- .. with a word's box. -/
structure LS (w : World) (x : Cfg) (qc c N : Nat) (f : Nat → Nat) (q : Nat) (S : S5) (W : World) : Prop where
  ld : LD w x qc c N f W
  box : W.rowIs q 55 5 S.cell
  ne : q ≠ c
theorem LS.below {w : World} {x : Cfg} {qc c N : Nat} {f : Nat → Nat} {q : Nat} {S : S5} {W W' : World} (h : LS w x qc c N f q S W) (hb : Below W.heap.size W W') : LS w x qc c N f q S W' := ⟨h.ld.below hb, h.box.of_block (hb.block _ h.box.lt), h.ne⟩
theorem LS.put {w : World} {x : Cfg} {qc c N : Nat} {f : Nat → Nat} {q : Nat} {S : S5} {W : World} (h : LS w x qc c N f q S W) (m u : Nat) (hu : u < 18446744073709551616) : LS w x qc c N (fun j => if j = m then u else f j) q S (W.setCell ⟨c, m, none⟩ (.int .u64 (u : Nat))) :=
  ⟨h.ld.put m u hu, h.box.of_block (Below.heap_setCell W ⟨c, m, none⟩ _ q h.ne), h.ne⟩
theorem LS.start {w : World} {x : Cfg} {qc c N : Nat} {f : Nat → Nat} {W : World} (h : LD w x qc c N f W) (S : S5) : LS w x qc c N f W.heap.size S (W.alloc (.cells #[.int .i64 S.a, .int .i64 S.b, .int .u32 (S.t : Int), .int .u64 (S.d : Int), .bool S.far] 55)) :=
  ⟨h.below ((Below.refl _ _).alloc (Nat.le_refl _) _), World.rowIs_alloc W #[.int .i64 S.a, .int .i64 S.b, .int .u32 (S.t : Int), .int .u64 (S.d : Int), .bool S.far] 55 _ (by intro j hj; match j, hj with | 0, _ => rfl | 1, _ => rfl | 2, _ => rfl | 3, _ => rfl | 4, _ => rfl), fun e => by have := h.row.lt; omega⟩
theorem LS.all {w : World} {x : Cfg} {qc c N : Nat} {f : Nat → Nat} {q : Nat} {S : S5} {W : World} (h : LS w x qc c N f q S W) : W.cell? ⟨qc, 0, none⟩ = some (.int .i64 x.t) ∧ W.cell? ⟨qc, 1, none⟩ = some (.int .i64 x.s) ∧ W.cell? ⟨qc, 2, none⟩ = some (.int .i64 x.l) ∧ W.cell? ⟨qc, 3, none⟩ = some (.int .i64 x.c) ∧ W.cell? ⟨qc, 4, none⟩ = some (.int .i64 x.s0) ∧ W.cell? ⟨qc, 5, none⟩ = some (.int .i64 x.n0) ∧ W.cell? ⟨qc, 6, none⟩ = some (.int .i64 x.s1) ∧ W.cell? ⟨qc, 7, none⟩ = some (.int .i64 x.n1) ∧ W.cell? ⟨qc, 8, none⟩ = some (.int .i64 x.r) ∧
    W.cell? ⟨q, 0, none⟩ = some (.int .i64 S.a) ∧ W.cell? ⟨q, 1, none⟩ = some (.int .i64 S.b) ∧ W.cell? ⟨q, 2, none⟩ = some (.int .u32 (S.t : Int)) ∧ W.cell? ⟨q, 3, none⟩ = some (.int .u64 (S.d : Int)) ∧ W.cell? ⟨q, 4, none⟩ = some (.bool S.far) := by
  obtain ⟨c0, c1, c2, c3, c4, c5, c6, c7, c8⟩ := h.ld.cfg.cells
  exact ⟨c0, c1, c2, c3, c4, c5, c6, c7, c8, h.box.cell (i := 0) (by omega), h.box.cell (i := 1) (by omega), h.box.cell (i := 2) (by omega), h.box.cell (i := 3) (by omega), h.box.cell (i := 4) (by omega)⟩
theorem mask15 (q : Int) : ∃ m : Nat, m ≤ 15 ∧ bits .and .i64 q 15 = (m : Int) := and_mask q 15 (by omega)
set_option maxRecDepth 100000 in
set_option maxHeartbeats 8000000 in
theorem laid_full (x : Cfg) (N : Nat) (A : Option Addr) (L cap : Nat) (g : Nat → S5) (w : World) (hr : Right x) (hN : sizeC x = (N : Int)) (hs : SRow w A L g) : Calls Tryz.prog 6 #[(.agg #[.int .i64 x.t, .int .i64 x.s, .int .i64 x.l, .int .i64 x.c, .int .i64 x.s0, .int .i64 x.n0, .int .i64 x.s1, .int .i64 x.n1, .int .i64 x.r]), .slice A L cap] w fun e w' => ∃ c f, e = .returned (.slice (some ⟨c, 0, none⟩) N N) ∧ WH w' c 0 N f ∧ (∀ j, j < N → f j < 18446744073709551616) ∧ w.heap.size ≤ c ∧ Below w.heap.size w w' ∧ w'.rowIs c 34 N (fun j => .int .u64 (f j : Nat)) := by
  have HR := Lib.hid hr
  have HN := Lib.hid hN
  have HS := Lib.hid hs
  have hcb := hr.b
  have N1 : 7 ≤ N := by have := hr.sizes; omega
  have N2 : N ≤ 2869 := by have := hr.sizes; omega
  clear hr hN hs
  go_enter Tryz.func6, Tryz.ntmps6
  go_wp2_with fail
  refine (r4Make_any x N _ HR.out HN.out).mono ?_
  rintro e w2 ⟨p, c, y, rfl, hRS, hy, -, hp, hc, hb⟩
  have hwh := made_wh HR.out hRS hy
  have hc1 : w.heap.size + 1 ≤ c := by simpa using hc
  have hlt : ∀ j, j < N → madeF x j < 18446744073709551616 := fun j hj => by
    have h2 := fw_range HR.out (decide (0 < x.n0)) (decide (0 < x.n1)) (fun b => decide ((b : Int) ≠ x.n0) && decide ((b : Int) < x.n0 + x.n1)) j
    have h3 : wordsC x j < 18446744073709551616 := h2.2
    have h4 : 0 ≤ wordsC x j := h2.1
    show (wordsC x j).toNat < _
    omega
  have K0 : Hid (∃ f, LD w x w.heap.size c N f w2) := Lib.hid ⟨madeF x, (cfgAt_box w x).below hb, hRS.row.congr (fun j hj => by
    rw [hy j hj]
    have h2 := fw_range HR.out (decide (0 < x.n0)) (decide (0 < x.n1)) (fun b => decide ((b : Int) ≠ x.n0) && decide ((b : Int) < x.n0 + x.n1)) j
    have h4 : 0 ≤ wordsC x j := h2.1
    show Value.int .u64 (wordsC x j) = .int .u64 (((wordsC x j).toNat : Nat) : Int)
    rw [Int.toNat_of_nonneg h4]), by omega, Nat.le_refl _, by omega, Below.step (B := w.heap.size) (a := w) (by (repeat (first | with_reducible exact Below.refl _ _ | with_reducible refine Below.drew ?_ | (with_reducible refine Below.setCell ?_ ?side _; case side => exact (by first | (simp; done) | (simp; omega) | omega)) | (with_reducible refine Below.alloc ?_ ?side _; case side => exact (by first | (simp; done) | (simp; omega) | omega))))) hb (by first | (simp; done) | (simp; omega) | omega), hlt⟩
  have hw0 : w2.cell? ⟨p, 0, none⟩ = some (.slice (some ⟨c, 0, none⟩) N N) := hRS.c 0 (by omega)
  clear hRS hy hb hwh hlt
  go_wp2_with fail
  clear hw0
  go_loopw [6] (fun iv wr => ∃ i : Nat, i ≤ L ∧ iv = .int .i64 i ∧ Hid (∃ f, LD w x w.heap.size c N f wr)) (fun iv _ => L - (intOf iv).toNat)
  case atStart => exact ⟨0, by omega, rfl, K0⟩
  case round =>
    clear K0
    obtain ⟨i, hi, rfl, HF⟩ := hrel
    obtain ⟨f, K⟩ := HF.out
    by_cases hin : i < L ∧ i < 12
    · obtain ⟨b, o, rfl, hbl, hcs⟩ := HS.out (by omega)
      have s0 := (K.be.cell (p := ⟨b, o + i * 5 + 0, none⟩) hbl).trans (hcs i hin.1 0 (by omega))
      have s1 := (K.be.cell (p := ⟨b, o + i * 5 + 1, none⟩) hbl).trans (hcs i hin.1 1 (by omega))
      have s2 := (K.be.cell (p := ⟨b, o + i * 5 + 2, none⟩) hbl).trans (hcs i hin.1 2 (by omega))
      have s3 := (K.be.cell (p := ⟨b, o + i * 5 + 3, none⟩) hbl).trans (hcs i hin.1 3 (by omega))
      have s4 := (K.be.cell (p := ⟨b, o + i * 5 + 4, none⟩) hbl).trans (hcs i hin.1 4 (by omega))
      obtain ⟨S, HSS⟩ : ∃ S, Hid (g i = S) := ⟨_, Lib.hid rfl⟩
      rw [HSS.out] at s0 s1 s2 s3 s4
      simp only [S5.cell, Nat.add_zero] at s0 s1 s2 s3 s4
      obtain ⟨c0, c1, c2, c3, c4, c5, c6, c7, c8⟩ := K.cfg.cells
      have g0 : (0 : Int) ≤ (i : Int) := by omega
      have g1 : (i : Int) < (L : Int) := by omega
      have g2 : (i : Int) < 12 := by omega
      obtain ⟨k, hk15, hk⟩ := mask15 S.a
      have hk2 := i_and_1 k (by omega)
      have hw3 : IntKind.i64.wrap 3 = 3 := rfl
      have hw4 : IntKind.i64.wrap 4 = 4 := rfl
      have hcn : 0 ≤ x.n0 ∧ x.n0 ≤ 12 ∧ 0 ≤ x.n1 ∧ x.n1 ≤ 12 := by have := HR.out.b; omega
      obtain ⟨v15, hv15, hvv⟩ := mask15 S.b
      have hvm : (v15 : Int) % 4294967296 = (v15 : Int) := by omega
      obtain ⟨U, hU⟩ : ∃ U : Nat, (S.t : Int) * 4294967296 + (v15 : Int) % 4294967296 = (U : Int) := ⟨S.t * 4294967296 + v15, by omega⟩
      have HU : Hid (U < 18446744073709551616) := Lib.hid (by have := S.lt; omega)
      have hmk := fun w => rmake_any S.t S.lt (v15 : Int) w
      simp only [hU] at hmk
      have HMK := Lib.hid hmk
      have KS := Lib.hid (LS.start K S)
      have hqc : w.heap.size < wr.heap.size := K.cfg.lt
      have hcl : c < wr.heap.size := K.row.lt
      have hcne : wr.heap.size ≠ c := by omega
      clear hcs K HF hmk hU hvm c0 c1 c2 c3 c4 c5 c6 c7 c8
      obtain ⟨c0, c1, c2, c3, c4, c5, c6, c7, c8, y0, y1, y2, y3, y4⟩ := LS.all KS.out
      rcases (show k % 2 = 0 ∨ k % 2 = 1 by omega) with hp | hp
      · rw [hp] at hk2
        by_cases hk1 : k ≤ 1
        · have dk : decide ((1 : Int) < (k : Int)) = false := by simp; omega
          have dk' : decide (1 < k) = false := by simp; omega
          go_wp2_with fail
          generalize wr.alloc (.cells #[.int .i64 S.a, .int .i64 S.b, .int .u32 (S.t : Int), .int .u64 (S.d : Int), .bool S.far] 55) = Wb at KS c0 c1 c2 c3 c4 c5 c6 c7 c8 y0 y1 y2 y3 y4 ⊢
          refine (HMK.out _).mono ?_
          rintro e w' ⟨rfl, rfl⟩
          have cw := KS.out.ld.row.cell (i := 3) (by omega)
          have cf := KS.out.ld.row.frozen 3
          have hm0 : (0 : Int) ≤ ((3 : Nat) : Int) := by omega
          have hm1 : ((3 : Nat) : Int) < (N : Int) := by omega
          have hn1 : 3 < N := by omega
          have K9 := Lib.hid (KS.out.put 3 U HU.out)
          cases hfar : S.far with
          | false =>
            rw [hfar] at y4
            have z4 := (LS.all K9.out).2.2.2.2.2.2.2.2.2.2.2.2.2
            rw [hfar] at z4
            go_wp2_with fail
            exact ⟨⟨i + 1, by omega, by go_num, Lib.hid ⟨_, K9.out.ld⟩⟩, by simp [intOf]; omega⟩
          | true =>
            rw [hfar] at y4
            have z4 := (LS.all K9.out).2.2.2.2.2.2.2.2.2.2.2.2.2
            have z3 := (LS.all K9.out).2.2.2.2.2.2.2.2.2.2.2.2.1
            rw [hfar] at z4
            have K10 := Lib.hid (K9.out.put 3 S.d S.ld)
            have dw := K9.out.ld.row.cell (i := 3) (by omega)
            have df := K9.out.ld.row.frozen 3
            go_wp2_with fail
            exact ⟨⟨i + 1, by omega, by go_num, Lib.hid ⟨_, K10.out.ld⟩⟩, by simp [intOf]; omega⟩
        · have dk : decide ((1 : Int) < (k : Int)) = true := by simp; omega
          have dk' : decide (1 < k) = true := by simp; omega
          have hk0 : (1 : Int) < (k : Int) := by omega
          have hbk := fun w => r4Blocks_any x w (by omega) (by omega) (by omega) (by omega)
          obtain ⟨nb, hnb⟩ : ∃ nb : Nat, x.n0 + x.n1 = (nb : Int) := ⟨(x.n0 + x.n1).toNat, by omega⟩
          simp only [hnb] at hbk
          have HBK := Lib.hid hbk
          clear hbk
          go_wp2_with fail
          generalize wr.alloc (.cells #[.int .i64 S.a, .int .i64 S.b, .int .u32 (S.t : Int), .int .u64 (S.d : Int), .bool S.far] 55) = Wb at KS c0 c1 c2 c3 c4 c5 c6 c7 c8 y0 y1 y2 y3 y4 ⊢
          refine (HBK.out _).mono ?_
          rintro e w5 ⟨rfl, hb⟩
          have K5 := Lib.hid (KS.out.below hb)
          clear KS c0 c1 c2 c3 c4 c5 c6 c7 c8 y0 y1 y2 y3 y4 hb
          obtain ⟨c0, c1, c2, c3, c4, c5, c6, c7, c8, y0, y1, y2, y3, y4⟩ := LS.all K5.out
          by_cases hin2 : (k : Int) - 1 ≤ (nb : Int)
          · obtain ⟨kb, hkb⟩ : ∃ kb : Nat, k = kb + 1 := ⟨k - 1, by omega⟩
            have di : decide ((kb : Int) ≤ (nb : Int)) = true := by simp; omega
            have di' : decide (kb ≤ nb) = true := by simp; omega
            have hadr := fun w => r4Block_adr x kb w HR.out (by omega) (by omega)
            have hal := adr_low HR.out kb (by omega) (by omega)
            obtain ⟨m, hm⟩ : ∃ m, adr x kb = m := ⟨_, rfl⟩
            rw [hm] at hal
            simp only [hm] at hadr
            have hmN : m < N := by have := HN.out; omega
            have HAD := Lib.hid hadr
            clear hadr hal hm
            go_wp2_with fail
            refine (HAD.out _).mono ?_
            rintro e w6 ⟨rfl, hb⟩
            have K6 := Lib.hid (K5.out.below hb)
            clear K5 c0 c1 c2 c3 c4 c5 c6 c7 c8 y0 y1 y2 y3 y4 hb
            obtain ⟨c0, c1, c2, c3, c4, c5, c6, c7, c8, y0, y1, y2, y3, y4⟩ := LS.all K6.out
            go_wp2_with fail
            refine (HMK.out _).mono ?_
            rintro e w' ⟨rfl, rfl⟩
            have cw := K6.out.ld.row.cell (i := m) (by omega)
            have cf := K6.out.ld.row.frozen m
            have hm0 : (0 : Int) ≤ ((m : Nat) : Int) := by omega
            have hm1 : ((m : Nat) : Int) < (N : Int) := by omega
            have hn1 : m < N := by omega
            have K9 := Lib.hid (K6.out.put m U HU.out)
            cases hfar : S.far with
            | false =>
              rw [hfar] at y4
              have z4 := (LS.all K9.out).2.2.2.2.2.2.2.2.2.2.2.2.2
              rw [hfar] at z4
              go_wp2_with fail
              exact ⟨⟨i + 1, by omega, by go_num, Lib.hid ⟨_, K9.out.ld⟩⟩, by simp [intOf]; omega⟩
            | true =>
              rw [hfar] at y4
              have z4 := (LS.all K9.out).2.2.2.2.2.2.2.2.2.2.2.2.2
              have z3 := (LS.all K9.out).2.2.2.2.2.2.2.2.2.2.2.2.1
              rw [hfar] at z4
              have K10 := Lib.hid (K9.out.put m S.d S.ld)
              have dw := K9.out.ld.row.cell (i := m) (by omega)
              have df := K9.out.ld.row.frozen m
              go_wp2_with fail
              exact ⟨⟨i + 1, by omega, by go_num, Lib.hid ⟨_, K10.out.ld⟩⟩, by simp [intOf]; omega⟩
          · have di : decide ((k : Int) - 1 ≤ (nb : Int)) = false := by simp; omega
            go_wp2_with fail
            refine (HMK.out _).mono ?_
            rintro e w' ⟨rfl, rfl⟩
            have cw := K5.out.ld.row.cell (i := 3) (by omega)
            have cf := K5.out.ld.row.frozen 3
            have hm0 : (0 : Int) ≤ ((3 : Nat) : Int) := by omega
            have hm1 : ((3 : Nat) : Int) < (N : Int) := by omega
            have hn1 : 3 < N := by omega
            have K9 := Lib.hid (K5.out.put 3 U HU.out)
            cases hfar : S.far with
            | false =>
              rw [hfar] at y4
              have z4 := (LS.all K9.out).2.2.2.2.2.2.2.2.2.2.2.2.2
              rw [hfar] at z4
              go_wp2_with fail
              exact ⟨⟨i + 1, by omega, by go_num, Lib.hid ⟨_, K9.out.ld⟩⟩, by simp [intOf]; omega⟩
            | true =>
              rw [hfar] at y4
              have z4 := (LS.all K9.out).2.2.2.2.2.2.2.2.2.2.2.2.2
              have z3 := (LS.all K9.out).2.2.2.2.2.2.2.2.2.2.2.2.1
              rw [hfar] at z4
              have K10 := Lib.hid (K9.out.put 3 S.d S.ld)
              have dw := K9.out.ld.row.cell (i := 3) (by omega)
              have df := K9.out.ld.row.frozen 3
              go_wp2_with fail
              exact ⟨⟨i + 1, by omega, by go_num, Lib.hid ⟨_, K10.out.ld⟩⟩, by simp [intOf]; omega⟩
      · rw [hp] at hk2
        by_cases hk1 : k ≤ 1
        · have dk : decide ((1 : Int) < (k : Int)) = false := by simp; omega
          have dk' : decide (1 < k) = false := by simp; omega
          go_wp2_with fail
          generalize wr.alloc (.cells #[.int .i64 S.a, .int .i64 S.b, .int .u32 (S.t : Int), .int .u64 (S.d : Int), .bool S.far] 55) = Wb at KS c0 c1 c2 c3 c4 c5 c6 c7 c8 y0 y1 y2 y3 y4 ⊢
          refine (HMK.out _).mono ?_
          rintro e w' ⟨rfl, rfl⟩
          have cw := KS.out.ld.row.cell (i := 4) (by omega)
          have cf := KS.out.ld.row.frozen 4
          have hm0 : (0 : Int) ≤ ((4 : Nat) : Int) := by omega
          have hm1 : ((4 : Nat) : Int) < (N : Int) := by omega
          have hn1 : 4 < N := by omega
          have K9 := Lib.hid (KS.out.put 4 U HU.out)
          cases hfar : S.far with
          | false =>
            rw [hfar] at y4
            have z4 := (LS.all K9.out).2.2.2.2.2.2.2.2.2.2.2.2.2
            rw [hfar] at z4
            go_wp2_with fail
            exact ⟨⟨i + 1, by omega, by go_num, Lib.hid ⟨_, K9.out.ld⟩⟩, by simp [intOf]; omega⟩
          | true =>
            rw [hfar] at y4
            have z4 := (LS.all K9.out).2.2.2.2.2.2.2.2.2.2.2.2.2
            have z3 := (LS.all K9.out).2.2.2.2.2.2.2.2.2.2.2.2.1
            rw [hfar] at z4
            have K10 := Lib.hid (K9.out.put 4 S.d S.ld)
            have dw := K9.out.ld.row.cell (i := 4) (by omega)
            have df := K9.out.ld.row.frozen 4
            go_wp2_with fail
            exact ⟨⟨i + 1, by omega, by go_num, Lib.hid ⟨_, K10.out.ld⟩⟩, by simp [intOf]; omega⟩
        · have dk : decide ((1 : Int) < (k : Int)) = true := by simp; omega
          have dk' : decide (1 < k) = true := by simp; omega
          have hk0 : (1 : Int) < (k : Int) := by omega
          have hbk := fun w => r4Blocks_any x w (by omega) (by omega) (by omega) (by omega)
          obtain ⟨nb, hnb⟩ : ∃ nb : Nat, x.n0 + x.n1 = (nb : Int) := ⟨(x.n0 + x.n1).toNat, by omega⟩
          simp only [hnb] at hbk
          have HBK := Lib.hid hbk
          clear hbk
          go_wp2_with fail
          generalize wr.alloc (.cells #[.int .i64 S.a, .int .i64 S.b, .int .u32 (S.t : Int), .int .u64 (S.d : Int), .bool S.far] 55) = Wb at KS c0 c1 c2 c3 c4 c5 c6 c7 c8 y0 y1 y2 y3 y4 ⊢
          refine (HBK.out _).mono ?_
          rintro e w5 ⟨rfl, hb⟩
          have K5 := Lib.hid (KS.out.below hb)
          clear KS c0 c1 c2 c3 c4 c5 c6 c7 c8 y0 y1 y2 y3 y4 hb
          obtain ⟨c0, c1, c2, c3, c4, c5, c6, c7, c8, y0, y1, y2, y3, y4⟩ := LS.all K5.out
          by_cases hin2 : (k : Int) - 1 ≤ (nb : Int)
          · obtain ⟨kb, hkb⟩ : ∃ kb : Nat, k = kb + 1 := ⟨k - 1, by omega⟩
            have di : decide ((kb : Int) ≤ (nb : Int)) = true := by simp; omega
            have di' : decide (kb ≤ nb) = true := by simp; omega
            have hadr := fun w => r4Block_adr x kb w HR.out (by omega) (by omega)
            have hal := adr_low HR.out kb (by omega) (by omega)
            obtain ⟨m, hm⟩ : ∃ m, adr x kb = m := ⟨_, rfl⟩
            rw [hm] at hal
            simp only [hm] at hadr
            have hmN : m < N := by have := HN.out; omega
            have HAD := Lib.hid hadr
            clear hadr hal hm
            go_wp2_with fail
            refine (HAD.out _).mono ?_
            rintro e w6 ⟨rfl, hb⟩
            have K6 := Lib.hid (K5.out.below hb)
            clear K5 c0 c1 c2 c3 c4 c5 c6 c7 c8 y0 y1 y2 y3 y4 hb
            obtain ⟨c0, c1, c2, c3, c4, c5, c6, c7, c8, y0, y1, y2, y3, y4⟩ := LS.all K6.out
            go_wp2_with fail
            refine (HMK.out _).mono ?_
            rintro e w' ⟨rfl, rfl⟩
            have cw := K6.out.ld.row.cell (i := m) (by omega)
            have cf := K6.out.ld.row.frozen m
            have hm0 : (0 : Int) ≤ ((m : Nat) : Int) := by omega
            have hm1 : ((m : Nat) : Int) < (N : Int) := by omega
            have hn1 : m < N := by omega
            have K9 := Lib.hid (K6.out.put m U HU.out)
            cases hfar : S.far with
            | false =>
              rw [hfar] at y4
              have z4 := (LS.all K9.out).2.2.2.2.2.2.2.2.2.2.2.2.2
              rw [hfar] at z4
              go_wp2_with fail
              exact ⟨⟨i + 1, by omega, by go_num, Lib.hid ⟨_, K9.out.ld⟩⟩, by simp [intOf]; omega⟩
            | true =>
              rw [hfar] at y4
              have z4 := (LS.all K9.out).2.2.2.2.2.2.2.2.2.2.2.2.2
              have z3 := (LS.all K9.out).2.2.2.2.2.2.2.2.2.2.2.2.1
              rw [hfar] at z4
              have K10 := Lib.hid (K9.out.put m S.d S.ld)
              have dw := K9.out.ld.row.cell (i := m) (by omega)
              have df := K9.out.ld.row.frozen m
              go_wp2_with fail
              exact ⟨⟨i + 1, by omega, by go_num, Lib.hid ⟨_, K10.out.ld⟩⟩, by simp [intOf]; omega⟩
          · have di : decide ((k : Int) - 1 ≤ (nb : Int)) = false := by simp; omega
            go_wp2_with fail
            refine (HMK.out _).mono ?_
            rintro e w' ⟨rfl, rfl⟩
            have cw := K5.out.ld.row.cell (i := 4) (by omega)
            have cf := K5.out.ld.row.frozen 4
            have hm0 : (0 : Int) ≤ ((4 : Nat) : Int) := by omega
            have hm1 : ((4 : Nat) : Int) < (N : Int) := by omega
            have hn1 : 4 < N := by omega
            have K9 := Lib.hid (K5.out.put 4 U HU.out)
            cases hfar : S.far with
            | false =>
              rw [hfar] at y4
              have z4 := (LS.all K9.out).2.2.2.2.2.2.2.2.2.2.2.2.2
              rw [hfar] at z4
              go_wp2_with fail
              exact ⟨⟨i + 1, by omega, by go_num, Lib.hid ⟨_, K9.out.ld⟩⟩, by simp [intOf]; omega⟩
            | true =>
              rw [hfar] at y4
              have z4 := (LS.all K9.out).2.2.2.2.2.2.2.2.2.2.2.2.2
              have z3 := (LS.all K9.out).2.2.2.2.2.2.2.2.2.2.2.2.1
              rw [hfar] at z4
              have K10 := Lib.hid (K9.out.put 4 S.d S.ld)
              have dw := K9.out.ld.row.cell (i := 4) (by omega)
              have df := K9.out.ld.row.frozen 4
              go_wp2_with fail
              exact ⟨⟨i + 1, by omega, by go_num, Lib.hid ⟨_, K10.out.ld⟩⟩, by simp [intOf]; omega⟩
    · rcases (show (¬ i < L ∧ decide ((i : Int) < (L : Int)) = false ∧ decide (i < L) = false) ∨ (i < L ∧ ¬ i < 12 ∧ decide ((i : Int) < 12) = false ∧ decide (i < 12) = false) by
        by_cases h : i < L
        · exact .inr ⟨h, by omega, by simp; omega, by simp; omega⟩
        · exact .inl ⟨h, by simp; omega, by simp; omega⟩) with ⟨h1, h2, h3⟩ | ⟨h1, h2, h3, h4⟩
      · have KK := Lib.hid K
        clear K
        go_wp2
        go_ret
        exact ⟨c, f, rfl, KK.out.wh, KK.out.lt, KK.out.hc, KK.out.be, KK.out.row⟩
      · have KK := Lib.hid K
        have h5 : (i : Int) < (L : Int) := by omega
        clear K
        go_wp2
        go_ret
        exact ⟨c, f, rfl, KK.out.wh, KK.out.lt, KK.out.hc, KK.out.be, KK.out.row⟩
theorem laid_any (x : Cfg) (N : Nat) (A : Option Addr) (L cap : Nat) (g : Nat → S5) (w : World) (hr : Right x) (hN : sizeC x = (N : Int)) (hs : SRow w A L g) : Calls Tryz.prog 6 #[(.agg #[.int .i64 x.t, .int .i64 x.s, .int .i64 x.l, .int .i64 x.c, .int .i64 x.s0, .int .i64 x.n0, .int .i64 x.s1, .int .i64 x.n1, .int .i64 x.r]), .slice A L cap] w fun e w' => ∃ c f, e = .returned (.slice (some ⟨c, 0, none⟩) N N) ∧ WH w' c 0 N f ∧ (∀ j, j < N → f j < 18446744073709551616) ∧ w.heap.size ≤ c ∧ Below w.heap.size w w' :=
  (laid_full x N A L cap g w hr hN hs).mono fun _ _ ⟨c, f, h1, h2, h3, h4, h5, _⟩ => ⟨c, f, h1, h2, h3, h4, h5⟩

end Go.Proofs.YtkpffnihnhlghaaGreatDoor
