/- ArenaOwn: the walk. -/
import Derived.Test.YtkndgdokpbbdpaaDoorDOps
namespace Go.Proofs.YtkndgdokpbbdpaaDoor
open Go.RowKit

theorem err_is (w : World) (p c n : Nat) (x : St) (h : ArS w p c n x) (y : Option Int) (hy : x.e = y) : Calls Tryd.prog 19 #[.pointer (some ⟨p, 0, none⟩)] w fun e w' => e = .returned (errV y) ∧ w = w' := by
  subst hy; exact err_any w p c n x h
theorem steps_is (w : World) (p c n : Nat) (x : St) (h : ArS w p c n x) (s : Int) (hs : x.s = s) : Calls Tryd.prog 21 #[.pointer (some ⟨p, 0, none⟩)] w fun e w' => e = .returned (.int .i64 s) ∧ w = w' := by
  subst hs; exact steps_any w p c n x h

theorem Rd.setOther {w0 : World} {p c : Nat} {x : St} {d : Nat} {o : Op6} {W : World} (h : Rd w0 p c x d o W) {g j : Nat} (h1 : p ≠ g) (h2 : c ≠ g) (h3 : d ≠ g) (h4 : w0.heap.size ≤ g) (u : Value) : Rd w0 p c x d o (W.setCell ⟨g, j, none⟩ u) :=
  ⟨Ar.setOther (a := ⟨g, j, none⟩) h.ar h1 h2 u, h.op.setOther (a := ⟨g, j, none⟩) h3 u, h.be.setCell (p := ⟨g, j, none⟩) h4 u, h.dp, h.dc⟩

/-- What a step does to the count and the trouble. -/
structure StepE (x x' : St) (w : Int) : Prop where
  s : x'.s = x.s + 1
  e : x'.e = if inB 8 w = true then x.e else some (x.e.getD w)

theorem stepE_load (x : St) (w : Int) : StepE x (x.load 8 w) w := by
  refine ⟨St.load_s _ _ _, ?_⟩
  unfold St.load St.kept St.out; split <;> rfl
theorem stepE_store (x : St) (w v : Int) : StepE x (x.store 8 w v) w := by
  refine ⟨St.store_s _ _ _ _, ?_⟩
  unfold St.store St.made St.out; split <;> rfl
theorem stepE_swap (x : St) (w o v : Int) : StepE x (x.swap 8 w o v) w := by
  refine ⟨St.swap_s _ _ _ _ _, ?_⟩
  unfold St.swap St.made St.kept St.out
  split
  · split <;> rfl
  · rfl

/-- What holds at every step of the script. -/
def OwInv (w0 : World) (p c len : Nat) (first bad i : Value) (wr : World) : Prop :=
  ∃ (k : Nat) (x : St), k ≤ len ∧ k ≤ 40 ∧ i = .int .i64 k ∧ x.s = k ∧ first = .int .i64 (x.e.getD 0) ∧ bad = .bool x.e.isSome ∧ ArS wr p c 8 x ∧ Below w0.heap.size w0 wr

set_option maxRecDepth 100000 in
set_option maxHeartbeats 8000000 in
theorem lawOwn_any (w : World) (A : Option Addr) (len cap : Nat) (t : Nat → Op6) (_hl : len ≤ cap) (_hc : cap ≤ 9223372036854775807) (ht : ORow w A len t) (hE : Cs.ErrT w) :
    Calls Tryd.prog 6 #[.slice A len cap] w fun e w' => e = .returned (.bool true) ∧ Below w.heap.size w w' := by
  have HT := Lib.hid ht
  have HE := Lib.hid hE
  clear ht hE
  go_enter Tryd.func6, Tryd.ntmps6
  go_wp2_with fail
  refine (awake_any _).mono ?_
  rintro e w1 ⟨rfl, hb1⟩
  have hz1 := hb1.size
  have HB1 := Lib.hid hb1
  clear hb1
  go_wp2_with fail
  refine (new_some 8 (by omega) (by omega) _).mono ?_
  rintro e w2 ⟨rfl, hA, hb⟩
  have hpc := hA.ne
  have hps : w.heap.size ≤ w1.heap.size + 1 := by omega
  have HS : Hid (OwInv w (w1.heap.size + 1) w1.heap.size len (.int .i64 0) (.bool false) (.int .i64 0) w2) := Lib.hid ⟨0, St.zero, by omega, by omega, rfl, rfl, rfl, rfl, hA, HB1.out.trans (hb.mono hz1)⟩
  clear hb hA HB1
  revert hpc hps HS
  generalize w1.heap.size + 1 = p
  generalize hcc : w1.heap.size = c at hz1 ⊢
  clear hcc
  intro hpc hps HS
  go_wp2_with fail
  go_loopw [5, 6, 7] (fun first bad i wr => OwInv w p c len first bad i wr) (fun _ _ i _ => 40 - (intOf i).toNat)
  case atStart => exact HS.out
  case round =>
    clear HS
    obtain ⟨k, x, hk1, hk2, rfl, hxs, hfirst, hbad, hA, hB⟩ := hrel
    have HX := Lib.hid hxs
    have HA := Lib.hid hA
    have HB := Lib.hid hB
    clear hxs hA hB
    by_cases hlt : k < len ∧ k < 40
    · obtain ⟨hlt1, hlt2⟩ := hlt
      obtain ⟨b, off, rfl, hbz, hcell⟩ := HT.out (by omega)
      have hcc : ∀ q, q < 6 → wr.cell? ⟨b, off + k * 6 + q, none⟩ = some ((t k).cell q) := fun q hq => (HB.out.cell (p := ⟨b, off + k * 6 + q, none⟩) hbz).trans (hcell k hlt1 q hq)
      have c0 := hcc 0 (by omega)
      have c1 := hcc 1 (by omega)
      have c2 := hcc 2 (by omega)
      have c3 := hcc 3 (by omega)
      have c4 := hcc 4 (by omega)
      have c5 := hcc 5 (by omega)
      simp only [Nat.add_zero, Op6.cell] at c0 c1 c2 c3 c4 c5
      clear hcc hcell
      generalize hto : t k = o at *
      clear hto
      obtain ⟨ow, how⟩ : ∃ ow, o.word = ow := ⟨_, rfl⟩
      have HW := Lib.hid how
      clear how
      have hcase : (x.e = none ∧ inB 8 ow = true ∧ 0 ≤ ow ∧ ow ≤ 7) ∨ (x.e = none ∧ ¬ inB 8 ow = true ∧ ow < 0) ∨ (x.e = none ∧ ¬ inB 8 ow = true ∧ 0 ≤ ow ∧ 7 < ow) ∨ ∃ y, x.e = some y := by
        cases hxe : x.e with
        | some y => exact .inr (.inr (.inr ⟨y, rfl⟩))
        | none =>
          by_cases hin : inB 8 ow = true
          · obtain ⟨m, rfl, hm⟩ := inB_true hin
            exact .inl ⟨rfl, hin, by omega, by omega⟩
          · rcases Int.lt_or_le ow 0 with h | h
            · exact .inr (.inl ⟨rfl, hin, h⟩)
            · rcases inB_false hin with h' | h'
              · omega
              · exact .inr (.inr (.inl ⟨rfl, hin, h, by omega⟩))
      rcases hcase with ⟨hxe, hin, hw0, hw7⟩ | ⟨hxe, hin, hw0⟩ | ⟨hxe, hin, hw0, hw7⟩ | ⟨y, hxe⟩
      · have hd0 : decide (ow < 0) = false := by simp; omega
        have hd7 : decide (7 < ow) = false := by simp; omega
        rw [hxe] at hfirst hbad
        simp only [Option.getD_none, Option.isSome_none] at hfirst hbad
        subst hfirst hbad
        have HXE := Lib.hid hxe
        clear hxe
        go_wp2_with fail
        refine (word_any o _).mono ?_
        rintro e W1 ⟨rfl, hb⟩
        rw [HW.out]
        have R1 := Lib.hid ((Rd.start HA.out HB.out o).below hb)
        clear hb c0 c1 c2 c3 c4 c5 HA HB
        generalize wr.heap.size = d at *
        have d0 := R1.out.op.cell (i := 0) (by omega)
        have d1 := R1.out.op.cell (i := 1) (by omega)
        have d2 := R1.out.op.cell (i := 2) (by omega)
        have d3 := R1.out.op.cell (i := 3) (by omega)
        have d4 := R1.out.op.cell (i := 4) (by omega)
        have d5 := R1.out.op.cell (i := 5) (by omega)
        simp only [Op6.cell] at d0 d1 d2 d3 d4 d5
        go_wp2_with fail
        refine (vals_any o _).mono ?_
        rintro e W3 ⟨rfl, hb⟩
        have R3 := Lib.hid (R1.out.below hb)
        clear hb d0 d1 d2 d3 d4 d5 R1
        generalize hoo : o.o = oo at *
        generalize hov : o.v = ov at *
        clear hoo hov
        have d0 := R3.out.op.cell (i := 0) (by omega)
        simp only [Op6.cell] at d0
        obtain ⟨kd, hkd, HM0⟩ := and_mask o.kind 3 (by omega)
        have HM : bits .and .i64 o.kind 3 = (kd : Int) := HM0
        clear HM0
        have hks : kd = 0 ∨ kd = 1 ∨ (¬ kd = 0 ∧ ¬ kd = 1) := by omega
        rcases hks with rfl | rfl | ⟨hk0, hk11⟩
        · go_wp2_with fail
          refine (load_any W3 p c 8 x R3.out.ar (by have := HX.out; omega) (by have := HX.out; omega) ow).mono ?_
          rintro e W4 ⟨rfl, hA, hO⟩
          have R4 := Lib.hid (R3.out.only hO hA hps hz1)
          have SE := Lib.hid (stepE_load x ow)
          clear hA hO R3 d0 HM
          generalize x.load 8 ow = x' at *
          have HS' : Hid (x'.s = (k : Int) + 1) := Lib.hid (by rw [SE.out.s, HX.out])
          have HE' : Hid (x'.e = none) := Lib.hid (by rw [SE.out.e, if_pos hin, HXE.out])
          have kw := cword_any none W4
          simp only [Option.getD_none, Option.isSome_none] at kw
          go_wp2_with fail
          refine (err_is W4 p c 8 x' R4.out.ar none HE'.out).mono ?_
          rintro e w' ⟨rfl, rfl⟩
          go_wp2_with fail
          refine kw.mono ?_
          rintro e W5 ⟨rfl, hb⟩
          clear kw
          have R5 := Lib.hid (R4.out.below hb)
          clear hb R4
          go_wp2_with fail
          refine (err_is W5 p c 8 x' R5.out.ar none HE'.out).mono ?_
          rintro e w' ⟨rfl, rfl⟩
          have kt := ctop_any none W5 (HE.out.below R5.out.be)
          rw [show topE none = 0 from rfl] at kt
          go_wp2_with fail
          refine kt.mono ?_
          rintro e W6 ⟨rfl, hb⟩
          clear kt
          have R6 := Lib.hid (R5.out.below hb)
          clear hb R5
          go_wp2_with fail
          refine (steps_is W6 p c 8 x' R6.out.ar ((k : Int) + 1) HS'.out).mono ?_
          rintro e w' ⟨rfl, rfl⟩
          go_wp2_with fail
          refine (words_any W6 p c 8 x' R6.out.ar (by omega) (by omega)).mono ?_
          rintro e W7 ⟨g1, cap1, F1, rfl, hg1, hcap1, hrow1, hF1, hb⟩
          have hp6 := R6.out.ar.obj.lt
          have hc6 := R6.out.ar.row.lt
          have hd6 := R6.out.op.lt
          have R7 := Lib.hid (R6.out.below hb)
          have HR1 := Lib.hid hrow1
          clear hb hrow1 R6
          obtain ⟨m, hm, HM0⟩ := and_mask (k : Int) 7 (by omega)
          have HM : bits .and .i64 (k : Int) 7 = (m : Int) := HM0
          clear HM0
          have cm := HR1.out.cell (i := m) (by omega)
          rw [hF1 m (by omega)] at cm
          have fr1 := HR1.out.frozen
          clear hF1
          go_wp2_with fail
          have R8 := Lib.hid (R7.out.setOther (g := g1) (j := m) (by omega) (by omega) (by omega) (by have := R7.out.be.size; omega) (.int .u64 (IntKind.u64.wrap (x'.f m + 1))))
          clear R7 HR1 cm fr1
          refine (words_any _ p c 8 x' R8.out.ar (by omega) (by omega)).mono ?_
          rintro e W9 ⟨g2, cap2, F2, rfl, hg2, hcap2, hrow2, hF2, hb⟩
          have R9 := Lib.hid (R8.out.below hb)
          have cn := hrow2.cell (i := m) (by omega)
          rw [hF2 m (by omega)] at cn
          clear hb hrow2 hF2 R8
          go_wp2_with fail
          go_roundw
          case rel => exact ⟨k + 1, x', by omega, by omega, by go_num, by rw [HS'.out]; omega, by rw [HE'.out]; rfl, by rw [HE'.out]; rfl, R9.out.ar, R9.out.be⟩
          case measure => simp [intOf]; omega
        · go_wp2_with fail
          refine (store_any W3 p c 8 x R3.out.ar (by have := HX.out; omega) (by have := HX.out; omega) ow ov).mono ?_
          rintro e W4 ⟨rfl, hA, hO⟩
          have R4 := Lib.hid (R3.out.only hO hA hps hz1)
          have SE := Lib.hid (stepE_store x ow ov)
          clear hA hO R3 d0 HM
          generalize x.store 8 ow ov = x' at *
          have HS' : Hid (x'.s = (k : Int) + 1) := Lib.hid (by rw [SE.out.s, HX.out])
          have HE' : Hid (x'.e = none) := Lib.hid (by rw [SE.out.e, if_pos hin, HXE.out])
          have kw := cword_any none W4
          simp only [Option.getD_none, Option.isSome_none] at kw
          go_wp2_with fail
          refine (err_is W4 p c 8 x' R4.out.ar none HE'.out).mono ?_
          rintro e w' ⟨rfl, rfl⟩
          go_wp2_with fail
          refine kw.mono ?_
          rintro e W5 ⟨rfl, hb⟩
          clear kw
          have R5 := Lib.hid (R4.out.below hb)
          clear hb R4
          go_wp2_with fail
          refine (err_is W5 p c 8 x' R5.out.ar none HE'.out).mono ?_
          rintro e w' ⟨rfl, rfl⟩
          have kt := ctop_any none W5 (HE.out.below R5.out.be)
          rw [show topE none = 0 from rfl] at kt
          go_wp2_with fail
          refine kt.mono ?_
          rintro e W6 ⟨rfl, hb⟩
          clear kt
          have R6 := Lib.hid (R5.out.below hb)
          clear hb R5
          go_wp2_with fail
          refine (steps_is W6 p c 8 x' R6.out.ar ((k : Int) + 1) HS'.out).mono ?_
          rintro e w' ⟨rfl, rfl⟩
          go_wp2_with fail
          refine (words_any W6 p c 8 x' R6.out.ar (by omega) (by omega)).mono ?_
          rintro e W7 ⟨g1, cap1, F1, rfl, hg1, hcap1, hrow1, hF1, hb⟩
          have hp6 := R6.out.ar.obj.lt
          have hc6 := R6.out.ar.row.lt
          have hd6 := R6.out.op.lt
          have R7 := Lib.hid (R6.out.below hb)
          have HR1 := Lib.hid hrow1
          clear hb hrow1 R6
          obtain ⟨m, hm, HM0⟩ := and_mask (k : Int) 7 (by omega)
          have HM : bits .and .i64 (k : Int) 7 = (m : Int) := HM0
          clear HM0
          have cm := HR1.out.cell (i := m) (by omega)
          rw [hF1 m (by omega)] at cm
          have fr1 := HR1.out.frozen
          clear hF1
          go_wp2_with fail
          have R8 := Lib.hid (R7.out.setOther (g := g1) (j := m) (by omega) (by omega) (by omega) (by have := R7.out.be.size; omega) (.int .u64 (IntKind.u64.wrap (x'.f m + 1))))
          clear R7 HR1 cm fr1
          refine (words_any _ p c 8 x' R8.out.ar (by omega) (by omega)).mono ?_
          rintro e W9 ⟨g2, cap2, F2, rfl, hg2, hcap2, hrow2, hF2, hb⟩
          have R9 := Lib.hid (R8.out.below hb)
          have cn := hrow2.cell (i := m) (by omega)
          rw [hF2 m (by omega)] at cn
          clear hb hrow2 hF2 R8
          go_wp2_with fail
          go_roundw
          case rel => exact ⟨k + 1, x', by omega, by omega, by go_num, by rw [HS'.out]; omega, by rw [HE'.out]; rfl, by rw [HE'.out]; rfl, R9.out.ar, R9.out.be⟩
          case measure => simp [intOf]; omega
        · go_wp2_with fail
          refine (swap_any W3 p c 8 x R3.out.ar (by have := HX.out; omega) (by have := HX.out; omega) ow oo ov).mono ?_
          rintro e W4 ⟨rfl, hA, hO⟩
          have R4 := Lib.hid (R3.out.only hO hA hps hz1)
          have SE := Lib.hid (stepE_swap x ow oo ov)
          clear hA hO R3 d0 HM
          generalize x.swap 8 ow oo ov = x' at *
          have HS' : Hid (x'.s = (k : Int) + 1) := Lib.hid (by rw [SE.out.s, HX.out])
          have HE' : Hid (x'.e = none) := Lib.hid (by rw [SE.out.e, if_pos hin, HXE.out])
          have kw := cword_any none W4
          simp only [Option.getD_none, Option.isSome_none] at kw
          go_wp2_with fail
          refine (err_is W4 p c 8 x' R4.out.ar none HE'.out).mono ?_
          rintro e w' ⟨rfl, rfl⟩
          go_wp2_with fail
          refine kw.mono ?_
          rintro e W5 ⟨rfl, hb⟩
          clear kw
          have R5 := Lib.hid (R4.out.below hb)
          clear hb R4
          go_wp2_with fail
          refine (err_is W5 p c 8 x' R5.out.ar none HE'.out).mono ?_
          rintro e w' ⟨rfl, rfl⟩
          have kt := ctop_any none W5 (HE.out.below R5.out.be)
          rw [show topE none = 0 from rfl] at kt
          go_wp2_with fail
          refine kt.mono ?_
          rintro e W6 ⟨rfl, hb⟩
          clear kt
          have R6 := Lib.hid (R5.out.below hb)
          clear hb R5
          go_wp2_with fail
          refine (steps_is W6 p c 8 x' R6.out.ar ((k : Int) + 1) HS'.out).mono ?_
          rintro e w' ⟨rfl, rfl⟩
          go_wp2_with fail
          refine (words_any W6 p c 8 x' R6.out.ar (by omega) (by omega)).mono ?_
          rintro e W7 ⟨g1, cap1, F1, rfl, hg1, hcap1, hrow1, hF1, hb⟩
          have hp6 := R6.out.ar.obj.lt
          have hc6 := R6.out.ar.row.lt
          have hd6 := R6.out.op.lt
          have R7 := Lib.hid (R6.out.below hb)
          have HR1 := Lib.hid hrow1
          clear hb hrow1 R6
          obtain ⟨m, hm, HM0⟩ := and_mask (k : Int) 7 (by omega)
          have HM : bits .and .i64 (k : Int) 7 = (m : Int) := HM0
          clear HM0
          have cm := HR1.out.cell (i := m) (by omega)
          rw [hF1 m (by omega)] at cm
          have fr1 := HR1.out.frozen
          clear hF1
          go_wp2_with fail
          have R8 := Lib.hid (R7.out.setOther (g := g1) (j := m) (by omega) (by omega) (by omega) (by have := R7.out.be.size; omega) (.int .u64 (IntKind.u64.wrap (x'.f m + 1))))
          clear R7 HR1 cm fr1
          refine (words_any _ p c 8 x' R8.out.ar (by omega) (by omega)).mono ?_
          rintro e W9 ⟨g2, cap2, F2, rfl, hg2, hcap2, hrow2, hF2, hb⟩
          have R9 := Lib.hid (R8.out.below hb)
          have cn := hrow2.cell (i := m) (by omega)
          rw [hF2 m (by omega)] at cn
          clear hb hrow2 hF2 R8
          go_wp2_with fail
          go_roundw
          case rel => exact ⟨k + 1, x', by omega, by omega, by go_num, by rw [HS'.out]; omega, by rw [HE'.out]; rfl, by rw [HE'.out]; rfl, R9.out.ar, R9.out.be⟩
          case measure => simp [intOf]; omega
      · have hd0 : decide (ow < 0) = true := by simp; omega
        rw [hxe] at hfirst hbad
        simp only [Option.getD_none, Option.isSome_none] at hfirst hbad
        subst hfirst hbad
        have HXE := Lib.hid hxe
        clear hxe
        go_wp2_with fail
        refine (word_any o _).mono ?_
        rintro e W1 ⟨rfl, hb⟩
        rw [HW.out]
        have R1 := Lib.hid ((Rd.start HA.out HB.out o).below hb)
        clear hb c0 c1 c2 c3 c4 c5 HA HB
        generalize wr.heap.size = d at *
        have d0 := R1.out.op.cell (i := 0) (by omega)
        have d1 := R1.out.op.cell (i := 1) (by omega)
        have d2 := R1.out.op.cell (i := 2) (by omega)
        have d3 := R1.out.op.cell (i := 3) (by omega)
        have d4 := R1.out.op.cell (i := 4) (by omega)
        have d5 := R1.out.op.cell (i := 5) (by omega)
        simp only [Op6.cell] at d0 d1 d2 d3 d4 d5
        go_wp2_with fail
        refine (vals_any o _).mono ?_
        rintro e W3 ⟨rfl, hb⟩
        have R3 := Lib.hid (R1.out.below hb)
        clear hb d0 d1 d2 d3 d4 d5 R1
        generalize hoo : o.o = oo at *
        generalize hov : o.v = ov at *
        clear hoo hov
        have d0 := R3.out.op.cell (i := 0) (by omega)
        simp only [Op6.cell] at d0
        obtain ⟨kd, hkd, HM0⟩ := and_mask o.kind 3 (by omega)
        have HM : bits .and .i64 o.kind 3 = (kd : Int) := HM0
        clear HM0
        have hks : kd = 0 ∨ kd = 1 ∨ (¬ kd = 0 ∧ ¬ kd = 1) := by omega
        rcases hks with rfl | rfl | ⟨hk0, hk11⟩
        · go_wp2_with fail
          refine (load_any W3 p c 8 x R3.out.ar (by have := HX.out; omega) (by have := HX.out; omega) ow).mono ?_
          rintro e W4 ⟨rfl, hA, hO⟩
          have R4 := Lib.hid (R3.out.only hO hA hps hz1)
          have SE := Lib.hid (stepE_load x ow)
          clear hA hO R3 d0 HM
          generalize x.load 8 ow = x' at *
          have HS' : Hid (x'.s = (k : Int) + 1) := Lib.hid (by rw [SE.out.s, HX.out])
          have HE' : Hid (x'.e = some ow) := Lib.hid (by rw [SE.out.e, if_neg hin, HXE.out]; rfl)
          have kw := cword_any (some ow) W4
          simp only [Option.getD_some, Option.isSome_some] at kw
          go_wp2_with fail
          refine (err_is W4 p c 8 x' R4.out.ar (some ow) HE'.out).mono ?_
          rintro e w' ⟨rfl, rfl⟩
          go_wp2_with fail
          refine kw.mono ?_
          rintro e W5 ⟨rfl, hb⟩
          clear kw
          have R5 := Lib.hid (R4.out.below hb)
          clear hb R4
          go_wp2_with fail
          refine (err_is W5 p c 8 x' R5.out.ar (some ow) HE'.out).mono ?_
          rintro e w' ⟨rfl, rfl⟩
          have kt := ctop_any (some ow) W5 (HE.out.below R5.out.be)
          rw [show topE (some ow) = 23 from rfl] at kt
          go_wp2_with fail
          refine kt.mono ?_
          rintro e W6 ⟨rfl, hb⟩
          clear kt
          have R6 := Lib.hid (R5.out.below hb)
          clear hb R5
          go_wp2_with fail
          refine (steps_is W6 p c 8 x' R6.out.ar ((k : Int) + 1) HS'.out).mono ?_
          rintro e w' ⟨rfl, rfl⟩
          go_wp2_with fail
          refine (words_any W6 p c 8 x' R6.out.ar (by omega) (by omega)).mono ?_
          rintro e W7 ⟨g1, cap1, F1, rfl, hg1, hcap1, hrow1, hF1, hb⟩
          have hp6 := R6.out.ar.obj.lt
          have hc6 := R6.out.ar.row.lt
          have hd6 := R6.out.op.lt
          have R7 := Lib.hid (R6.out.below hb)
          have HR1 := Lib.hid hrow1
          clear hb hrow1 R6
          obtain ⟨m, hm, HM0⟩ := and_mask (k : Int) 7 (by omega)
          have HM : bits .and .i64 (k : Int) 7 = (m : Int) := HM0
          clear HM0
          have cm := HR1.out.cell (i := m) (by omega)
          rw [hF1 m (by omega)] at cm
          have fr1 := HR1.out.frozen
          clear hF1
          go_wp2_with fail
          have R8 := Lib.hid (R7.out.setOther (g := g1) (j := m) (by omega) (by omega) (by omega) (by have := R7.out.be.size; omega) (.int .u64 (IntKind.u64.wrap (x'.f m + 1))))
          clear R7 HR1 cm fr1
          refine (words_any _ p c 8 x' R8.out.ar (by omega) (by omega)).mono ?_
          rintro e W9 ⟨g2, cap2, F2, rfl, hg2, hcap2, hrow2, hF2, hb⟩
          have R9 := Lib.hid (R8.out.below hb)
          have cn := hrow2.cell (i := m) (by omega)
          rw [hF2 m (by omega)] at cn
          clear hb hrow2 hF2 R8
          go_wp2_with fail
          go_roundw
          case rel => exact ⟨k + 1, x', by omega, by omega, by go_num, by rw [HS'.out]; omega, by rw [HE'.out]; rfl, by rw [HE'.out]; rfl, R9.out.ar, R9.out.be⟩
          case measure => simp [intOf]; omega
        · go_wp2_with fail
          refine (store_any W3 p c 8 x R3.out.ar (by have := HX.out; omega) (by have := HX.out; omega) ow ov).mono ?_
          rintro e W4 ⟨rfl, hA, hO⟩
          have R4 := Lib.hid (R3.out.only hO hA hps hz1)
          have SE := Lib.hid (stepE_store x ow ov)
          clear hA hO R3 d0 HM
          generalize x.store 8 ow ov = x' at *
          have HS' : Hid (x'.s = (k : Int) + 1) := Lib.hid (by rw [SE.out.s, HX.out])
          have HE' : Hid (x'.e = some ow) := Lib.hid (by rw [SE.out.e, if_neg hin, HXE.out]; rfl)
          have kw := cword_any (some ow) W4
          simp only [Option.getD_some, Option.isSome_some] at kw
          go_wp2_with fail
          refine (err_is W4 p c 8 x' R4.out.ar (some ow) HE'.out).mono ?_
          rintro e w' ⟨rfl, rfl⟩
          go_wp2_with fail
          refine kw.mono ?_
          rintro e W5 ⟨rfl, hb⟩
          clear kw
          have R5 := Lib.hid (R4.out.below hb)
          clear hb R4
          go_wp2_with fail
          refine (err_is W5 p c 8 x' R5.out.ar (some ow) HE'.out).mono ?_
          rintro e w' ⟨rfl, rfl⟩
          have kt := ctop_any (some ow) W5 (HE.out.below R5.out.be)
          rw [show topE (some ow) = 23 from rfl] at kt
          go_wp2_with fail
          refine kt.mono ?_
          rintro e W6 ⟨rfl, hb⟩
          clear kt
          have R6 := Lib.hid (R5.out.below hb)
          clear hb R5
          go_wp2_with fail
          refine (steps_is W6 p c 8 x' R6.out.ar ((k : Int) + 1) HS'.out).mono ?_
          rintro e w' ⟨rfl, rfl⟩
          go_wp2_with fail
          refine (words_any W6 p c 8 x' R6.out.ar (by omega) (by omega)).mono ?_
          rintro e W7 ⟨g1, cap1, F1, rfl, hg1, hcap1, hrow1, hF1, hb⟩
          have hp6 := R6.out.ar.obj.lt
          have hc6 := R6.out.ar.row.lt
          have hd6 := R6.out.op.lt
          have R7 := Lib.hid (R6.out.below hb)
          have HR1 := Lib.hid hrow1
          clear hb hrow1 R6
          obtain ⟨m, hm, HM0⟩ := and_mask (k : Int) 7 (by omega)
          have HM : bits .and .i64 (k : Int) 7 = (m : Int) := HM0
          clear HM0
          have cm := HR1.out.cell (i := m) (by omega)
          rw [hF1 m (by omega)] at cm
          have fr1 := HR1.out.frozen
          clear hF1
          go_wp2_with fail
          have R8 := Lib.hid (R7.out.setOther (g := g1) (j := m) (by omega) (by omega) (by omega) (by have := R7.out.be.size; omega) (.int .u64 (IntKind.u64.wrap (x'.f m + 1))))
          clear R7 HR1 cm fr1
          refine (words_any _ p c 8 x' R8.out.ar (by omega) (by omega)).mono ?_
          rintro e W9 ⟨g2, cap2, F2, rfl, hg2, hcap2, hrow2, hF2, hb⟩
          have R9 := Lib.hid (R8.out.below hb)
          have cn := hrow2.cell (i := m) (by omega)
          rw [hF2 m (by omega)] at cn
          clear hb hrow2 hF2 R8
          go_wp2_with fail
          go_roundw
          case rel => exact ⟨k + 1, x', by omega, by omega, by go_num, by rw [HS'.out]; omega, by rw [HE'.out]; rfl, by rw [HE'.out]; rfl, R9.out.ar, R9.out.be⟩
          case measure => simp [intOf]; omega
        · go_wp2_with fail
          refine (swap_any W3 p c 8 x R3.out.ar (by have := HX.out; omega) (by have := HX.out; omega) ow oo ov).mono ?_
          rintro e W4 ⟨rfl, hA, hO⟩
          have R4 := Lib.hid (R3.out.only hO hA hps hz1)
          have SE := Lib.hid (stepE_swap x ow oo ov)
          clear hA hO R3 d0 HM
          generalize x.swap 8 ow oo ov = x' at *
          have HS' : Hid (x'.s = (k : Int) + 1) := Lib.hid (by rw [SE.out.s, HX.out])
          have HE' : Hid (x'.e = some ow) := Lib.hid (by rw [SE.out.e, if_neg hin, HXE.out]; rfl)
          have kw := cword_any (some ow) W4
          simp only [Option.getD_some, Option.isSome_some] at kw
          go_wp2_with fail
          refine (err_is W4 p c 8 x' R4.out.ar (some ow) HE'.out).mono ?_
          rintro e w' ⟨rfl, rfl⟩
          go_wp2_with fail
          refine kw.mono ?_
          rintro e W5 ⟨rfl, hb⟩
          clear kw
          have R5 := Lib.hid (R4.out.below hb)
          clear hb R4
          go_wp2_with fail
          refine (err_is W5 p c 8 x' R5.out.ar (some ow) HE'.out).mono ?_
          rintro e w' ⟨rfl, rfl⟩
          have kt := ctop_any (some ow) W5 (HE.out.below R5.out.be)
          rw [show topE (some ow) = 23 from rfl] at kt
          go_wp2_with fail
          refine kt.mono ?_
          rintro e W6 ⟨rfl, hb⟩
          clear kt
          have R6 := Lib.hid (R5.out.below hb)
          clear hb R5
          go_wp2_with fail
          refine (steps_is W6 p c 8 x' R6.out.ar ((k : Int) + 1) HS'.out).mono ?_
          rintro e w' ⟨rfl, rfl⟩
          go_wp2_with fail
          refine (words_any W6 p c 8 x' R6.out.ar (by omega) (by omega)).mono ?_
          rintro e W7 ⟨g1, cap1, F1, rfl, hg1, hcap1, hrow1, hF1, hb⟩
          have hp6 := R6.out.ar.obj.lt
          have hc6 := R6.out.ar.row.lt
          have hd6 := R6.out.op.lt
          have R7 := Lib.hid (R6.out.below hb)
          have HR1 := Lib.hid hrow1
          clear hb hrow1 R6
          obtain ⟨m, hm, HM0⟩ := and_mask (k : Int) 7 (by omega)
          have HM : bits .and .i64 (k : Int) 7 = (m : Int) := HM0
          clear HM0
          have cm := HR1.out.cell (i := m) (by omega)
          rw [hF1 m (by omega)] at cm
          have fr1 := HR1.out.frozen
          clear hF1
          go_wp2_with fail
          have R8 := Lib.hid (R7.out.setOther (g := g1) (j := m) (by omega) (by omega) (by omega) (by have := R7.out.be.size; omega) (.int .u64 (IntKind.u64.wrap (x'.f m + 1))))
          clear R7 HR1 cm fr1
          refine (words_any _ p c 8 x' R8.out.ar (by omega) (by omega)).mono ?_
          rintro e W9 ⟨g2, cap2, F2, rfl, hg2, hcap2, hrow2, hF2, hb⟩
          have R9 := Lib.hid (R8.out.below hb)
          have cn := hrow2.cell (i := m) (by omega)
          rw [hF2 m (by omega)] at cn
          clear hb hrow2 hF2 R8
          go_wp2_with fail
          go_roundw
          case rel => exact ⟨k + 1, x', by omega, by omega, by go_num, by rw [HS'.out]; omega, by rw [HE'.out]; rfl, by rw [HE'.out]; rfl, R9.out.ar, R9.out.be⟩
          case measure => simp [intOf]; omega
      · have hd0 : decide (ow < 0) = false := by simp; omega
        have hd7 : decide (7 < ow) = true := by simp; omega
        rw [hxe] at hfirst hbad
        simp only [Option.getD_none, Option.isSome_none] at hfirst hbad
        subst hfirst hbad
        have HXE := Lib.hid hxe
        clear hxe
        go_wp2_with fail
        refine (word_any o _).mono ?_
        rintro e W1 ⟨rfl, hb⟩
        rw [HW.out]
        have R1 := Lib.hid ((Rd.start HA.out HB.out o).below hb)
        clear hb c0 c1 c2 c3 c4 c5 HA HB
        generalize wr.heap.size = d at *
        have d0 := R1.out.op.cell (i := 0) (by omega)
        have d1 := R1.out.op.cell (i := 1) (by omega)
        have d2 := R1.out.op.cell (i := 2) (by omega)
        have d3 := R1.out.op.cell (i := 3) (by omega)
        have d4 := R1.out.op.cell (i := 4) (by omega)
        have d5 := R1.out.op.cell (i := 5) (by omega)
        simp only [Op6.cell] at d0 d1 d2 d3 d4 d5
        go_wp2_with fail
        refine (vals_any o _).mono ?_
        rintro e W3 ⟨rfl, hb⟩
        have R3 := Lib.hid (R1.out.below hb)
        clear hb d0 d1 d2 d3 d4 d5 R1
        generalize hoo : o.o = oo at *
        generalize hov : o.v = ov at *
        clear hoo hov
        have d0 := R3.out.op.cell (i := 0) (by omega)
        simp only [Op6.cell] at d0
        obtain ⟨kd, hkd, HM0⟩ := and_mask o.kind 3 (by omega)
        have HM : bits .and .i64 o.kind 3 = (kd : Int) := HM0
        clear HM0
        have hks : kd = 0 ∨ kd = 1 ∨ (¬ kd = 0 ∧ ¬ kd = 1) := by omega
        rcases hks with rfl | rfl | ⟨hk0, hk11⟩
        · go_wp2_with fail
          refine (load_any W3 p c 8 x R3.out.ar (by have := HX.out; omega) (by have := HX.out; omega) ow).mono ?_
          rintro e W4 ⟨rfl, hA, hO⟩
          have R4 := Lib.hid (R3.out.only hO hA hps hz1)
          have SE := Lib.hid (stepE_load x ow)
          clear hA hO R3 d0 HM
          generalize x.load 8 ow = x' at *
          have HS' : Hid (x'.s = (k : Int) + 1) := Lib.hid (by rw [SE.out.s, HX.out])
          have HE' : Hid (x'.e = some ow) := Lib.hid (by rw [SE.out.e, if_neg hin, HXE.out]; rfl)
          have kw := cword_any (some ow) W4
          simp only [Option.getD_some, Option.isSome_some] at kw
          go_wp2_with fail
          refine (err_is W4 p c 8 x' R4.out.ar (some ow) HE'.out).mono ?_
          rintro e w' ⟨rfl, rfl⟩
          go_wp2_with fail
          refine kw.mono ?_
          rintro e W5 ⟨rfl, hb⟩
          clear kw
          have R5 := Lib.hid (R4.out.below hb)
          clear hb R4
          go_wp2_with fail
          refine (err_is W5 p c 8 x' R5.out.ar (some ow) HE'.out).mono ?_
          rintro e w' ⟨rfl, rfl⟩
          have kt := ctop_any (some ow) W5 (HE.out.below R5.out.be)
          rw [show topE (some ow) = 23 from rfl] at kt
          go_wp2_with fail
          refine kt.mono ?_
          rintro e W6 ⟨rfl, hb⟩
          clear kt
          have R6 := Lib.hid (R5.out.below hb)
          clear hb R5
          go_wp2_with fail
          refine (steps_is W6 p c 8 x' R6.out.ar ((k : Int) + 1) HS'.out).mono ?_
          rintro e w' ⟨rfl, rfl⟩
          go_wp2_with fail
          refine (words_any W6 p c 8 x' R6.out.ar (by omega) (by omega)).mono ?_
          rintro e W7 ⟨g1, cap1, F1, rfl, hg1, hcap1, hrow1, hF1, hb⟩
          have hp6 := R6.out.ar.obj.lt
          have hc6 := R6.out.ar.row.lt
          have hd6 := R6.out.op.lt
          have R7 := Lib.hid (R6.out.below hb)
          have HR1 := Lib.hid hrow1
          clear hb hrow1 R6
          obtain ⟨m, hm, HM0⟩ := and_mask (k : Int) 7 (by omega)
          have HM : bits .and .i64 (k : Int) 7 = (m : Int) := HM0
          clear HM0
          have cm := HR1.out.cell (i := m) (by omega)
          rw [hF1 m (by omega)] at cm
          have fr1 := HR1.out.frozen
          clear hF1
          go_wp2_with fail
          have R8 := Lib.hid (R7.out.setOther (g := g1) (j := m) (by omega) (by omega) (by omega) (by have := R7.out.be.size; omega) (.int .u64 (IntKind.u64.wrap (x'.f m + 1))))
          clear R7 HR1 cm fr1
          refine (words_any _ p c 8 x' R8.out.ar (by omega) (by omega)).mono ?_
          rintro e W9 ⟨g2, cap2, F2, rfl, hg2, hcap2, hrow2, hF2, hb⟩
          have R9 := Lib.hid (R8.out.below hb)
          have cn := hrow2.cell (i := m) (by omega)
          rw [hF2 m (by omega)] at cn
          clear hb hrow2 hF2 R8
          go_wp2_with fail
          go_roundw
          case rel => exact ⟨k + 1, x', by omega, by omega, by go_num, by rw [HS'.out]; omega, by rw [HE'.out]; rfl, by rw [HE'.out]; rfl, R9.out.ar, R9.out.be⟩
          case measure => simp [intOf]; omega
        · go_wp2_with fail
          refine (store_any W3 p c 8 x R3.out.ar (by have := HX.out; omega) (by have := HX.out; omega) ow ov).mono ?_
          rintro e W4 ⟨rfl, hA, hO⟩
          have R4 := Lib.hid (R3.out.only hO hA hps hz1)
          have SE := Lib.hid (stepE_store x ow ov)
          clear hA hO R3 d0 HM
          generalize x.store 8 ow ov = x' at *
          have HS' : Hid (x'.s = (k : Int) + 1) := Lib.hid (by rw [SE.out.s, HX.out])
          have HE' : Hid (x'.e = some ow) := Lib.hid (by rw [SE.out.e, if_neg hin, HXE.out]; rfl)
          have kw := cword_any (some ow) W4
          simp only [Option.getD_some, Option.isSome_some] at kw
          go_wp2_with fail
          refine (err_is W4 p c 8 x' R4.out.ar (some ow) HE'.out).mono ?_
          rintro e w' ⟨rfl, rfl⟩
          go_wp2_with fail
          refine kw.mono ?_
          rintro e W5 ⟨rfl, hb⟩
          clear kw
          have R5 := Lib.hid (R4.out.below hb)
          clear hb R4
          go_wp2_with fail
          refine (err_is W5 p c 8 x' R5.out.ar (some ow) HE'.out).mono ?_
          rintro e w' ⟨rfl, rfl⟩
          have kt := ctop_any (some ow) W5 (HE.out.below R5.out.be)
          rw [show topE (some ow) = 23 from rfl] at kt
          go_wp2_with fail
          refine kt.mono ?_
          rintro e W6 ⟨rfl, hb⟩
          clear kt
          have R6 := Lib.hid (R5.out.below hb)
          clear hb R5
          go_wp2_with fail
          refine (steps_is W6 p c 8 x' R6.out.ar ((k : Int) + 1) HS'.out).mono ?_
          rintro e w' ⟨rfl, rfl⟩
          go_wp2_with fail
          refine (words_any W6 p c 8 x' R6.out.ar (by omega) (by omega)).mono ?_
          rintro e W7 ⟨g1, cap1, F1, rfl, hg1, hcap1, hrow1, hF1, hb⟩
          have hp6 := R6.out.ar.obj.lt
          have hc6 := R6.out.ar.row.lt
          have hd6 := R6.out.op.lt
          have R7 := Lib.hid (R6.out.below hb)
          have HR1 := Lib.hid hrow1
          clear hb hrow1 R6
          obtain ⟨m, hm, HM0⟩ := and_mask (k : Int) 7 (by omega)
          have HM : bits .and .i64 (k : Int) 7 = (m : Int) := HM0
          clear HM0
          have cm := HR1.out.cell (i := m) (by omega)
          rw [hF1 m (by omega)] at cm
          have fr1 := HR1.out.frozen
          clear hF1
          go_wp2_with fail
          have R8 := Lib.hid (R7.out.setOther (g := g1) (j := m) (by omega) (by omega) (by omega) (by have := R7.out.be.size; omega) (.int .u64 (IntKind.u64.wrap (x'.f m + 1))))
          clear R7 HR1 cm fr1
          refine (words_any _ p c 8 x' R8.out.ar (by omega) (by omega)).mono ?_
          rintro e W9 ⟨g2, cap2, F2, rfl, hg2, hcap2, hrow2, hF2, hb⟩
          have R9 := Lib.hid (R8.out.below hb)
          have cn := hrow2.cell (i := m) (by omega)
          rw [hF2 m (by omega)] at cn
          clear hb hrow2 hF2 R8
          go_wp2_with fail
          go_roundw
          case rel => exact ⟨k + 1, x', by omega, by omega, by go_num, by rw [HS'.out]; omega, by rw [HE'.out]; rfl, by rw [HE'.out]; rfl, R9.out.ar, R9.out.be⟩
          case measure => simp [intOf]; omega
        · go_wp2_with fail
          refine (swap_any W3 p c 8 x R3.out.ar (by have := HX.out; omega) (by have := HX.out; omega) ow oo ov).mono ?_
          rintro e W4 ⟨rfl, hA, hO⟩
          have R4 := Lib.hid (R3.out.only hO hA hps hz1)
          have SE := Lib.hid (stepE_swap x ow oo ov)
          clear hA hO R3 d0 HM
          generalize x.swap 8 ow oo ov = x' at *
          have HS' : Hid (x'.s = (k : Int) + 1) := Lib.hid (by rw [SE.out.s, HX.out])
          have HE' : Hid (x'.e = some ow) := Lib.hid (by rw [SE.out.e, if_neg hin, HXE.out]; rfl)
          have kw := cword_any (some ow) W4
          simp only [Option.getD_some, Option.isSome_some] at kw
          go_wp2_with fail
          refine (err_is W4 p c 8 x' R4.out.ar (some ow) HE'.out).mono ?_
          rintro e w' ⟨rfl, rfl⟩
          go_wp2_with fail
          refine kw.mono ?_
          rintro e W5 ⟨rfl, hb⟩
          clear kw
          have R5 := Lib.hid (R4.out.below hb)
          clear hb R4
          go_wp2_with fail
          refine (err_is W5 p c 8 x' R5.out.ar (some ow) HE'.out).mono ?_
          rintro e w' ⟨rfl, rfl⟩
          have kt := ctop_any (some ow) W5 (HE.out.below R5.out.be)
          rw [show topE (some ow) = 23 from rfl] at kt
          go_wp2_with fail
          refine kt.mono ?_
          rintro e W6 ⟨rfl, hb⟩
          clear kt
          have R6 := Lib.hid (R5.out.below hb)
          clear hb R5
          go_wp2_with fail
          refine (steps_is W6 p c 8 x' R6.out.ar ((k : Int) + 1) HS'.out).mono ?_
          rintro e w' ⟨rfl, rfl⟩
          go_wp2_with fail
          refine (words_any W6 p c 8 x' R6.out.ar (by omega) (by omega)).mono ?_
          rintro e W7 ⟨g1, cap1, F1, rfl, hg1, hcap1, hrow1, hF1, hb⟩
          have hp6 := R6.out.ar.obj.lt
          have hc6 := R6.out.ar.row.lt
          have hd6 := R6.out.op.lt
          have R7 := Lib.hid (R6.out.below hb)
          have HR1 := Lib.hid hrow1
          clear hb hrow1 R6
          obtain ⟨m, hm, HM0⟩ := and_mask (k : Int) 7 (by omega)
          have HM : bits .and .i64 (k : Int) 7 = (m : Int) := HM0
          clear HM0
          have cm := HR1.out.cell (i := m) (by omega)
          rw [hF1 m (by omega)] at cm
          have fr1 := HR1.out.frozen
          clear hF1
          go_wp2_with fail
          have R8 := Lib.hid (R7.out.setOther (g := g1) (j := m) (by omega) (by omega) (by omega) (by have := R7.out.be.size; omega) (.int .u64 (IntKind.u64.wrap (x'.f m + 1))))
          clear R7 HR1 cm fr1
          refine (words_any _ p c 8 x' R8.out.ar (by omega) (by omega)).mono ?_
          rintro e W9 ⟨g2, cap2, F2, rfl, hg2, hcap2, hrow2, hF2, hb⟩
          have R9 := Lib.hid (R8.out.below hb)
          have cn := hrow2.cell (i := m) (by omega)
          rw [hF2 m (by omega)] at cn
          clear hb hrow2 hF2 R8
          go_wp2_with fail
          go_roundw
          case rel => exact ⟨k + 1, x', by omega, by omega, by go_num, by rw [HS'.out]; omega, by rw [HE'.out]; rfl, by rw [HE'.out]; rfl, R9.out.ar, R9.out.be⟩
          case measure => simp [intOf]; omega
      · rw [hxe] at hfirst hbad
        simp only [Option.getD_some, Option.isSome_some] at hfirst hbad
        subst hfirst hbad
        have HXE := Lib.hid hxe
        clear hxe
        go_wp2_with fail
        refine (word_any o _).mono ?_
        rintro e W1 ⟨rfl, hb⟩
        rw [HW.out]
        have R1 := Lib.hid ((Rd.start HA.out HB.out o).below hb)
        clear hb c0 c1 c2 c3 c4 c5 HA HB
        generalize wr.heap.size = d at *
        have d0 := R1.out.op.cell (i := 0) (by omega)
        have d1 := R1.out.op.cell (i := 1) (by omega)
        have d2 := R1.out.op.cell (i := 2) (by omega)
        have d3 := R1.out.op.cell (i := 3) (by omega)
        have d4 := R1.out.op.cell (i := 4) (by omega)
        have d5 := R1.out.op.cell (i := 5) (by omega)
        simp only [Op6.cell] at d0 d1 d2 d3 d4 d5
        go_wp2_with fail
        refine (vals_any o _).mono ?_
        rintro e W3 ⟨rfl, hb⟩
        have R3 := Lib.hid (R1.out.below hb)
        clear hb d0 d1 d2 d3 d4 d5 R1
        generalize hoo : o.o = oo at *
        generalize hov : o.v = ov at *
        clear hoo hov
        have d0 := R3.out.op.cell (i := 0) (by omega)
        simp only [Op6.cell] at d0
        obtain ⟨kd, hkd, HM0⟩ := and_mask o.kind 3 (by omega)
        have HM : bits .and .i64 o.kind 3 = (kd : Int) := HM0
        clear HM0
        have hks : kd = 0 ∨ kd = 1 ∨ (¬ kd = 0 ∧ ¬ kd = 1) := by omega
        rcases hks with rfl | rfl | ⟨hk0, hk11⟩
        · go_wp2_with fail
          refine (load_any W3 p c 8 x R3.out.ar (by have := HX.out; omega) (by have := HX.out; omega) ow).mono ?_
          rintro e W4 ⟨rfl, hA, hO⟩
          have R4 := Lib.hid (R3.out.only hO hA hps hz1)
          have SE := Lib.hid (stepE_load x ow)
          clear hA hO R3 d0 HM
          generalize x.load 8 ow = x' at *
          have HS' : Hid (x'.s = (k : Int) + 1) := Lib.hid (by rw [SE.out.s, HX.out])
          have HE' : Hid (x'.e = some y) := Lib.hid (by rw [SE.out.e, HXE.out]; simp)
          have kw := cword_any (some y) W4
          simp only [Option.getD_some, Option.isSome_some] at kw
          go_wp2_with fail
          refine (err_is W4 p c 8 x' R4.out.ar (some y) HE'.out).mono ?_
          rintro e w' ⟨rfl, rfl⟩
          go_wp2_with fail
          refine kw.mono ?_
          rintro e W5 ⟨rfl, hb⟩
          clear kw
          have R5 := Lib.hid (R4.out.below hb)
          clear hb R4
          go_wp2_with fail
          refine (err_is W5 p c 8 x' R5.out.ar (some y) HE'.out).mono ?_
          rintro e w' ⟨rfl, rfl⟩
          have kt := ctop_any (some y) W5 (HE.out.below R5.out.be)
          rw [show topE (some y) = 23 from rfl] at kt
          go_wp2_with fail
          refine kt.mono ?_
          rintro e W6 ⟨rfl, hb⟩
          clear kt
          have R6 := Lib.hid (R5.out.below hb)
          clear hb R5
          go_wp2_with fail
          refine (steps_is W6 p c 8 x' R6.out.ar ((k : Int) + 1) HS'.out).mono ?_
          rintro e w' ⟨rfl, rfl⟩
          go_wp2_with fail
          refine (words_any W6 p c 8 x' R6.out.ar (by omega) (by omega)).mono ?_
          rintro e W7 ⟨g1, cap1, F1, rfl, hg1, hcap1, hrow1, hF1, hb⟩
          have hp6 := R6.out.ar.obj.lt
          have hc6 := R6.out.ar.row.lt
          have hd6 := R6.out.op.lt
          have R7 := Lib.hid (R6.out.below hb)
          have HR1 := Lib.hid hrow1
          clear hb hrow1 R6
          obtain ⟨m, hm, HM0⟩ := and_mask (k : Int) 7 (by omega)
          have HM : bits .and .i64 (k : Int) 7 = (m : Int) := HM0
          clear HM0
          have cm := HR1.out.cell (i := m) (by omega)
          rw [hF1 m (by omega)] at cm
          have fr1 := HR1.out.frozen
          clear hF1
          go_wp2_with fail
          have R8 := Lib.hid (R7.out.setOther (g := g1) (j := m) (by omega) (by omega) (by omega) (by have := R7.out.be.size; omega) (.int .u64 (IntKind.u64.wrap (x'.f m + 1))))
          clear R7 HR1 cm fr1
          refine (words_any _ p c 8 x' R8.out.ar (by omega) (by omega)).mono ?_
          rintro e W9 ⟨g2, cap2, F2, rfl, hg2, hcap2, hrow2, hF2, hb⟩
          have R9 := Lib.hid (R8.out.below hb)
          have cn := hrow2.cell (i := m) (by omega)
          rw [hF2 m (by omega)] at cn
          clear hb hrow2 hF2 R8
          go_wp2_with fail
          go_roundw
          case rel => exact ⟨k + 1, x', by omega, by omega, by go_num, by rw [HS'.out]; omega, by rw [HE'.out]; rfl, by rw [HE'.out]; rfl, R9.out.ar, R9.out.be⟩
          case measure => simp [intOf]; omega
        · go_wp2_with fail
          refine (store_any W3 p c 8 x R3.out.ar (by have := HX.out; omega) (by have := HX.out; omega) ow ov).mono ?_
          rintro e W4 ⟨rfl, hA, hO⟩
          have R4 := Lib.hid (R3.out.only hO hA hps hz1)
          have SE := Lib.hid (stepE_store x ow ov)
          clear hA hO R3 d0 HM
          generalize x.store 8 ow ov = x' at *
          have HS' : Hid (x'.s = (k : Int) + 1) := Lib.hid (by rw [SE.out.s, HX.out])
          have HE' : Hid (x'.e = some y) := Lib.hid (by rw [SE.out.e, HXE.out]; simp)
          have kw := cword_any (some y) W4
          simp only [Option.getD_some, Option.isSome_some] at kw
          go_wp2_with fail
          refine (err_is W4 p c 8 x' R4.out.ar (some y) HE'.out).mono ?_
          rintro e w' ⟨rfl, rfl⟩
          go_wp2_with fail
          refine kw.mono ?_
          rintro e W5 ⟨rfl, hb⟩
          clear kw
          have R5 := Lib.hid (R4.out.below hb)
          clear hb R4
          go_wp2_with fail
          refine (err_is W5 p c 8 x' R5.out.ar (some y) HE'.out).mono ?_
          rintro e w' ⟨rfl, rfl⟩
          have kt := ctop_any (some y) W5 (HE.out.below R5.out.be)
          rw [show topE (some y) = 23 from rfl] at kt
          go_wp2_with fail
          refine kt.mono ?_
          rintro e W6 ⟨rfl, hb⟩
          clear kt
          have R6 := Lib.hid (R5.out.below hb)
          clear hb R5
          go_wp2_with fail
          refine (steps_is W6 p c 8 x' R6.out.ar ((k : Int) + 1) HS'.out).mono ?_
          rintro e w' ⟨rfl, rfl⟩
          go_wp2_with fail
          refine (words_any W6 p c 8 x' R6.out.ar (by omega) (by omega)).mono ?_
          rintro e W7 ⟨g1, cap1, F1, rfl, hg1, hcap1, hrow1, hF1, hb⟩
          have hp6 := R6.out.ar.obj.lt
          have hc6 := R6.out.ar.row.lt
          have hd6 := R6.out.op.lt
          have R7 := Lib.hid (R6.out.below hb)
          have HR1 := Lib.hid hrow1
          clear hb hrow1 R6
          obtain ⟨m, hm, HM0⟩ := and_mask (k : Int) 7 (by omega)
          have HM : bits .and .i64 (k : Int) 7 = (m : Int) := HM0
          clear HM0
          have cm := HR1.out.cell (i := m) (by omega)
          rw [hF1 m (by omega)] at cm
          have fr1 := HR1.out.frozen
          clear hF1
          go_wp2_with fail
          have R8 := Lib.hid (R7.out.setOther (g := g1) (j := m) (by omega) (by omega) (by omega) (by have := R7.out.be.size; omega) (.int .u64 (IntKind.u64.wrap (x'.f m + 1))))
          clear R7 HR1 cm fr1
          refine (words_any _ p c 8 x' R8.out.ar (by omega) (by omega)).mono ?_
          rintro e W9 ⟨g2, cap2, F2, rfl, hg2, hcap2, hrow2, hF2, hb⟩
          have R9 := Lib.hid (R8.out.below hb)
          have cn := hrow2.cell (i := m) (by omega)
          rw [hF2 m (by omega)] at cn
          clear hb hrow2 hF2 R8
          go_wp2_with fail
          go_roundw
          case rel => exact ⟨k + 1, x', by omega, by omega, by go_num, by rw [HS'.out]; omega, by rw [HE'.out]; rfl, by rw [HE'.out]; rfl, R9.out.ar, R9.out.be⟩
          case measure => simp [intOf]; omega
        · go_wp2_with fail
          refine (swap_any W3 p c 8 x R3.out.ar (by have := HX.out; omega) (by have := HX.out; omega) ow oo ov).mono ?_
          rintro e W4 ⟨rfl, hA, hO⟩
          have R4 := Lib.hid (R3.out.only hO hA hps hz1)
          have SE := Lib.hid (stepE_swap x ow oo ov)
          clear hA hO R3 d0 HM
          generalize x.swap 8 ow oo ov = x' at *
          have HS' : Hid (x'.s = (k : Int) + 1) := Lib.hid (by rw [SE.out.s, HX.out])
          have HE' : Hid (x'.e = some y) := Lib.hid (by rw [SE.out.e, HXE.out]; simp)
          have kw := cword_any (some y) W4
          simp only [Option.getD_some, Option.isSome_some] at kw
          go_wp2_with fail
          refine (err_is W4 p c 8 x' R4.out.ar (some y) HE'.out).mono ?_
          rintro e w' ⟨rfl, rfl⟩
          go_wp2_with fail
          refine kw.mono ?_
          rintro e W5 ⟨rfl, hb⟩
          clear kw
          have R5 := Lib.hid (R4.out.below hb)
          clear hb R4
          go_wp2_with fail
          refine (err_is W5 p c 8 x' R5.out.ar (some y) HE'.out).mono ?_
          rintro e w' ⟨rfl, rfl⟩
          have kt := ctop_any (some y) W5 (HE.out.below R5.out.be)
          rw [show topE (some y) = 23 from rfl] at kt
          go_wp2_with fail
          refine kt.mono ?_
          rintro e W6 ⟨rfl, hb⟩
          clear kt
          have R6 := Lib.hid (R5.out.below hb)
          clear hb R5
          go_wp2_with fail
          refine (steps_is W6 p c 8 x' R6.out.ar ((k : Int) + 1) HS'.out).mono ?_
          rintro e w' ⟨rfl, rfl⟩
          go_wp2_with fail
          refine (words_any W6 p c 8 x' R6.out.ar (by omega) (by omega)).mono ?_
          rintro e W7 ⟨g1, cap1, F1, rfl, hg1, hcap1, hrow1, hF1, hb⟩
          have hp6 := R6.out.ar.obj.lt
          have hc6 := R6.out.ar.row.lt
          have hd6 := R6.out.op.lt
          have R7 := Lib.hid (R6.out.below hb)
          have HR1 := Lib.hid hrow1
          clear hb hrow1 R6
          obtain ⟨m, hm, HM0⟩ := and_mask (k : Int) 7 (by omega)
          have HM : bits .and .i64 (k : Int) 7 = (m : Int) := HM0
          clear HM0
          have cm := HR1.out.cell (i := m) (by omega)
          rw [hF1 m (by omega)] at cm
          have fr1 := HR1.out.frozen
          clear hF1
          go_wp2_with fail
          have R8 := Lib.hid (R7.out.setOther (g := g1) (j := m) (by omega) (by omega) (by omega) (by have := R7.out.be.size; omega) (.int .u64 (IntKind.u64.wrap (x'.f m + 1))))
          clear R7 HR1 cm fr1
          refine (words_any _ p c 8 x' R8.out.ar (by omega) (by omega)).mono ?_
          rintro e W9 ⟨g2, cap2, F2, rfl, hg2, hcap2, hrow2, hF2, hb⟩
          have R9 := Lib.hid (R8.out.below hb)
          have cn := hrow2.cell (i := m) (by omega)
          rw [hF2 m (by omega)] at cn
          clear hb hrow2 hF2 R8
          go_wp2_with fail
          go_roundw
          case rel => exact ⟨k + 1, x', by omega, by omega, by go_num, by rw [HS'.out]; omega, by rw [HE'.out]; rfl, by rw [HE'.out]; rfl, R9.out.ar, R9.out.be⟩
          case measure => simp [intOf]; omega
    · have hd : decide (k < len) = false ∨ (decide (k < len) = true ∧ decide ((k : Int) < 40) = false) := by
        by_cases h : k < len
        · exact .inr ⟨by simpa using h, by simp; omega⟩
        · exact .inl (by simpa using h)
      subst hfirst hbad
      clear hlt
      rcases hd with hd | ⟨hd, hd2⟩
      all_goals
        go_wp2
        go_ret
        exact ⟨rfl, HB.out⟩
end Go.Proofs.YtkndgdokpbbdpaaDoor
