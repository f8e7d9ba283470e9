/- ArenaApart: steps as a script has them; the walk. -/
import Derived.Test.YtkndgdokpbbdpaaOpen
import Derived.LoopTactic
namespace Go.Proofs.Ytkndgdokpbbdpaa
open Go.RowKit

/-- A step of a script. -/
structure Op6 where
  kind : Int
  i : Int
  old : Int
  new : Int
  far : Bool
  wide : Bool

def Op6.val (o : Op6) : Value := .agg #[.int .i64 o.kind, .int .i64 o.i, .int .u64 o.old, .int .u64 o.new, .bool o.far, .bool o.wide]
def Op6.cell (o : Op6) : Nat → Value
  | 0 => .int .i64 o.kind
  | 1 => .int .i64 o.i
  | 2 => .int .u64 o.old
  | 3 => .int .u64 o.new
  | 4 => .bool o.far
  | _ => .bool o.wide
/-- The word, and the values, that are meant. -/
def Op6.word (o : Op6) : Int := if o.far then o.i else bits .and .i64 o.i 7
def Op6.o (o : Op6) : Int := if o.wide then o.old else bits .and .u64 o.old 3
def Op6.v (o : Op6) : Int := if o.wide then o.new else bits .and .u64 o.new 3

/-- A row of steps that is read. -/
def ORow (w : World) (A : Option Addr) (len : Nat) (g : Nat → Op6) : Prop := 0 < len → ∃ b off, A = some ⟨b, off, none⟩ ∧ b < w.heap.size ∧ ∀ j, j < len → ∀ q, q < 6 → w.cell? ⟨b, off + j * 6 + q, none⟩ = some ((g j).cell q)

set_option maxHeartbeats 400000 in
theorem word_any (o : Op6) (w : World) : Calls Try.prog 9 #[o.val] w fun e w' => e = .returned (.int .i64 o.word) ∧ Below w.heap.size w w' := by
  unfold Op6.val Op6.word
  cases o.far
  all_goals
    go_enter Try.func9, Try.ntmps9
    go_wp2
    go_ret
    exact ⟨rfl, (Below.refl _ _).alloc (Nat.le_refl _) _⟩

set_option maxHeartbeats 400000 in
theorem vals_any (o : Op6) (w : World) : Calls Try.prog 10 #[o.val] w fun e w' => e = .returned (.tuple #[.int .u64 o.o, .int .u64 o.v]) ∧ Below w.heap.size w w' := by
  unfold Op6.val Op6.o Op6.v
  cases o.wide
  all_goals
    go_enter Try.func10, Try.ntmps10
    go_wp2_with fail
    go_quiet (fail)
    go_wp2
    go_ret2
    exact ⟨rfl, below_drewN ((Below.refl _ _).alloc (Nat.le_refl _) _) _⟩

/-- What holds at every step of the script. -/
def ApInv (w0 : World) (p c len top : Nat) (i : Value) (wr : World) : Prop :=
  ∃ (k : Nat) (x : St), k ≤ len ∧ k ≤ top ∧ i = .int .i64 k ∧ x.s = k ∧ ArS wr p c 8 x ∧ Below w0.heap.size w0 wr

/-- What a round holds on to: the arena, the step that is played, what was there before. -/
structure Rd (w0 : World) (p c : Nat) (x : St) (d : Nat) (o : Op6) (W : World) : Prop where
  ar : ArS W p c 8 x
  op : W.rowIs d 34 6 o.cell
  be : Below w0.heap.size w0 W
  dp : d ≠ p
  dc : d ≠ c

theorem Rd.below {w0 : World} {p c : Nat} {x : St} {d : Nat} {o : Op6} {W W' : World} (h : Rd w0 p c x d o W) (b : Below W.heap.size W W') : Rd w0 p c x d o W' :=
  ⟨Ar.below h.ar b h.ar.obj.lt h.ar.row.lt, h.op.of_block (b.block d h.op.lt), h.be.trans (b.mono h.be.size), h.dp, h.dc⟩
theorem Rd.only {w0 : World} {p c : Nat} {x x' : St} {d : Nat} {o : Op6} {W W' : World} (h : Rd w0 p c x d o W) (b : Only p c W W') (h' : ArS W' p c 8 x') (h1 : w0.heap.size ≤ p) (h2 : w0.heap.size ≤ c) : Rd w0 p c x' d o W' :=
  ⟨h', h.op.of_block (b.block d h.op.lt h.dp h.dc), h.be.trans (b.below h.be.size h1 h2), h.dp, h.dc⟩
theorem Rd.start {w0 wr : World} {p c : Nat} {x : St} (h : ArS wr p c 8 x) (b : Below w0.heap.size w0 wr) (o : Op6) :
    Rd w0 p c x wr.heap.size o (wr.alloc (.cells #[.int .i64 o.kind, .int .i64 o.i, .int .u64 o.old, .int .u64 o.new, .bool o.far, .bool o.wide] 34)) :=
  ⟨Ar.alloc h _, World.rowIs_alloc wr _ 34 o.cell (by intro j hj; match j, hj with | 0, _ => rfl | 1, _ => rfl | 2, _ => rfl | 3, _ => rfl | 4, _ => rfl | 5, _ => rfl), b.alloc b.size _, by have := h.obj.lt; omega, by have := h.row.lt; omega⟩

/-- What a step does to words: at most the one that it names has changed, if it says so. -/
structure StepRel (x x' : St) (w v : Int) : Prop where
  i : x'.i = w
  s : x'.s = x.s + 1
  f : (x'.ch = false ∧ x'.f = x.f) ∨ (x'.ch = true ∧ ∃ m : Nat, w = m ∧ m < 8 ∧ x'.f = put x.f m v)

theorem stepRel_load (x : St) (w v : Int) : StepRel x (x.load 8 w) w v := by
  refine ⟨?_, St.load_s _ _ _, .inl ⟨?_, St.load_f _ _ _⟩⟩ <;> unfold St.load St.kept St.out <;> split <;> rfl
theorem stepRel_store (x : St) (w v : Int) : StepRel x (x.store 8 w v) w v := by
  refine ⟨?_, St.store_s _ _ _ _, ?_⟩
  · unfold St.store St.made St.out; split <;> rfl
  · unfold St.store
    split
    · rename_i h
      obtain ⟨m, rfl, hm⟩ := inB_true h
      exact .inr ⟨rfl, m, rfl, hm, rfl⟩
    · exact .inl ⟨rfl, rfl⟩
theorem stepRel_swap (x : St) (w o v : Int) : StepRel x (x.swap 8 w o v) w v := by
  refine ⟨?_, St.swap_s _ _ _ _ _, ?_⟩
  · unfold St.swap St.made St.kept St.out; split <;> (try split) <;> rfl
  · unfold St.swap
    split
    · rename_i h
      obtain ⟨m, rfl, hm⟩ := inB_true h
      split
      · exact .inr ⟨rfl, m, rfl, hm, rfl⟩
      · exact .inl ⟨rfl, rfl⟩
    · exact .inl ⟨rfl, rfl⟩

set_option maxRecDepth 100000 in
set_option maxHeartbeats 4000000 in
theorem lawApart_any (w : World) (A : Option Addr) (len cap : Nat) (t : Nat → Op6) (_hl : len ≤ cap) (_hc : cap ≤ 9223372036854775807) (ht : ORow w A len t) :
    Calls Try.prog 4 #[.slice A len cap] w fun e w' => e = .returned (.bool true) ∧ Below w.heap.size w w' := by
  have HT := Lib.hid ht
  clear ht
  go_enter Try.func4, Try.ntmps4
  go_wp2_with fail
  refine (awake_any _).mono ?_
  rintro e w1 ⟨rfl, hb1⟩
  have hz1 := hb1.size
  have HB1 := Lib.hid hb1
  clear hb1
  go_wp2_with fail
  refine (new_some 8 (by omega) (by omega) _).mono ?_
  rintro e w2 ⟨rfl, hA, hb⟩
  have hpc := hA.ne
  have hps : w.heap.size ≤ w1.heap.size + 1 := by omega
  have HS : Hid (ApInv w (w1.heap.size + 1) w1.heap.size len 30 (.int .i64 0) w2) := Lib.hid ⟨0, St.zero, by omega, by omega, rfl, rfl, hA, HB1.out.trans (hb.mono hz1)⟩
  clear hb hA HB1
  revert hpc hps HS
  generalize w1.heap.size + 1 = p
  generalize hcc : w1.heap.size = c at hz1 ⊢
  clear hcc
  intro hpc hps HS
  go_wp2_with fail
  go_loopw [5] (fun i wr => ApInv w p c len 30 i wr) (fun i _ => 30 - (intOf i).toNat)
  case atStart => exact HS.out
  case round =>
    clear HS
    obtain ⟨k, x, hk1, hk2, rfl, hxs, hA, hB⟩ := hrel
    have HX := Lib.hid hxs
    have HA := Lib.hid hA
    have HB := Lib.hid hB
    clear hxs hA hB
    by_cases hlt : k < len ∧ k < 30
    · obtain ⟨hlt1, hlt2⟩ := hlt
      obtain ⟨b, off, rfl, hbz, hcell⟩ := HT.out (by omega)
      have hcc : ∀ q, q < 6 → wr.cell? ⟨b, off + k * 6 + q, none⟩ = some ((t k).cell q) := fun q hq => (HB.out.cell (p := ⟨b, off + k * 6 + q, none⟩) hbz).trans (hcell k hlt1 q hq)
      have c0 := hcc 0 (by omega)
      have c1 := hcc 1 (by omega)
      have c2 := hcc 2 (by omega)
      have c3 := hcc 3 (by omega)
      have c4 := hcc 4 (by omega)
      have c5 := hcc 5 (by omega)
      simp only [Nat.add_zero, Op6.cell] at c0 c1 c2 c3 c4 c5
      clear hcc hcell
      go_wp2_with fail
      refine (word_any (t k) _).mono ?_
      rintro e W1 ⟨rfl, hb⟩
      have R1 := Lib.hid ((Rd.start HA.out HB.out (t k)).below hb)
      have hd : w.heap.size ≤ wr.heap.size := HB.out.size
      clear hb c0 c1 c2 c3 c4 c5 HA HB
      generalize wr.heap.size = d at *
      generalize hto : t k = o at *
      clear hto
      have d0 := R1.out.op.cell (i := 0) (by omega)
      have d1 := R1.out.op.cell (i := 1) (by omega)
      have d2 := R1.out.op.cell (i := 2) (by omega)
      have d3 := R1.out.op.cell (i := 3) (by omega)
      have d4 := R1.out.op.cell (i := 4) (by omega)
      have d5 := R1.out.op.cell (i := 5) (by omega)
      simp only [Op6.cell] at d0 d1 d2 d3 d4 d5
      generalize how : o.word = ow at *
      clear how
      go_wp2_with fail
      refine (vals_any o _).mono ?_
      rintro e W2 ⟨rfl, hb⟩
      have R2 := Lib.hid (R1.out.below hb)
      clear hb d0 d1 d2 d3 d4 d5 R1
      generalize hoo : o.o = oo at *
      generalize hov : o.v = ov at *
      clear hoo hov
      go_wp2_with fail
      refine (words_any W2 p c 8 x R2.out.ar (by omega) (by omega)).mono ?_
      rintro e W3 ⟨g1, cap1, F1, rfl, hg1, hcap1, hrow1, hF1, hb⟩
      have R3 := Lib.hid (R2.out.below hb)
      have hp2 := R2.out.ar.obj.lt
      have hc2 := R2.out.ar.row.lt
      have hd2 := R2.out.op.lt
      have HR1 := Lib.hid hrow1
      have HF1 := Lib.hid hF1
      clear hb hF1 hrow1 R2
      have d0 := R3.out.op.cell (i := 0) (by omega)
      simp only [Op6.cell] at d0
      obtain ⟨kd, hkd, HM0⟩ := and_mask o.kind 3 (by omega)
      have HM : bits .and .i64 o.kind 3 = (kd : Int) := HM0
      clear HM0
      have hks : kd = 0 ∨ kd = 1 ∨ (¬ kd = 0 ∧ ¬ kd = 1) := by omega
      rcases hks with rfl | rfl | ⟨hk0, hk11⟩
      · go_wp2_with fail
        refine (load_any W3 p c 8 x R3.out.ar (by have := HX.out; omega) (by have := HX.out; omega) ow).mono ?_
        rintro e W4 ⟨rfl, hA, hO⟩
        have R4 := Lib.hid (R3.out.only hO hA hps hz1)
        have HR14 := Lib.hid (HR1.out.of_block (hO.block g1 HR1.out.lt (by omega) (by omega)))
        have SR := Lib.hid (stepRel_load x ow ov)
        clear hA hO HR1 R3 d0 HM
        generalize x.load 8 ow = x' at *
        go_wp2_with fail
        refine (words_any W4 p c 8 x' R4.out.ar (by omega) (by omega)).mono ?_
        rintro e W5 ⟨g2, cap2, F2, rfl, hg2, hcap2, hrow2, hF2, hb⟩
        have R5 := Lib.hid (R4.out.below hb)
        have hg14 := HR14.out.lt
        have HR15 := Lib.hid (HR14.out.of_block (hb.block g1 HR14.out.lt))
        have HR25 := Lib.hid hrow2
        have HF2 := Lib.hid hF2
        clear hb hrow2 hF2 R4 HR14
        have hfl := fld_ch
        have hfi := fld_i
        go_wp2_with fail
        refine (last_any W5 p c 8 x' R5.out.ar).mono ?_
        rintro e W6 ⟨rfl, hb⟩
        have HIn : Hid (Rd w p c x' d o W6 ∧ W6.rowIs g1 26 cap1 F1 ∧ W6.rowIs g2 26 cap2 F2) := Lib.hid ⟨R5.out.below hb, HR15.out.of_block (hb.block g1 HR15.out.lt), HR25.out.of_block (hb.block g2 HR25.out.lt)⟩
        clear hb R5 HR15 HR25
        go_wp2_with fail
        go_loopw [13] (fun kk wq => ∃ j : Nat, j ≤ 8 ∧ kk = .int .i64 j ∧ (Rd w p c x' d o wq ∧ wq.rowIs g1 26 cap1 F1 ∧ wq.rowIs g2 26 cap2 F2)) (fun kk _ => 8 - (intOf kk).toNat)
        case atStart => exact ⟨0, by omega, rfl, HIn.out⟩
        case round =>
          clear HIn
          obtain ⟨j, hj, rfl, hin⟩ := hrel
          have HIn := Lib.hid hin
          clear hin
          by_cases hj8 : j < 8
          · have cn := HIn.out.2.2.cell (i := j) (by omega)
            rw [HF2.out j hj8] at cn
            have cw := HIn.out.2.1.cell (i := j) (by omega)
            rw [HF1.out j hj8] at cw
            have hj1 : (0 : Int) ≤ (j : Int) := by omega
            have hj2 : (j : Int) < 8 := by omega
            by_cases he : x'.f j = x.f j
            · have hne : (x'.f j != x.f j) = false := by simpa using he
              clear he
              go_wp2_with fail
              go_quiet (fail)
              go_wp2_with fail
              go_roundw
              case rel => exact ⟨j + 1, by omega, by go_num, HIn.out.1.below (below_drewN (Below.refl _ _) _), HIn.out.2.1.of_block rfl, HIn.out.2.2.of_block rfl⟩
              case measure => simp [intOf]; omega
            · have hne : (x'.f j != x.f j) = true := by simpa using he
              have hh : x'.ch = true ∧ ow = (j : Int) := by
                rcases SR.out.f with ⟨_, h2⟩ | ⟨h1, m, rfl, hm, h2⟩
                · exact absurd (by rw [h2]) he
                · refine ⟨h1, ?_⟩
                  by_cases e : j = m
                  · rw [e]
                  · exact absurd (by rw [h2]; simp [put, e]) he
              have hch := hh.1
              have how : ((j : Int) != ow) = false := by simpa using hh.2.symm
              clear hh he
              go_wp2_with fail
              go_quiet (fail)
              go_wp2_with fail
              go_roundw
              case rel => exact ⟨j + 1, by omega, by go_num, HIn.out.1.below (below_drewN (Below.refl _ _) _), HIn.out.2.1.of_block rfl, HIn.out.2.2.of_block rfl⟩
              case measure => simp [intOf]; omega
          · go_wp2_with fail
            refine (last_any _ p c 8 x' HIn.out.1.ar).mono ?_
            rintro e W7 ⟨rfl, hb⟩
            have HO := Lib.hid (And.intro (HIn.out.1.below hb) (HIn.out.2.2.of_block (hb.block g2 HIn.out.2.2.lt)))
            clear hb HIn
            have hi' : (x'.i != ow) = false := by simpa using SR.out.i
            rcases SR.out.f with ⟨hch, _⟩ | ⟨hch, m, hmw, hm, hf⟩
            · go_wp2_with fail
              go_roundw
              case rel => exact ⟨k + 1, x', by omega, by omega, by go_num, by rw [SR.out.s, HX.out]; omega, HO.out.1.ar, HO.out.1.be⟩
              case measure => simp [intOf]; omega
            · have cm := HO.out.2.cell (i := m) (by omega)
              rw [HF2.out m hm, hf, put_at] at cm
              clear hf
              subst hmw
              go_wp2_with fail
              go_roundw
              case rel => exact ⟨k + 1, x', by omega, by omega, by go_num, by rw [SR.out.s, HX.out]; omega, HO.out.1.ar, HO.out.1.be⟩
              case measure => simp [intOf]; omega
      · go_wp2_with fail
        refine (store_any W3 p c 8 x R3.out.ar (by have := HX.out; omega) (by have := HX.out; omega) ow ov).mono ?_
        rintro e W4 ⟨rfl, hA, hO⟩
        have R4 := Lib.hid (R3.out.only hO hA hps hz1)
        have HR14 := Lib.hid (HR1.out.of_block (hO.block g1 HR1.out.lt (by omega) (by omega)))
        have SR := Lib.hid (stepRel_store x ow ov)
        clear hA hO HR1 R3 d0 HM
        generalize x.store 8 ow ov = x' at *
        go_wp2_with fail
        refine (words_any W4 p c 8 x' R4.out.ar (by omega) (by omega)).mono ?_
        rintro e W5 ⟨g2, cap2, F2, rfl, hg2, hcap2, hrow2, hF2, hb⟩
        have R5 := Lib.hid (R4.out.below hb)
        have hg14 := HR14.out.lt
        have HR15 := Lib.hid (HR14.out.of_block (hb.block g1 HR14.out.lt))
        have HR25 := Lib.hid hrow2
        have HF2 := Lib.hid hF2
        clear hb hrow2 hF2 R4 HR14
        have hfl := fld_ch
        have hfi := fld_i
        go_wp2_with fail
        refine (last_any W5 p c 8 x' R5.out.ar).mono ?_
        rintro e W6 ⟨rfl, hb⟩
        have HIn : Hid (Rd w p c x' d o W6 ∧ W6.rowIs g1 26 cap1 F1 ∧ W6.rowIs g2 26 cap2 F2) := Lib.hid ⟨R5.out.below hb, HR15.out.of_block (hb.block g1 HR15.out.lt), HR25.out.of_block (hb.block g2 HR25.out.lt)⟩
        clear hb R5 HR15 HR25
        go_wp2_with fail
        go_loopw [13] (fun kk wq => ∃ j : Nat, j ≤ 8 ∧ kk = .int .i64 j ∧ (Rd w p c x' d o wq ∧ wq.rowIs g1 26 cap1 F1 ∧ wq.rowIs g2 26 cap2 F2)) (fun kk _ => 8 - (intOf kk).toNat)
        case atStart => exact ⟨0, by omega, rfl, HIn.out⟩
        case round =>
          clear HIn
          obtain ⟨j, hj, rfl, hin⟩ := hrel
          have HIn := Lib.hid hin
          clear hin
          by_cases hj8 : j < 8
          · have cn := HIn.out.2.2.cell (i := j) (by omega)
            rw [HF2.out j hj8] at cn
            have cw := HIn.out.2.1.cell (i := j) (by omega)
            rw [HF1.out j hj8] at cw
            have hj1 : (0 : Int) ≤ (j : Int) := by omega
            have hj2 : (j : Int) < 8 := by omega
            by_cases he : x'.f j = x.f j
            · have hne : (x'.f j != x.f j) = false := by simpa using he
              clear he
              go_wp2_with fail
              go_quiet (fail)
              go_wp2_with fail
              go_roundw
              case rel => exact ⟨j + 1, by omega, by go_num, HIn.out.1.below (below_drewN (Below.refl _ _) _), HIn.out.2.1.of_block rfl, HIn.out.2.2.of_block rfl⟩
              case measure => simp [intOf]; omega
            · have hne : (x'.f j != x.f j) = true := by simpa using he
              have hh : x'.ch = true ∧ ow = (j : Int) := by
                rcases SR.out.f with ⟨_, h2⟩ | ⟨h1, m, rfl, hm, h2⟩
                · exact absurd (by rw [h2]) he
                · refine ⟨h1, ?_⟩
                  by_cases e : j = m
                  · rw [e]
                  · exact absurd (by rw [h2]; simp [put, e]) he
              have hch := hh.1
              have how : ((j : Int) != ow) = false := by simpa using hh.2.symm
              clear hh he
              go_wp2_with fail
              go_quiet (fail)
              go_wp2_with fail
              go_roundw
              case rel => exact ⟨j + 1, by omega, by go_num, HIn.out.1.below (below_drewN (Below.refl _ _) _), HIn.out.2.1.of_block rfl, HIn.out.2.2.of_block rfl⟩
              case measure => simp [intOf]; omega
          · go_wp2_with fail
            refine (last_any _ p c 8 x' HIn.out.1.ar).mono ?_
            rintro e W7 ⟨rfl, hb⟩
            have HO := Lib.hid (And.intro (HIn.out.1.below hb) (HIn.out.2.2.of_block (hb.block g2 HIn.out.2.2.lt)))
            clear hb HIn
            have hi' : (x'.i != ow) = false := by simpa using SR.out.i
            rcases SR.out.f with ⟨hch, _⟩ | ⟨hch, m, hmw, hm, hf⟩
            · go_wp2_with fail
              go_roundw
              case rel => exact ⟨k + 1, x', by omega, by omega, by go_num, by rw [SR.out.s, HX.out]; omega, HO.out.1.ar, HO.out.1.be⟩
              case measure => simp [intOf]; omega
            · have cm := HO.out.2.cell (i := m) (by omega)
              rw [HF2.out m hm, hf, put_at] at cm
              clear hf
              subst hmw
              go_wp2_with fail
              go_roundw
              case rel => exact ⟨k + 1, x', by omega, by omega, by go_num, by rw [SR.out.s, HX.out]; omega, HO.out.1.ar, HO.out.1.be⟩
              case measure => simp [intOf]; omega
      · go_wp2_with fail
        refine (swap_any W3 p c 8 x R3.out.ar (by have := HX.out; omega) (by have := HX.out; omega) ow oo ov).mono ?_
        rintro e W4 ⟨rfl, hA, hO⟩
        have R4 := Lib.hid (R3.out.only hO hA hps hz1)
        have HR14 := Lib.hid (HR1.out.of_block (hO.block g1 HR1.out.lt (by omega) (by omega)))
        have SR := Lib.hid (stepRel_swap x ow oo ov)
        clear hA hO HR1 R3 d0 HM
        generalize x.swap 8 ow oo ov = x' at *
        go_wp2_with fail
        refine (words_any W4 p c 8 x' R4.out.ar (by omega) (by omega)).mono ?_
        rintro e W5 ⟨g2, cap2, F2, rfl, hg2, hcap2, hrow2, hF2, hb⟩
        have R5 := Lib.hid (R4.out.below hb)
        have hg14 := HR14.out.lt
        have HR15 := Lib.hid (HR14.out.of_block (hb.block g1 HR14.out.lt))
        have HR25 := Lib.hid hrow2
        have HF2 := Lib.hid hF2
        clear hb hrow2 hF2 R4 HR14
        have hfl := fld_ch
        have hfi := fld_i
        go_wp2_with fail
        refine (last_any W5 p c 8 x' R5.out.ar).mono ?_
        rintro e W6 ⟨rfl, hb⟩
        have HIn : Hid (Rd w p c x' d o W6 ∧ W6.rowIs g1 26 cap1 F1 ∧ W6.rowIs g2 26 cap2 F2) := Lib.hid ⟨R5.out.below hb, HR15.out.of_block (hb.block g1 HR15.out.lt), HR25.out.of_block (hb.block g2 HR25.out.lt)⟩
        clear hb R5 HR15 HR25
        go_wp2_with fail
        go_loopw [13] (fun kk wq => ∃ j : Nat, j ≤ 8 ∧ kk = .int .i64 j ∧ (Rd w p c x' d o wq ∧ wq.rowIs g1 26 cap1 F1 ∧ wq.rowIs g2 26 cap2 F2)) (fun kk _ => 8 - (intOf kk).toNat)
        case atStart => exact ⟨0, by omega, rfl, HIn.out⟩
        case round =>
          clear HIn
          obtain ⟨j, hj, rfl, hin⟩ := hrel
          have HIn := Lib.hid hin
          clear hin
          by_cases hj8 : j < 8
          · have cn := HIn.out.2.2.cell (i := j) (by omega)
            rw [HF2.out j hj8] at cn
            have cw := HIn.out.2.1.cell (i := j) (by omega)
            rw [HF1.out j hj8] at cw
            have hj1 : (0 : Int) ≤ (j : Int) := by omega
            have hj2 : (j : Int) < 8 := by omega
            by_cases he : x'.f j = x.f j
            · have hne : (x'.f j != x.f j) = false := by simpa using he
              clear he
              go_wp2_with fail
              go_quiet (fail)
              go_wp2_with fail
              go_roundw
              case rel => exact ⟨j + 1, by omega, by go_num, HIn.out.1.below (below_drewN (Below.refl _ _) _), HIn.out.2.1.of_block rfl, HIn.out.2.2.of_block rfl⟩
              case measure => simp [intOf]; omega
            · have hne : (x'.f j != x.f j) = true := by simpa using he
              have hh : x'.ch = true ∧ ow = (j : Int) := by
                rcases SR.out.f with ⟨_, h2⟩ | ⟨h1, m, rfl, hm, h2⟩
                · exact absurd (by rw [h2]) he
                · refine ⟨h1, ?_⟩
                  by_cases e : j = m
                  · rw [e]
                  · exact absurd (by rw [h2]; simp [put, e]) he
              have hch := hh.1
              have how : ((j : Int) != ow) = false := by simpa using hh.2.symm
              clear hh he
              go_wp2_with fail
              go_quiet (fail)
              go_wp2_with fail
              go_roundw
              case rel => exact ⟨j + 1, by omega, by go_num, HIn.out.1.below (below_drewN (Below.refl _ _) _), HIn.out.2.1.of_block rfl, HIn.out.2.2.of_block rfl⟩
              case measure => simp [intOf]; omega
          · go_wp2_with fail
            refine (last_any _ p c 8 x' HIn.out.1.ar).mono ?_
            rintro e W7 ⟨rfl, hb⟩
            have HO := Lib.hid (And.intro (HIn.out.1.below hb) (HIn.out.2.2.of_block (hb.block g2 HIn.out.2.2.lt)))
            clear hb HIn
            have hi' : (x'.i != ow) = false := by simpa using SR.out.i
            rcases SR.out.f with ⟨hch, _⟩ | ⟨hch, m, hmw, hm, hf⟩
            · go_wp2_with fail
              go_roundw
              case rel => exact ⟨k + 1, x', by omega, by omega, by go_num, by rw [SR.out.s, HX.out]; omega, HO.out.1.ar, HO.out.1.be⟩
              case measure => simp [intOf]; omega
            · have cm := HO.out.2.cell (i := m) (by omega)
              rw [HF2.out m hm, hf, put_at] at cm
              clear hf
              subst hmw
              go_wp2_with fail
              go_roundw
              case rel => exact ⟨k + 1, x', by omega, by omega, by go_num, by rw [SR.out.s, HX.out]; omega, HO.out.1.ar, HO.out.1.be⟩
              case measure => simp [intOf]; omega
    · have hd : decide (k < len) = false ∨ (decide (k < len) = true ∧ decide ((k : Int) < 30) = false) := by
        by_cases h : k < len
        · exact .inr ⟨by simpa using h, by simp; omega⟩
        · exact .inl (by simpa using h)
      clear hlt
      rcases hd with hd | ⟨hd, hd2⟩
      all_goals
        go_wp2
        go_ret
        exact ⟨rfl, HB.out⟩
end Go.Proofs.Ytkndgdokpbbdpaa
