/- ArenaSwaps: the walk. -/
import Derived.Test.YtkndgdokpbbdpaaWords
namespace Go.Proofs.Ytkndgdokpbbdpaa
open Go.RowKit

/-- A row of numbers that is read. -/
def IRow (w : World) (A : Option Addr) (len : Nat) (g : Nat → Int) : Prop := 0 < len → ∃ b off, A = some ⟨b, off, none⟩ ∧ b < w.heap.size ∧ ∀ j, j < len → w.cell? ⟨b, off + j, none⟩ = some (.int .i64 (g j))

/-- A number by a mask. -/
theorem and_mask (q : Int) (M : Nat) (hM : M < 4611686018427387904) : ∃ m : Nat, m ≤ M ∧ bits .and .i64 q (M : Int) = (m : Int) := by
  have e : (BitVec.ofInt 64 (M : Int)).toNat = M := by
    rw [BitVec.ofInt_natCast, BitVec.toNat_ofNat]; exact Nat.mod_eq_of_lt (by omega)
  refine ⟨(BitVec.ofInt 64 q &&& BitVec.ofInt 64 (M : Int)).toNat, ?_, ?_⟩
  · rw [BitVec.toNat_and, e]; exact Nat.and_le_right
  · have h : (BitVec.ofInt 64 q &&& BitVec.ofInt 64 (M : Int)).toNat ≤ M := by rw [BitVec.toNat_and, e]; exact Nat.and_le_right
    show IntKind.i64.wrap ((BitVec.ofInt 64 q &&& BitVec.ofInt 64 (M : Int)).toNat : Int) = _
    generalize (BitVec.ofInt 64 q &&& BitVec.ofInt 64 (M : Int)).toNat = m at h ⊢
    simp [IntKind.wrap, IntKind.bits, IntKind.signed]
    omega

/-- What holds at every turn: the word is as many as won; the others are 0. -/
def SwInv (w0 : World) (p c b1 b2 len : Nat) (won i : Value) (wr : World) : Prop :=
  ∃ (k : Nat) (x : St) (g : Nat → Int) (l : Nat → Bool), k ≤ len ∧ k ≤ 80 ∧ i = .int .i64 k ∧ won = .int .u64 (x.f 1) ∧ x.f 0 = 0 ∧ x.f 2 = 0 ∧ x.s = k ∧ ArS wr p c 3 x ∧ wr.rowIs b1 27 4 (fun j => .int .u64 (g j)) ∧ wr.rowIs b2 28 4 (fun j => .bool (l j)) ∧ Below w0.heap.size w0 wr

theorem row_put {W : World} {b t n : Nat} {g : Nat → Int} (h : W.rowIs b t n (fun j => .int .u64 (g j))) (m : Nat) (y : Int) : (W.setCell ⟨b, m, none⟩ (.int .u64 y)).rowIs b t n (fun j => .int .u64 (put g m y j)) :=
  (h.set m _).congr (by intro j _; unfold put; by_cases e : j = m <;> simp [e])
def putB (l : Nat → Bool) (m : Nat) (y : Bool) : Nat → Bool := fun j => if j = m then y else l j
theorem row_putB {W : World} {b t n : Nat} {l : Nat → Bool} (h : W.rowIs b t n (fun j => .bool (l j))) (m : Nat) (y : Bool) : (W.setCell ⟨b, m, none⟩ (.bool y)).rowIs b t n (fun j => .bool (putB l m y j)) :=
  (h.set m _).congr (by intro j _; unfold putB; by_cases e : j = m <;> simp [e])
theorem St.load_f (x : St) (n : Nat) (i : Int) : (x.load n i).f = x.f := by unfold St.load St.kept St.out; split <;> rfl
theorem St.miss_f (x : St) (n : Nat) (i o y : Int) (h : x.swapped n i o = false) : (x.swap n i o y).f = x.f := by
  unfold St.swapped at h
  unfold St.swap St.kept St.out St.made
  by_cases h1 : inB n i = true
  · have h2 : ¬ x.f i.toNat = o := by simpa [h1] using h
    simp [h1, h2]
  · simp [h1]
theorem St.hit_f (x : St) (n : Nat) (i o y : Int) (h : x.swapped n i o = true) : (x.swap n i o y).f = put x.f i.toNat y := by
  unfold St.swapped at h
  simp only [Bool.and_eq_true, decide_eq_true_eq] at h
  simp [St.swap, St.made, h.1, h.2]

set_option maxRecDepth 100000 in
set_option maxHeartbeats 2000000 in
theorem lawSwaps_any (w : World) (A : Option Addr) (len cap : Nat) (t : Nat → Int) (_hl : len ≤ cap) (_hc : cap ≤ 9223372036854775807) (ht : IRow w A len t) :
    Calls Try.prog 3 #[.slice A len cap] w fun e w' => e = .returned (.bool true) ∧ Below w.heap.size w w' := by
  have HT := Lib.hid ht
  clear ht
  go_enter Try.func3, Try.ntmps3
  go_wp2_with fail
  refine (awake_any _).mono ?_
  rintro e w1 ⟨rfl, hb1⟩
  have hz1 := hb1.size
  have HB1 := Lib.hid hb1
  clear hb1
  go_wp2_with fail
  refine (new_some 3 (by omega) (by omega) _).mono ?_
  rintro e w2 ⟨rfl, hA, hb⟩
  have hp := hA.obj.lt
  have hc' := hA.row.lt
  have hpc := hA.ne
  have hps : w.heap.size ≤ w1.heap.size + 1 := by omega
  have HA := Lib.hid hA
  have HB2 := Lib.hid (HB1.out.trans (hb.mono hz1))
  clear hb hA HB1
  revert hp hc' hpc hps HA
  generalize w1.heap.size + 1 = p
  generalize hcc : w1.heap.size = c at hz1 ⊢
  clear hcc
  intro hp hc' hpc hps HA
  go_wp2_with fail
  have hb12 : w2.heap.size < w2.heap.size + 1 := by omega
  have hw2 : w.heap.size ≤ w2.heap.size := HB2.out.size
  have HS : Hid (SwInv w p c w2.heap.size (w2.heap.size + 1) len (.int .u64 0) (.int .i64 0) ((w2.alloc (.cells #[.int .u64 0, .int .u64 0, .int .u64 0, .int .u64 0] 27)).alloc (.cells #[.bool false, .bool false, .bool false, .bool false] 28))) := by
    refine Lib.hid ⟨0, St.zero, fun _ => 0, fun _ => false, by omega, by omega, rfl, rfl, rfl, rfl, rfl, (HA.out.alloc _).alloc _, ?_, ?_, (HB2.out.alloc hw2 _).alloc (by simp; omega) _⟩
    · exact (World.rowIs_alloc w2 #[.int .u64 0, .int .u64 0, .int .u64 0, .int .u64 0] 27 _ (by intro j hj; match j, hj with | 0, _ => rfl | 1, _ => rfl | 2, _ => rfl | 3, _ => rfl)).alloc _
    · have h := World.rowIs_alloc (w2.alloc (.cells #[.int .u64 0, .int .u64 0, .int .u64 0, .int .u64 0] 27)) #[.bool false, .bool false, .bool false, .bool false] 28 (fun _ => .bool false) (by intro j hj; match j, hj with | 0, _ => rfl | 1, _ => rfl | 2, _ => rfl | 3, _ => rfl)
      simp only [World.size_alloc] at h
      exact h
  clear HA HB2
  generalize w2.heap.size + 1 = b2 at *
  generalize w2.heap.size = b1 at *
  go_loopw [7, 8] (fun won i wr => SwInv w p c b1 b2 len won i wr) (fun _ i _ => 80 - (intOf i).toNat)
  case atStart => exact HS.out
  case round =>
    clear HS
    obtain ⟨k, x, g, l, hk1, hk2, rfl, rfl, hx0, hx2, hxs, hA, hR1, hR2, hB⟩ := hrel
    have HX := Lib.hid (And.intro hx0 (And.intro hx2 hxs))
    have HA := Lib.hid hA
    have HR1 := Lib.hid hR1
    have HR2 := Lib.hid hR2
    have HB := Lib.hid hB
    clear hx0 hx2 hxs hA hR1 hR2 hB
    by_cases hlt : k < len ∧ k < 80
    · obtain ⟨hlt1, hlt2⟩ := hlt
      obtain ⟨b, off, rfl, hbz, hcell⟩ := HT.out (by omega)
      have ct := hcell k hlt1
      rw [← HB.out.cell (p := ⟨b, off + k, none⟩) hbz] at ct
      obtain ⟨m, hm, HM0⟩ := and_mask (t k) 3 (by omega)
      have HM : bits .and .i64 (t k) 3 = (m : Int) := HM0
      clear HM0
      have cl := HR2.out.cell (i := m) (by omega)
      clear hcell
      have fr1 := HR1.out.frozen
      have fr2 := HR2.out.frozen
      have cg := HR1.out.cell (i := m) (by omega)
      by_cases hlm : l m = true
      · rw [hlm] at cl
        clear hlm
        go_wp2_with fail
        have HA1 := Lib.hid (Ar.setOther (a := ⟨b2, m, none⟩) HA.out (by show p ≠ b2; omega) (by show c ≠ b2; omega) (.bool false))
        have HR11 := Lib.hid (HR1.out.setOther (a := ⟨b2, m, none⟩) (by show b1 ≠ b2; omega) (.bool false))
        have HR21 := Lib.hid (row_putB HR2.out m false)
        have HB1 := Lib.hid (HB.out.setCell (p := ⟨b2, m, none⟩) (by show w.heap.size ≤ b2; omega) (.bool false))
        clear HA HR1 HR2 HB cl cg fr1 fr2 ct
        revert HA1 HR11 HR21 HB1
        generalize wr.setCell ⟨b2, m, none⟩ (.bool false) = W
        intro HA HR1 HR2 HB
        refine wp_region_still_tail 8 (by kernel_rfl) (by kernel_rfl) ?_
        change wpStill _ _ W.drew (fun a' => wpList _ _ _ _ a' W.drew) _ _
        have HA1 := Lib.hid (Ar.drew HA.out)
        have HR11 := Lib.hid HR1.out.drew
        have HR21 := Lib.hid HR2.out.drew
        have HB1 := Lib.hid HB.out.drew
        clear HA HR1 HR2 HB
        revert HA1 HR11 HR21 HB1
        generalize W.drew = W3
        intro HA HR1 HR2 HB
        have cg := HR1.out.cell (i := m) (by omega)
        simp only [List.take_succ_cons, List.take_zero, List.drop_succ_cons, List.drop_zero]
        have hm4 : m < 4 := by omega
        have hm4' : (m : Int) < 4 := by omega
        have hm0 : (0 : Int) ≤ (m : Int) := by omega
        repeat still_step
        refine wpStill_nil ?_
        clear cg hm4 hm4' hm0
        have key := swap_any W3 p c 3 x HA.out (by have := HX.out; omega) (by have := HX.out; omega) 1 (g m) (IntKind.u64.wrap (g m + 1))
        by_cases hs : x.swapped 3 1 (g m) = true
        · rw [hs] at key
          have hf := x.hit_f 3 1 (g m) (IntKind.u64.wrap (g m + 1)) hs
          have hg : x.f 1 = g m := by simpa [St.swapped, inB] using hs
          have HF := Lib.hid hf
          have HG := Lib.hid hg
          clear hf hg hs
          go_wp2_with fail
          refine key.mono ?_
          rintro e W4 ⟨rfl, hA1, hO⟩
          clear key
          have HA1 := Lib.hid hA1
          have HR11 := Lib.hid (HR1.out.of_block (hO.block b1 HR1.out.lt (by omega) (by omega)))
          have HR21 := Lib.hid (HR2.out.of_block (hO.block b2 HR2.out.lt (by omega) (by omega)))
          have HB1 := Lib.hid (HB.out.trans (hO.below HB.out.size hps hz1))
          clear hA1 hO HA HR1 HR2 HB
          go_wp2_with fail
          go_roundw
          case rel =>
            refine ⟨k + 1, x.swap 3 1 (g m) (IntKind.u64.wrap (g m + 1)), g, putB l m false, by omega, by omega, by go_num, ?_, ?_, ?_, ?_, HA1.out, HR11.out, HR21.out, HB1.out⟩
            · rw [HF.out, HG.out]; simp [put]
            · rw [HF.out]; simpa [put] using HX.out.1
            · rw [HF.out]; simpa [put] using HX.out.2.1
            · rw [St.swap_s]; have := HX.out; omega
          case measure => simp [intOf]; omega
        · rw [Bool.not_eq_true] at hs
          rw [hs] at key
          have HF := Lib.hid (x.miss_f 3 1 (g m) (IntKind.u64.wrap (g m + 1)) hs)
          clear hs
          go_wp2_with fail
          refine key.mono ?_
          rintro e W4 ⟨rfl, hA1, hO⟩
          clear key
          have HA1 := Lib.hid hA1
          have HR11 := Lib.hid (HR1.out.of_block (hO.block b1 HR1.out.lt (by omega) (by omega)))
          have HR21 := Lib.hid (HR2.out.of_block (hO.block b2 HR2.out.lt (by omega) (by omega)))
          have HB1 := Lib.hid (HB.out.trans (hO.below HB.out.size hps hz1))
          clear hA1 hO HA HR1 HR2 HB
          go_wp2_with fail
          go_roundw
          case rel =>
            refine ⟨k + 1, x.swap 3 1 (g m) (IntKind.u64.wrap (g m + 1)), g, putB l m false, by omega, by omega, by go_num, ?_, ?_, ?_, ?_, HA1.out, HR11.out, HR21.out, HB1.out⟩
            · rw [HF.out]
            · rw [HF.out]; exact HX.out.1
            · rw [HF.out]; exact HX.out.2.1
            · rw [St.swap_s]; have := HX.out; omega
          case measure => simp [intOf]; omega
      · rw [Bool.not_eq_true] at hlm
        rw [hlm] at cl
        clear hlm
        go_wp2_with fail
        refine (load_any wr p c 3 x HA.out (by have := HX.out; omega) (by have := HX.out; omega) 1).mono ?_
        rintro e W3 ⟨rfl, hA1, hO⟩
        have HA1 := Lib.hid hA1
        have HR11 := Lib.hid (HR1.out.of_block (hO.block b1 HR1.out.lt (by omega) (by omega)))
        have HR21 := Lib.hid (HR2.out.of_block (hO.block b2 HR2.out.lt (by omega) (by omega)))
        have HB1 := Lib.hid (HB.out.trans (hO.below HB.out.size hps hz1))
        clear hA1 hO HA HR1 HR2 HB cl cg fr1 fr2
        have cl := HR21.out.cell (i := m) (by omega)
        have cg := HR11.out.cell (i := m) (by omega)
        have fr1 := HR11.out.frozen
        have fr2 := HR21.out.frozen
        have hb21 : b2 ≠ b1 := by omega
        have hb12' : b1 ≠ b2 := by omega
        go_wp2_with fail
        go_roundw
        case rel =>
          refine ⟨k + 1, x.load 3 1, put g m (x.loaded 3 1), putB l m true, by omega, by omega, by go_num, by rw [St.load_f], ?_, ?_, ?_, ?_, ?_, ?_, ?_⟩
          · rw [St.load_f]; exact HX.out.1
          · rw [St.load_f]; exact HX.out.2.1
          · rw [St.load_s]; have := HX.out; omega
          · exact Ar.setOther (a := ⟨b2, m, none⟩) (Ar.setOther (a := ⟨b1, m, none⟩) HA1.out (by show p ≠ b1; omega) (by show c ≠ b1; omega) _) (by show p ≠ b2; omega) (by show c ≠ b2; omega) _
          · exact (row_put HR11.out m _).setOther (a := ⟨b2, m, none⟩) hb12' _
          · exact row_putB (HR21.out.setOther (a := ⟨b1, m, none⟩) hb21 _) m true
          · exact (HB1.out.setCell (p := ⟨b1, m, none⟩) (by show w.heap.size ≤ b1; omega) _).setCell (p := ⟨b2, m, none⟩) (by show w.heap.size ≤ b2; omega) _
        case measure => simp [intOf]; omega
    · have k1 := load_any wr p c 3 x HA.out (by have := HX.out; omega) (by have := HX.out; omega) 1
      rw [show x.loaded 3 1 = x.f 1 by simp [St.loaded, inB]] at k1
      have hd : decide (k < len) = false ∨ (decide (k < len) = true ∧ decide ((k : Int) < 80) = false) := by
        by_cases h : k < len
        · exact .inr ⟨by simpa using h, by simp; omega⟩
        · exact .inl (by simpa using h)
      clear hlt
      rcases hd with hd | ⟨hd, hd2⟩
      all_goals
        go_wp2_with fail
        refine k1.mono ?_
        rintro e W3 ⟨rfl, hA1, hO⟩
        clear k1
        have HB1 := Lib.hid (HB.out.trans (hO.below HB.out.size hps hz1))
        have k2 := load_any W3 p c 3 _ hA1 (by rw [St.load_s]; have := HX.out; omega) (by rw [St.load_s]; have := HX.out; omega) 0
        rw [show (x.load 3 1).loaded 3 0 = 0 by simp [St.loaded, inB, St.load_f, HX.out.1]] at k2
        clear hA1 hO HA HR1 HR2 HB
        go_wp2_with fail
        refine k2.mono ?_
        rintro e W4 ⟨rfl, hA2, hO⟩
        clear k2
        have HB2 := Lib.hid (HB1.out.trans (hO.below HB1.out.size hps hz1))
        have k3 := load_any W4 p c 3 _ hA2 (by rw [St.load_s, St.load_s]; have := HX.out; omega) (by rw [St.load_s, St.load_s]; have := HX.out; omega) 2
        rw [show ((x.load 3 1).load 3 0).loaded 3 2 = 0 by simp [St.loaded, inB, St.load_f, HX.out.2.1]] at k3
        clear hA2 hO HB1
        go_wp2_with fail
        refine k3.mono ?_
        rintro e W5 ⟨rfl, hA3, hO⟩
        clear k3
        have HB3 := Lib.hid (HB2.out.trans (hO.below HB2.out.size hps hz1))
        clear hA3 hO HB2
        go_wp2
        go_ret
        exact ⟨rfl, HB3.out⟩
end Go.Proofs.Ytkndgdokpbbdpaa
