/- firstWords. -/
import Derived.Test.YtkpffnihnhlghaaDoorPMkM
import Derived.Test.YtkpffnihnhlghaaDoorPBlock
import Derived.Test.YtkpffnihnhlghaaDoorPArr
namespace Go.Proofs.YtkpffnihnhlghaaDoor
open Go.RowKit
theorem hd_0 (w : World) : Calls Tryd.prog 81 #[.int .i64 0] w fun e w' => e = .returned (.int .i64 3) ∧ w = w' := head_any 0 w
theorem hd_1 (w : World) : Calls Tryd.prog 81 #[.int .i64 1] w fun e w' => e = .returned (.int .i64 4) ∧ w = w' := head_any 1 w

/-- Words that are put at block q; what lies below q is as it was in V. -/
structure FS (w0 V : World) (q N : Nat) (F : Nat → Int) (W : World) : Prop where
  base : ∀ k, k < q → W.heap[k]? = V.heap[k]?
  row : W.rowIs q 29 N (fun j => .int .u64 (F j))
  be : Below w0.heap.size w0 W
  hq : w0.heap.size ≤ q
theorem FS.cell {w0 V : World} {q N : Nat} {F : Nat → Int} {W : World} (h : FS w0 V q N F W) {k o : Nat} (hk : k < q) : W.cell? ⟨k, o, none⟩ = V.cell? ⟨k, o, none⟩ := World.cell?_of_block (w := V) (h.base k hk)
theorem FS.below {w0 V : World} {q N : Nat} {F : Nat → Int} {W W' : World} (h : FS w0 V q N F W) (hb : Below W.heap.size W W') : FS w0 V q N F W' :=
  ⟨fun k hk => (hb.block k (Nat.lt_trans hk h.row.lt)).trans (h.base k hk), h.row.of_block (hb.block _ h.row.lt), h.be.trans (hb.mono h.be.size), h.hq⟩
theorem FS.alloc {w0 V : World} {q N : Nat} {F : Nat → Int} {W : World} (h : FS w0 V q N F W) (o : Obj) : FS w0 V q N F (W.alloc o) := h.below ((Below.refl _ _).alloc (Nat.le_refl _) o)
theorem FS.put {w0 V : World} {q N : Nat} {F F' : Nat → Int} {W : World} (h : FS w0 V q N F W) (m : Nat) (y : Int) (hF : ∀ j, j < N → F' j = Go.Proofs.YtkpffnihnhlghaaDoor.put F m y j) : FS w0 V q N F' (W.setCell ⟨q, m, none⟩ (.int .u64 y)) :=
  ⟨fun k hk => (Below.heap_setCell W _ _ k (by simp; omega)).trans (h.base k hk), (h.row.set m _).congr (by intro j hj; rw [hF j hj]; unfold Go.Proofs.YtkpffnihnhlghaaDoor.put; by_cases e : j = m <;> simp [e]), h.be.setCell (p := ⟨q, m, none⟩) h.hq _, h.hq⟩
theorem FS.congr {w0 V : World} {q N : Nat} {F F' : Nat → Int} {W : World} (h : FS w0 V q N F W) (hF : ∀ j, j < N → F' j = F j) : FS w0 V q N F' W := ⟨h.base, h.row.congr (by intro j hj; rw [hF j hj]), h.be, h.hq⟩
/-- What lies in V: the config at s, the layout at V0, the variables of its functions. -/
structure VF (V : World) (s V0 : Nat) (x : Cfg) (f3 f4 : Value) (a3 b3 d3 a4 b4 d4 : Nat) : Prop where
  cfg : CfgAt V s x
  l3 : V.cell? ⟨V0, 3, none⟩ = some f3
  l4 : V.cell? ⟨V0, 4, none⟩ = some f4
  r3 : V.cell? ⟨a3, 0, none⟩ = some (.int .i64 x.n0) ∧ V.cell? ⟨b3, 0, none⟩ = some (.int .i64 (bB x)) ∧ V.cell? ⟨d3, 0, none⟩ = some (.int .i64 (1 + x.s0))
  r4 : V.cell? ⟨a4, 0, none⟩ = some (.int .i64 x.n1) ∧ V.cell? ⟨b4, 0, none⟩ = some (.int .i64 (bB1 x)) ∧ V.cell? ⟨d4, 0, none⟩ = some (.int .i64 (1 + x.s1))
  hs : s < V0
theorem FS.cfg {w0 V : World} {q N : Nat} {F : Nat → Int} {W : World} {s V0 : Nat} {x : Cfg} {f3 f4 : Value} {a3 b3 d3 a4 b4 d4 : Nat} (h : FS w0 V q N F W) (v : VF V s V0 x f3 f4 a3 b3 d3 a4 b4 d4) (hq : V0 < q) : CfgAt W s x := v.cfg.of_block (h.base s (Nat.lt_trans v.hs hq))

/-- An arena's first words have been made; nothing else. -/
def Firsts (x : Cfg) (N : Nat) (w : World) (e : Ending) (w' : World) : Prop := ∃ g, e = .returned (.slice (some ⟨g, 0, none⟩) N N) ∧ w.heap.size ≤ g ∧ w'.rowIs g 29 N (fun j => .int .u64 (wordsC x j)) ∧ Below w.heap.size w w'
theorem made_set (w : World) (N : Nat) (v : Int) (t : TypeId) : (w.alloc (.cells ((madeCells #[.int .u64 0] N).setIfInBounds 0 (.int .u64 v)) t)).rowIs w.heap.size t N (fun j => .int .u64 (Go.Proofs.YtkpffnihnhlghaaDoor.put (fun _ => 0) 0 v j)) := by
  have h := World.rowIs_alloc w ((madeCells #[.int .u64 0] N).setIfInBounds 0 (.int .u64 v)) t (fun j => .int .u64 (Go.Proofs.YtkpffnihnhlghaaDoor.put (fun _ => 0) 0 v j)) (by
    intro i hi
    rw [Array.size_setIfInBounds, size_madeCells] at hi
    rw [Array.getElem?_setIfInBounds]
    unfold Go.Proofs.YtkpffnihnhlghaaDoor.put
    by_cases e : i = 0
    · subst e; simp [size_madeCells, hi]
    · rw [if_neg (fun g => e g.symm), if_neg e]
      simp [madeCells, hi, Nat.mod_one])
  rw [Array.size_setIfInBounds, size_madeCells] at h
  exact h
def fk (x : Cfg) : Nat → Nat → Int
  | 0 => fw x false false (fun _ => false)
  | 1 => fw x (decide (0 < x.n0)) false (P1 x 0)
  | _ => wordsC x
theorem info_u64f : (Tryd.prog.info? 29).map (fun i => (i.zero, i.size, i.bytes)) = some (some (.int .u64 0), 1, 8) := by kernel_rfl

set_option maxRecDepth 100000 in
set_option maxHeartbeats 8000000 in
theorem firstWords_any (x : Cfg) (N : Nat) (w : World) (hL : Lim w) (hr : Right x) (hN : sizeC x = (N : Int)) : Calls Tryd.prog 65 #[(.agg #[.int .i64 x.t, .int .i64 x.s, .int .i64 x.l, .int .i64 x.c, .int .i64 x.s0, .int .i64 x.n0, .int .i64 x.s1, .int .i64 x.n1, .int .i64 x.r])] w (Firsts x N w) := by
  have HL := Lib.hid hL
  have HR := Lib.hid hr
  have HN := Lib.hid hN
  have hcb := hr.b
  obtain ⟨s1, s2, s3, s4, s5, s6, s7, s8, s9, s10⟩ := hr.sizes
  have N1 : 7 ≤ N := by omega
  have N2 : N ≤ 2869 := by omega
  clear hL hr hN
  go_enter Tryd.func65, Tryd.ntmps65
  go_wp2_with fail
  refine (lay_any x _ (HL.out.below ((Below.refl _ _).alloc (Nat.le_refl _) _)) HR.out).mono ?_
  rintro e w1 ⟨v0, v1, v2, v3, v4, rfl, hf0, hf1, hf2, hf3, hf4, hb⟩
  have hB1 := Below.step (B := w.heap.size) (a := w) (by (repeat (first | with_reducible exact Below.refl _ _ | with_reducible refine Below.drew ?_ | (with_reducible refine Below.setCell ?_ ?side _; case side => exact (by first | (simp; done) | (simp; omega) | omega)) | (with_reducible refine Below.alloc ?_ ?side _; case side => exact (by first | (simp; done) | (simp; omega) | omega))))) hb (by first | (simp; done) | (simp; omega) | omega)
  have hC1 := (cfgAt_box w x).below hb
  have hz1 : w.heap.size < w1.heap.size := hC1.lt
  clear hb
  obtain ⟨a0, b0, d0, rfl, -⟩ := hf0
  obtain ⟨a1, b1, d1, rfl, -⟩ := hf1
  obtain ⟨a2, b2, d2, rfl, -⟩ := hf2
  obtain ⟨a3, b3, d3, rfl, -, -, -, -⟩ := id hf3
  obtain ⟨a4, b4, d4, rfl, -, -, -, -⟩ := id hf4
  have r3 := hf3.cells
  have r4 := hf4.cells
  clear hf3 hf4
  have la3 := World.block_lt_of_cell? w1 _ r3.1
  have lb3 := World.block_lt_of_cell? w1 _ r3.2.1
  have ld3 := World.block_lt_of_cell? w1 _ r3.2.2
  have la4 := World.block_lt_of_cell? w1 _ r4.1
  have lb4 := World.block_lt_of_cell? w1 _ r4.2.1
  have ld4 := World.block_lt_of_cell? w1 _ r4.2.2
  rw [HN.out]
  have HB1 := Lib.hid hB1
  have HC1 := Lib.hid hC1
  have R3 := Lib.hid r3
  have R4 := Lib.hid r4
  clear hB1 hC1 r3 r4
  obtain ⟨c0, c1, c2, c3, c4, c5, c6, c7, c8⟩ := HC1.out.cells
  have hmk := run_make_row' (P := Tryd.prog) 25 29 (.int .u64 0) 8 Tryd.underlying25 info_u64f rfl .i64 .i64 N (by omega) (by omega)
  have n0 : (0 : Int) < (N : Int) := by omega
  have n1 : (1 : Int) < (N : Int) := by omega
  have row0 := World.rowIs_made (w1.alloc (.cells #[(.func (.func 141) #[] #[.pointer (some ⟨a0, 0, none⟩), .pointer (some ⟨b0, 0, none⟩), .pointer (some ⟨d0, 0, none⟩)]), (.func (.func 141) #[] #[.pointer (some ⟨a1, 0, none⟩), .pointer (some ⟨b1, 0, none⟩), .pointer (some ⟨d1, 0, none⟩)]), (.func (.func 141) #[] #[.pointer (some ⟨a2, 0, none⟩), .pointer (some ⟨b2, 0, none⟩), .pointer (some ⟨d2, 0, none⟩)]), (.func (.func 141) #[] #[.pointer (some ⟨a3, 0, none⟩), .pointer (some ⟨b3, 0, none⟩), .pointer (some ⟨d3, 0, none⟩)]), (.func (.func 141) #[] #[.pointer (some ⟨a4, 0, none⟩), .pointer (some ⟨b4, 0, none⟩), .pointer (some ⟨d4, 0, none⟩)]), .int .i64 (N : Int)] 198)) (.int .u64 0) N 29
  simp only [World.size_alloc] at row0
  have q0 := row0.cell (i := 0) (by omega)
  have qf := row0.frozen
  go_wp2_with fail
  have HV : Hid (VF (w1.alloc (.cells #[(.func (.func 141) #[] #[.pointer (some ⟨a0, 0, none⟩), .pointer (some ⟨b0, 0, none⟩), .pointer (some ⟨d0, 0, none⟩)]), (.func (.func 141) #[] #[.pointer (some ⟨a1, 0, none⟩), .pointer (some ⟨b1, 0, none⟩), .pointer (some ⟨d1, 0, none⟩)]), (.func (.func 141) #[] #[.pointer (some ⟨a2, 0, none⟩), .pointer (some ⟨b2, 0, none⟩), .pointer (some ⟨d2, 0, none⟩)]), (.func (.func 141) #[] #[.pointer (some ⟨a3, 0, none⟩), .pointer (some ⟨b3, 0, none⟩), .pointer (some ⟨d3, 0, none⟩)]), (.func (.func 141) #[] #[.pointer (some ⟨a4, 0, none⟩), .pointer (some ⟨b4, 0, none⟩), .pointer (some ⟨d4, 0, none⟩)]), .int .i64 (N : Int)] 198)) w.heap.size w1.heap.size x (.func (.func 141) #[] #[.pointer (some ⟨a3, 0, none⟩), .pointer (some ⟨b3, 0, none⟩), .pointer (some ⟨d3, 0, none⟩)]) (.func (.func 141) #[] #[.pointer (some ⟨a4, 0, none⟩), .pointer (some ⟨b4, 0, none⟩), .pointer (some ⟨d4, 0, none⟩)]) a3 b3 d3 a4 b4 d4) := by
    have hl := arrAt_box w1 #[(.func (.func 141) #[] #[.pointer (some ⟨a0, 0, none⟩), .pointer (some ⟨b0, 0, none⟩), .pointer (some ⟨d0, 0, none⟩)]), (.func (.func 141) #[] #[.pointer (some ⟨a1, 0, none⟩), .pointer (some ⟨b1, 0, none⟩), .pointer (some ⟨d1, 0, none⟩)]), (.func (.func 141) #[] #[.pointer (some ⟨a2, 0, none⟩), .pointer (some ⟨b2, 0, none⟩), .pointer (some ⟨d2, 0, none⟩)]), (.func (.func 141) #[] #[.pointer (some ⟨a3, 0, none⟩), .pointer (some ⟨b3, 0, none⟩), .pointer (some ⟨d3, 0, none⟩)]), (.func (.func 141) #[] #[.pointer (some ⟨a4, 0, none⟩), .pointer (some ⟨b4, 0, none⟩), .pointer (some ⟨d4, 0, none⟩)]), .int .i64 (N : Int)] 198
    refine Lib.hid ⟨HC1.out.alloc _, hl.get 3 (by simp), hl.get 4 (by simp), ?_, ?_, hz1⟩
    · have e : ∀ k, k < w1.heap.size → (w1.alloc (.cells #[(.func (.func 141) #[] #[.pointer (some ⟨a0, 0, none⟩), .pointer (some ⟨b0, 0, none⟩), .pointer (some ⟨d0, 0, none⟩)]), (.func (.func 141) #[] #[.pointer (some ⟨a1, 0, none⟩), .pointer (some ⟨b1, 0, none⟩), .pointer (some ⟨d1, 0, none⟩)]), (.func (.func 141) #[] #[.pointer (some ⟨a2, 0, none⟩), .pointer (some ⟨b2, 0, none⟩), .pointer (some ⟨d2, 0, none⟩)]), (.func (.func 141) #[] #[.pointer (some ⟨a3, 0, none⟩), .pointer (some ⟨b3, 0, none⟩), .pointer (some ⟨d3, 0, none⟩)]), (.func (.func 141) #[] #[.pointer (some ⟨a4, 0, none⟩), .pointer (some ⟨b4, 0, none⟩), .pointer (some ⟨d4, 0, none⟩)]), .int .i64 (N : Int)] 198)).cell? ⟨k, 0, none⟩ = w1.cell? ⟨k, 0, none⟩ := fun k hk => World.cell?_of_block (w := w1) (Below.heap_alloc _ _ _ hk)
      rw [e _ la3, e _ lb3, e _ ld3]; exact R3.out
    · have e : ∀ k, k < w1.heap.size → (w1.alloc (.cells #[(.func (.func 141) #[] #[.pointer (some ⟨a0, 0, none⟩), .pointer (some ⟨b0, 0, none⟩), .pointer (some ⟨d0, 0, none⟩)]), (.func (.func 141) #[] #[.pointer (some ⟨a1, 0, none⟩), .pointer (some ⟨b1, 0, none⟩), .pointer (some ⟨d1, 0, none⟩)]), (.func (.func 141) #[] #[.pointer (some ⟨a2, 0, none⟩), .pointer (some ⟨b2, 0, none⟩), .pointer (some ⟨d2, 0, none⟩)]), (.func (.func 141) #[] #[.pointer (some ⟨a3, 0, none⟩), .pointer (some ⟨b3, 0, none⟩), .pointer (some ⟨d3, 0, none⟩)]), (.func (.func 141) #[] #[.pointer (some ⟨a4, 0, none⟩), .pointer (some ⟨b4, 0, none⟩), .pointer (some ⟨d4, 0, none⟩)]), .int .i64 (N : Int)] 198)).cell? ⟨k, 0, none⟩ = w1.cell? ⟨k, 0, none⟩ := fun k hk => World.cell?_of_block (w := w1) (Below.heap_alloc _ _ _ hk)
      rw [e _ la4, e _ lb4, e _ ld4]; exact R4.out
  have HS0 : Hid (FS w (w1.alloc (.cells #[(.func (.func 141) #[] #[.pointer (some ⟨a0, 0, none⟩), .pointer (some ⟨b0, 0, none⟩), .pointer (some ⟨d0, 0, none⟩)]), (.func (.func 141) #[] #[.pointer (some ⟨a1, 0, none⟩), .pointer (some ⟨b1, 0, none⟩), .pointer (some ⟨d1, 0, none⟩)]), (.func (.func 141) #[] #[.pointer (some ⟨a2, 0, none⟩), .pointer (some ⟨b2, 0, none⟩), .pointer (some ⟨d2, 0, none⟩)]), (.func (.func 141) #[] #[.pointer (some ⟨a3, 0, none⟩), .pointer (some ⟨b3, 0, none⟩), .pointer (some ⟨d3, 0, none⟩)]), (.func (.func 141) #[] #[.pointer (some ⟨a4, 0, none⟩), .pointer (some ⟨b4, 0, none⟩), .pointer (some ⟨d4, 0, none⟩)]), .int .i64 (N : Int)] 198)) (w1.heap.size + 1) N (Go.Proofs.YtkpffnihnhlghaaDoor.put (fun _ => 0) 0 7597137583116413295) ((w1.alloc (.cells #[(.func (.func 141) #[] #[.pointer (some ⟨a0, 0, none⟩), .pointer (some ⟨b0, 0, none⟩), .pointer (some ⟨d0, 0, none⟩)]), (.func (.func 141) #[] #[.pointer (some ⟨a1, 0, none⟩), .pointer (some ⟨b1, 0, none⟩), .pointer (some ⟨d1, 0, none⟩)]), (.func (.func 141) #[] #[.pointer (some ⟨a2, 0, none⟩), .pointer (some ⟨b2, 0, none⟩), .pointer (some ⟨d2, 0, none⟩)]), (.func (.func 141) #[] #[.pointer (some ⟨a3, 0, none⟩), .pointer (some ⟨b3, 0, none⟩), .pointer (some ⟨d3, 0, none⟩)]), (.func (.func 141) #[] #[.pointer (some ⟨a4, 0, none⟩), .pointer (some ⟨b4, 0, none⟩), .pointer (some ⟨d4, 0, none⟩)]), .int .i64 (N : Int)] 198)).alloc (.cells ((madeCells #[.int .u64 0] N).setIfInBounds 0 (.int .u64 7597137583116413295)) 29))) := by
    refine Lib.hid ⟨fun k hk => Below.heap_alloc _ _ _ (by simp; omega), ?_, by (repeat (first | with_reducible exact Below.refl _ _ | with_reducible exact HB1.out | with_reducible refine Below.drew ?_ | (with_reducible refine Below.setCell ?_ ?side _; case side => exact (by have := (HB1.out).size; first | (simp; done) | (simp; omega) | omega)) | (with_reducible refine Below.alloc ?_ ?side _; case side => exact (by have := (HB1.out).size; first | (simp; done) | (simp; omega) | omega)))), by omega⟩
    have h := made_set (w1.alloc (.cells #[(.func (.func 141) #[] #[.pointer (some ⟨a0, 0, none⟩), .pointer (some ⟨b0, 0, none⟩), .pointer (some ⟨d0, 0, none⟩)]), (.func (.func 141) #[] #[.pointer (some ⟨a1, 0, none⟩), .pointer (some ⟨b1, 0, none⟩), .pointer (some ⟨d1, 0, none⟩)]), (.func (.func 141) #[] #[.pointer (some ⟨a2, 0, none⟩), .pointer (some ⟨b2, 0, none⟩), .pointer (some ⟨d2, 0, none⟩)]), (.func (.func 141) #[] #[.pointer (some ⟨a3, 0, none⟩), .pointer (some ⟨b3, 0, none⟩), .pointer (some ⟨d3, 0, none⟩)]), (.func (.func 141) #[] #[.pointer (some ⟨a4, 0, none⟩), .pointer (some ⟨b4, 0, none⟩), .pointer (some ⟨d4, 0, none⟩)]), .int .i64 (N : Int)] 198)) N 7597137583116413295 29
    simp only [World.size_alloc] at h
    exact h
  clear HB1 HC1 R3 R4 c0 c1 c2 c3 c4 c5 c6 c7 c8 hmk row0 q0 qf
  generalize (w1.alloc (.cells #[(.func (.func 141) #[] #[.pointer (some ⟨a0, 0, none⟩), .pointer (some ⟨b0, 0, none⟩), .pointer (some ⟨d0, 0, none⟩)]), (.func (.func 141) #[] #[.pointer (some ⟨a1, 0, none⟩), .pointer (some ⟨b1, 0, none⟩), .pointer (some ⟨d1, 0, none⟩)]), (.func (.func 141) #[] #[.pointer (some ⟨a2, 0, none⟩), .pointer (some ⟨b2, 0, none⟩), .pointer (some ⟨d2, 0, none⟩)]), (.func (.func 141) #[] #[.pointer (some ⟨a3, 0, none⟩), .pointer (some ⟨b3, 0, none⟩), .pointer (some ⟨d3, 0, none⟩)]), (.func (.func 141) #[] #[.pointer (some ⟨a4, 0, none⟩), .pointer (some ⟨b4, 0, none⟩), .pointer (some ⟨d4, 0, none⟩)]), .int .i64 (N : Int)] 198)).alloc (.cells ((madeCells #[.int .u64 0] N).setIfInBounds 0 (.int .u64 7597137583116413295)) 29) = W0 at HS0 ⊢
  generalize w1.alloc (.cells #[(.func (.func 141) #[] #[.pointer (some ⟨a0, 0, none⟩), .pointer (some ⟨b0, 0, none⟩), .pointer (some ⟨d0, 0, none⟩)]), (.func (.func 141) #[] #[.pointer (some ⟨a1, 0, none⟩), .pointer (some ⟨b1, 0, none⟩), .pointer (some ⟨d1, 0, none⟩)]), (.func (.func 141) #[] #[.pointer (some ⟨a2, 0, none⟩), .pointer (some ⟨b2, 0, none⟩), .pointer (some ⟨d2, 0, none⟩)]), (.func (.func 141) #[] #[.pointer (some ⟨a3, 0, none⟩), .pointer (some ⟨b3, 0, none⟩), .pointer (some ⟨d3, 0, none⟩)]), (.func (.func 141) #[] #[.pointer (some ⟨a4, 0, none⟩), .pointer (some ⟨b4, 0, none⟩), .pointer (some ⟨d4, 0, none⟩)]), .int .i64 (N : Int)] 198) = V at HS0 HV
  generalize hq0 : w1.heap.size + 1 = q at HS0 ⊢
  generalize w1.heap.size = V0 at hz1 la3 lb3 ld3 la4 lb4 ld4 hq0 HV ⊢
  have hV0 : V0 < q := by omega
  have ha3 : a3 < q := by omega
  have hb3 : b3 < q := by omega
  have hd3 : d3 < q := by omega
  have ha4 : a4 < q := by omega
  have hb4 : b4 < q := by omega
  have hd4 : d4 < q := by omega
  clear la3 lb3 ld3 la4 lb4 ld4 hq0
  refine (pack_yes x _ (HL.out.below HS0.out.be) (rightB_true HR.out)).mono ?_
  rintro e w2 ⟨rfl, hb⟩
  have HS2 := Lib.hid (HS0.out.below hb)
  clear hb HS0
  obtain ⟨c0, c1, c2, c3, c4, c5, c6, c7, c8⟩ := (HS2.out.cfg HV.out hV0).cells
  have q1 := HS2.out.row.cell (i := 1) (by omega)
  have qf := HS2.out.row.frozen
  have nsq : w.heap.size ≠ q := by have := HV.out.hs; omega
  go_wp2_with fail
  have HS3 := Lib.hid (HS2.out.put 1 (packN x : Int) (F' := fw x false false (fun _ => false)) (fun j _ => fw_zero j))
  clear HS2 c0 c1 c2 c3 c4 c5 c6 c7 c8 q1 qf nsq
  generalize w2.setCell ⟨q, 1, none⟩ (.int .u64 (packN x : Int)) = W3 at HS3 ⊢
  go_loopw [22] (fun i wr => ∃ k : Nat, k ≤ 2 ∧ i = .int .i64 k ∧ ∃ F, FS w V q N F wr ∧ ∀ j, F j = fk x k j) (fun i _ => 2 - (intOf i).toNat)
  case atStart => exact ⟨0, by omega, rfl, _, HS3.out, fun j => rfl⟩
  case round =>
    clear HS3
    obtain ⟨k, hk, rfl, F, hS, hF⟩ := hrel
    have HS := Lib.hid hS
    clear hS
    by_cases hlt : k < 2
    · obtain rfl | rfl : k = 0 ∨ k = 1 := by omega
      · have hc := cls_0 x.s0 x.n0 x.s1 x.n1
        have HF := Lib.hid (show ∀ j, F j = fw x false false (fun _ => false) j from hF)
        clear hF
        go_wp2_with (go_at_call 81; refine (hd_0 _).mono ?_; rintro e w' ⟨rfl, rfl⟩)
        have HS1 := Lib.hid ((HS.out.alloc (.cells #[.int .i64 x.s0, .int .i64 x.n0] 57)).congr (F' := fw x (decide (0 < 0)) false (P0 0)) (by intro j _; rw [HF.out j]; exact fw_congr HR.out rfl rfl (fun b _ _ => by simp [P0]) j))
        clear HS HF
        generalize wr.alloc (.cells #[.int .i64 x.s0, .int .i64 x.n0] 57) = W0 at HS1 ⊢
        go_loopw [7, 30] (fun a c wr => ∃ i : Nat, (i : Int) ≤ x.n0 ∧ c = .int .i64 i ∧ a = .int .i64 (ld0 x i : Int) ∧ FS w V q N (fw x (decide (0 < i)) false (P0 i)) wr) (fun _ c _ => x.n0.toNat - (intOf c).toNat)
        case atStart => exact ⟨0, by omega, rfl, rfl, HS1.out⟩
        case round =>
          clear HS1
          obtain ⟨i, hi, rfl, rfl, hS⟩ := hrel
          have HS := Lib.hid hS
          clear hS
          by_cases hlt : (i : Int) < x.n0
          · have dl : decide ((i : Int) < x.n0) = true := by simpa using hlt
            have HST := Lib.hid (fun j => step0 HR.out i hlt j)
            have HNX := Lib.hid (ld0_next HR.out i hlt)
            have hm := ld0_in HR.out i hlt
            rw [HN.out] at hm
            generalize ld0 x i = m at hm HST ⊢
            have hm' : m < N := by omega
            obtain ⟨c0, c1, c2, c3, c4, c5, c6, c7, c8⟩ := (HS.out.cfg HV.out hV0).cells
            go_wp2_with fail
            refine (firstBlock_0 x _).mono ?_
            rintro e w5 ⟨rfl, hb⟩
            have HS5 := Lib.hid (HS.out.below hb)
            clear hb HS c0 c1 c2 c3 c4 c5 c6 c7 c8
            have ck := HS5.out.row.cell hm'
            have fk := HS5.out.row.frozen
            have k1 : (0 : Int) ≤ (m : Int) := by omega
            have k2 : (m : Int) < (N : Int) := by omega
            have hw : IntKind.u64.wrap (1 + (i : Int)) = (1 + (i : Int)) := by rw [IntKind.wrap_u64]; omega
            have l3 : w5.cell? ⟨V0, 3, none⟩ = some (.func (.func 141) #[] #[.pointer (some ⟨a3, 0, none⟩), .pointer (some ⟨b3, 0, none⟩), .pointer (some ⟨d3, 0, none⟩)]) := (HS5.out.cell (hV0)).trans HV.out.l3
            have nq : V0 ≠ q := by omega
            go_wp2_with fail
            have HS6 := Lib.hid (HS5.out.put m (1 + (i : Int)) (F' := fw x (decide (0 < i + 1)) false (P0 (i + 1))) (fun j _ => HST.out j))
            clear ck fk l3 hw
            generalize w5.setCell ⟨q, m, none⟩ (.int .u64 (1 + (i : Int))) = W6 at HS6 ⊢
            have g1 := (HS6.out.cell (o := 0) (show a3 < q by omega)).trans HV.out.r3.1
            have g2 := (HS6.out.cell (o := 0) (show b3 < q by omega)).trans HV.out.r3.2.1
            have g3 := (HS6.out.cell (o := 0) (show d3 < q by omega)).trans HV.out.r3.2.2
            have G1 := Lib.hid g1
            have G2 := Lib.hid g2
            have G3 := Lib.hid g3
            clear g1 g2 g3
            refine (row_any _ (bB x) x.n0 (1 + x.s0) a3 b3 d3 G1.out G2.out G3.out i (by omega) (by omega) (by omega) (by omega) (by omega)).mono ?_
            rintro e w' ⟨rfl, rfl⟩
            rw [HNX.out]
            go_wp2
            go_roundw
            case rel => exact ⟨i + 1, by omega, by go_num, rfl, HS6.out⟩
            case measure => simp [intOf]; omega
          · have dl : decide ((i : Int) < x.n0) = false := by simpa using hlt
            have hie : (i : Int) = x.n0 := by omega
            have HE := Lib.hid hie
            clear hie
            go_wp2
            go_roundw
            case rel => exact ⟨1, by omega, rfl, _, HS.out, fun j => by rw [show decide (0 < i) = decide (0 < x.n0) by have := HE.out; rw [Bool.eq_iff_iff]; simp; omega]; exact (start1 HR.out _ i HE.out j).symm⟩
            case measure => simp [intOf]
      · have hc := cls_1 x.s0 x.n0 x.s1 x.n1
        have HF := Lib.hid (show ∀ j, F j = fw x (decide (0 < x.n0)) false (P1 x 0) j from hF)
        clear hF
        go_wp2_with (go_at_call 81; refine (hd_1 _).mono ?_; rintro e w' ⟨rfl, rfl⟩)
        have HS1 := Lib.hid ((HS.out.alloc (.cells #[.int .i64 x.s1, .int .i64 x.n1] 57)).congr (F' := fw x (decide (0 < x.n0)) (decide (0 < 0)) (P1 x 0)) (by intro j _; rw [HF.out j]; rfl))
        clear HS HF
        generalize wr.alloc (.cells #[.int .i64 x.s1, .int .i64 x.n1] 57) = W0 at HS1 ⊢
        go_loopw [7, 30] (fun a c wr => ∃ i : Nat, (i : Int) ≤ x.n1 ∧ c = .int .i64 i ∧ a = .int .i64 (ld1 x i : Int) ∧ FS w V q N (fw x (decide (0 < x.n0)) (decide (0 < i)) (P1 x i)) wr) (fun _ c _ => x.n1.toNat - (intOf c).toNat)
        case atStart => exact ⟨0, by omega, rfl, rfl, HS1.out⟩
        case round =>
          clear HS1
          obtain ⟨i, hi, rfl, rfl, hS⟩ := hrel
          have HS := Lib.hid hS
          clear hS
          by_cases hlt : (i : Int) < x.n1
          · have dl : decide ((i : Int) < x.n1) = true := by simpa using hlt
            have HST := Lib.hid (fun j => step1 HR.out (decide (0 < x.n0)) i hlt j)
            have HNX := Lib.hid (ld1_next HR.out i hlt)
            have hm := ld1_in HR.out i hlt
            rw [HN.out] at hm
            generalize ld1 x i = m at hm HST ⊢
            have hm' : m < N := by omega
            obtain ⟨c0, c1, c2, c3, c4, c5, c6, c7, c8⟩ := (HS.out.cfg HV.out hV0).cells
            go_wp2_with fail
            refine (firstBlock_1 x _ (by omega) (by omega)).mono ?_
            rintro e w5 ⟨rfl, hb⟩
            have HS5 := Lib.hid (HS.out.below hb)
            clear hb HS c0 c1 c2 c3 c4 c5 c6 c7 c8
            have ck := HS5.out.row.cell hm'
            have fk := HS5.out.row.frozen
            have k1 : (0 : Int) ≤ (m : Int) := by omega
            have k2 : (m : Int) < (N : Int) := by omega
            have hw : IntKind.u64.wrap (1 + x.n0 + (i : Int)) = (1 + x.n0 + (i : Int)) := by rw [IntKind.wrap_u64]; omega
            have l4 : w5.cell? ⟨V0, 4, none⟩ = some (.func (.func 141) #[] #[.pointer (some ⟨a4, 0, none⟩), .pointer (some ⟨b4, 0, none⟩), .pointer (some ⟨d4, 0, none⟩)]) := (HS5.out.cell (hV0)).trans HV.out.l4
            have nq : V0 ≠ q := by omega
            go_wp2_with fail
            have HS6 := Lib.hid (HS5.out.put m (1 + x.n0 + (i : Int)) (F' := fw x (decide (0 < x.n0)) (decide (0 < i + 1)) (P1 x (i + 1))) (fun j _ => HST.out j))
            clear ck fk l4 hw
            generalize w5.setCell ⟨q, m, none⟩ (.int .u64 (1 + x.n0 + (i : Int))) = W6 at HS6 ⊢
            have g1 := (HS6.out.cell (o := 0) (show a4 < q by omega)).trans HV.out.r4.1
            have g2 := (HS6.out.cell (o := 0) (show b4 < q by omega)).trans HV.out.r4.2.1
            have g3 := (HS6.out.cell (o := 0) (show d4 < q by omega)).trans HV.out.r4.2.2
            have G1 := Lib.hid g1
            have G2 := Lib.hid g2
            have G3 := Lib.hid g3
            clear g1 g2 g3
            refine (row_any _ (bB1 x) x.n1 (1 + x.s1) a4 b4 d4 G1.out G2.out G3.out i (by omega) (by omega) (by omega) (by omega) (by omega)).mono ?_
            rintro e w' ⟨rfl, rfl⟩
            rw [HNX.out]
            go_wp2
            go_roundw
            case rel => exact ⟨i + 1, by omega, by go_num, rfl, HS6.out⟩
            case measure => simp [intOf]; omega
          · have dl : decide ((i : Int) < x.n1) = false := by simpa using hlt
            have hie : (i : Int) = x.n1 := by omega
            have HE := Lib.hid hie
            clear hie
            go_wp2
            go_roundw
            case rel => exact ⟨2, by omega, rfl, _, HS.out, fun j => (end1 HR.out i HE.out j).symm⟩
            case measure => simp [intOf]
    · obtain rfl : k = 2 := by omega
      have HF := Lib.hid hF
      clear hF
      go_wp2
      go_ret
      refine ⟨q, rfl, HS.out.hq, HS.out.row.congr ?_, HS.out.be⟩
      intro j _
      rw [HF.out j]; rfl

end Go.Proofs.YtkpffnihnhlghaaDoor
