/- Size, Slot, Entry, Control, Buffer, Blocks, Class, Block, Head, Seq of a right config. -/
import Derived.Test.YtkpffnihnhlghaaDoorPLay
import Derived.Deep.RegionHeld3
namespace Go.Proofs.YtkpffnihnhlghaaDoor
open Go.RowKit
theorem lfld_0 (a b c d e f : Value) (w : World) : (Instr.field 198 (.agg #[a, b, c, d, e, f]) 0).run Tryd.prog w = .ok a w := by kernel_rfl
theorem lfld_1 (a b c d e f : Value) (w : World) : (Instr.field 198 (.agg #[a, b, c, d, e, f]) 1).run Tryd.prog w = .ok b w := by kernel_rfl
theorem lfld_2 (a b c d e f : Value) (w : World) : (Instr.field 198 (.agg #[a, b, c, d, e, f]) 2).run Tryd.prog w = .ok c w := by kernel_rfl
theorem lfld_3 (a b c d e f : Value) (w : World) : (Instr.field 198 (.agg #[a, b, c, d, e, f]) 3).run Tryd.prog w = .ok (.agg #[d, e]) w := by kernel_rfl
theorem lfld_4 (a b c d e f : Value) (w : World) : (Instr.field 198 (.agg #[a, b, c, d, e, f]) 4).run Tryd.prog w = .ok f w := by kernel_rfl
theorem lidx_0 (d e : Value) (w : World) : (Instr.index 196 (.agg #[d, e]) (.int .i64 0)).run Tryd.prog w = .ok d w := by kernel_rfl
theorem lidx_1 (d e : Value) (w : World) : (Instr.index 196 (.agg #[d, e]) (.int .i64 1)).run Tryd.prog w = .ok e w := by kernel_rfl

set_option maxHeartbeats 1000000 in
theorem size_yes (x : Cfg) (w : World) (hL : Lim w) (hr : Right x) : Calls Tryd.prog 64 #[(.agg #[.int .i64 x.t, .int .i64 x.s, .int .i64 x.l, .int .i64 x.c, .int .i64 x.s0, .int .i64 x.n0, .int .i64 x.s1, .int .i64 x.n1, .int .i64 x.r])] w fun e w' => e = .returned (.int .i64 (sizeC x)) ∧ Below w.heap.size w w' := by
  have HL := Lib.hid hL
  have HR := Lib.hid hr
  have hf := lfld_4
  clear hL hr
  go_enter Tryd.func64, Tryd.ntmps64
  go_wp2_with fail
  refine (check_yes x _ (HL.out.below ((Below.refl _ _).alloc (Nat.le_refl _) _)) (rightB_true HR.out)).mono ?_
  rintro e w1 ⟨rfl, hb⟩
  have H1 := Lib.hid (Below.step (B := w.heap.size) (a := w) (by (repeat (first | with_reducible exact Below.refl _ _ | with_reducible refine Below.drew ?_ | (with_reducible refine Below.setCell ?_ ?side _; case side => exact (by first | (simp; done) | (simp; omega) | omega)) | (with_reducible refine Below.alloc ?_ ?side _; case side => exact (by first | (simp; done) | (simp; omega) | omega))))) hb (by first | (simp; done) | (simp; omega) | omega))
  obtain ⟨c0, c1, c2, c3, c4, c5, c6, c7, c8⟩ := ((cfgAt_box w x).below hb).cells
  clear hb
  go_wp2_with fail
  refine (lay_any x _ (HL.out.below H1.out) HR.out).mono ?_
  rintro e w2 ⟨v0, v1, v2, v3, v4, rfl, -, -, -, -, -, hb⟩
  have H2 := Lib.hid (Below.step H1.out hb H1.out.size)
  clear hb H1 c0 c1 c2 c3 c4 c5 c6 c7 c8
  go_wp2
  go_ret
  exact ⟨rfl, H2.out⟩
set_option maxHeartbeats 1000000 in
theorem size_no (x : Cfg) (w : World) (hL : Lim w) (hr : rightB x = false) : Calls Tryd.prog 64 #[(.agg #[.int .i64 x.t, .int .i64 x.s, .int .i64 x.l, .int .i64 x.c, .int .i64 x.s0, .int .i64 x.n0, .int .i64 x.s1, .int .i64 x.n1, .int .i64 x.r])] w fun e w' => e = .returned (.int .i64 0) ∧ Below w.heap.size w w' := by
  have HL := Lib.hid hL
  have HR := Lib.hid hr
  clear hL hr
  go_enter Tryd.func64, Tryd.ntmps64
  go_wp2_with fail
  refine (check_no x _ (HL.out.below ((Below.refl _ _).alloc (Nat.le_refl _) _)) HR.out).mono ?_
  rintro e w1 ⟨rfl, hb⟩
  have H1 := Lib.hid (Below.step (B := w.heap.size) (a := w) (by (repeat (first | with_reducible exact Below.refl _ _ | with_reducible refine Below.drew ?_ | (with_reducible refine Below.setCell ?_ ?side _; case side => exact (by first | (simp; done) | (simp; omega) | omega)) | (with_reducible refine Below.alloc ?_ ?side _; case side => exact (by first | (simp; done) | (simp; omega) | omega))))) hb (by first | (simp; done) | (simp; omega) | omega))
  clear hb
  go_wp2
  go_ret
  exact ⟨rfl, H1.out⟩

def exC : Cfg := ⟨1, 4, 1, 1, 4, 1, 8, 1, 1⟩
theorem exC_right : Right exC := Right.of (by decide)
theorem exC_size : sizeC exC = 30 := by decide
def slotC (x : Cfg) (i : Int) : Int := place 5 x.l 1 i
def entryC (x : Cfg) (i : Int) : Int := place (bE x) x.t 1 i
def controlC (x : Cfg) (i : Int) : Int := place (bC x) x.t (1 + 2 * x.s) i


end Go.Proofs.YtkpffnihnhlghaaDoor
