/- tree.Check: whatever schema, type and tree. -/
import Derived.Test.YtkhbhkllnigbgaaDoorTCheck
namespace Go.Proofs.YtkhbhkllnigbgaaDoor
open Go.RowKit
/-- What Check tells: 0, 1, 16 or 24. -/
noncomputable def chkC (s : Sch) (t : Int) (x : Tr) : Nat := if okS s = true ∧ hasT s t then chk s 5 t.toNat x else 1
theorem chkC_ok {s : Sch} (h : RightS s) {t : Nat} (ht : t < s.n) (x : Tr) : chkC s t x = chk s 5 t x := by
  rw [chkC, if_pos ⟨okS_true h, by unfold hasT; omega⟩]; rfl
theorem chkC_vals (s : Sch) (t : Int) (x : Tr) : chkC s t x = 0 ∨ chkC s t x = 1 ∨ chkC s t x = 16 ∨ chkC s t x = 24 := by
  unfold chkC
  split
  · have := chk_vals s 5 t.toNat x; omega
  · exact .inr (.inl rfl)

/-- A tree's box, and what else Check needs. -/
structure CC (w : World) (s : Sch) (A : Option Addr) (x : Tr) (A1 : Option Addr) (k1 : Nat) (A2 : Option Addr) (k2 : Nat) (W : World) : Prop where
  sat : SAt W A s
  box : Cell4 W w.heap.size 0 x A1 k1 A2 k2
  lt : w.heap.size < W.heap.size
  tat : TAt W (fun _ => True) x A1 A2
  be : Below w.heap.size w W
theorem CC.below {w : World} {s : Sch} {A : Option Addr} {x : Tr} {A1 : Option Addr} {k1 : Nat} {A2 : Option Addr} {k2 : Nat} {W W' : World} (h : CC w s A x A1 k1 A2 k2 W) (hb : Below W.heap.size W W') : CC w s A x A1 k1 A2 k2 W' :=
  ⟨h.sat.below hb, h.box.of_block (hb.block _ h.lt), Nat.lt_of_lt_of_le h.lt hb.size, h.tat.below hb, Below.step h.be hb h.be.size⟩
theorem CC.drew {w : World} {s : Sch} {A : Option Addr} {x : Tr} {A1 : Option Addr} {k1 : Nat} {A2 : Option Addr} {k2 : Nat} {W : World} (h : CC w s A x A1 k1 A2 k2 W) : CC w s A x A1 k1 A2 k2 W.drew := h.below (Below.refl _ _).drew
theorem CC.all {w : World} {s : Sch} {A : Option Addr} {x : Tr} {A1 : Option Addr} {k1 : Nat} {A2 : Option Addr} {k2 : Nat} {W : World} (h : CC w s A x A1 k1 A2 k2 W) :
    W.cell? ⟨w.heap.size, 0, none⟩ = some (.int .u64 (x.num : Nat)) ∧ W.cell? ⟨w.heap.size, 1, none⟩ = some (.string x.bs) ∧ W.cell? ⟨w.heap.size, 2, none⟩ = some (.slice A1 x.nl k1) ∧ W.cell? ⟨w.heap.size, 3, none⟩ = some (.slice A2 x.kl k2) ∧ CC w s A x A1 k1 A2 k2 W :=
  ⟨h.box.c0, h.box.c1, h.box.c2, h.box.c3, h⟩
theorem CC.mk' {w : World} {s : Sch} {A : Option Addr} {x : Tr} {A1 : Option Addr} {k1 : Nat} {A2 : Option Addr} {k2 : Nat} (hs : SAt w A s) (ht : TAt w (fun _ => True) x A1 A2) : CC w s A x A1 k1 A2 k2 (w.alloc (.cells #[.int .u64 ((x).num : Nat), .string (x).bs, .slice A1 (x).nl k1, .slice A2 (x).kl k2] 41)) :=
  ⟨hs.below ((Below.refl _ _).alloc (Nat.le_refl _) _), cell4_box w x A1 k1 A2 k2, by simp, ht.below ((Below.refl _ _).alloc (Nat.le_refl _) _), by (repeat (first | with_reducible exact Below.refl _ _ | with_reducible refine Below.drew ?_ | (with_reducible refine Below.setCell ?_ ?side _; case side => exact (by first | (simp; done) | (simp; omega) | omega)) | (with_reducible refine Below.alloc ?_ ?side _; case side => exact (by first | (simp; done) | (simp; omega) | omega))))⟩


end Go.Proofs.YtkhbhkllnigbgaaDoor
