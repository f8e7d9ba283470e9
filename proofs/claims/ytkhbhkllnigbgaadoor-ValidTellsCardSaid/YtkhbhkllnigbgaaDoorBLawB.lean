/- What a law has at hand: a schema, and a struct in its box. -/
import Derived.Test.YtkhbhkllnigbgaaDoorTMade2
import Derived.Test.YtkhbhkllnigbgaaDoorBAwake
namespace Go.Proofs.YtkhbhkllnigbgaaDoor
open Go.ChangeShapes Go.WideShapes Go.ChangeAt Go.RowKit
/-- What a law has at hand behind made: a schema, and a struct in its box at q. -/
structure LW (w : World) (s : Sch) (A : Option Addr) (q : Nat) (x : Tr) (An : Option Addr) (cn : Nat) (Ak : Option Addr) (ck : Nat) (W : World) : Prop where
  sat : SAt W A s
  et : Cs.ErrT W
  box : Cell4 W q 0 x An cn Ak ck
  lt : q < W.heap.size
  tat : TAt W (fun _ => True) x An Ak
  be : Below w.heap.size w W
theorem LW.below {w : World} {s : Sch} {A : Option Addr} {q : Nat} {x : Tr} {An : Option Addr} {cn : Nat} {Ak : Option Addr} {ck : Nat} {W W' : World} (h : LW w s A q x An cn Ak ck W) (hb : Below W.heap.size W W') : LW w s A q x An cn Ak ck W' :=
  ⟨h.sat.below hb, h.et.below hb, h.box.of_block (hb.block _ h.lt), Nat.lt_of_lt_of_le h.lt hb.size, h.tat.below hb, Below.step h.be hb h.be.size⟩
theorem LW.step {w : World} {s : Sch} {A : Option Addr} {q : Nat} {x : Tr} {An : Option Addr} {cn : Nat} {Ak : Option Addr} {ck : Nat} {W W' : World} (h : LW w s A q x An cn Ak ck W) {o : Obj} (hb : Below (W.alloc o).heap.size (W.alloc o) W') : LW w s A q x An cn Ak ck W' := (h.below ((Below.refl _ _).alloc (Nat.le_refl _) o)).below hb
theorem LW.drew {w : World} {s : Sch} {A : Option Addr} {q : Nat} {x : Tr} {An : Option Addr} {cn : Nat} {Ak : Option Addr} {ck : Nat} {W : World} (h : LW w s A q x An cn Ak ck W) : LW w s A q x An cn Ak ck W.drew := h.below (Below.refl _ _).drew
theorem LW.all {w : World} {s : Sch} {A : Option Addr} {q : Nat} {x : Tr} {An : Option Addr} {cn : Nat} {Ak : Option Addr} {ck : Nat} {W : World} (h : LW w s A q x An cn Ak ck W) : W.cell? ⟨q, 0, none⟩ = some (.int .u64 (x.num : Nat)) ∧ W.cell? ⟨q, 1, none⟩ = some (.string x.bs) ∧ W.cell? ⟨q, 2, none⟩ = some (.slice An x.nl cn) ∧ W.cell? ⟨q, 3, none⟩ = some (.slice Ak x.kl ck) :=
  ⟨h.box.c0, h.box.c1, h.box.c2, h.box.c3⟩
/-- A struct by numbers is put into its box. -/
theorem LW.of_made {w W : World} {d : Nat} {s : Sch} {A : Option Addr} {t : Nat} {x : Tr} {An Ak : Option Addr} {cn ck : Nat} {w1 : World} (h : MadeQ w1 d s A t x An Ak W) (hE : Cs.ErrT w) (hb : Below w.heap.size w w1) : LW w s A W.heap.size x An cn Ak ck (W.alloc (.cells #[.int .u64 ((x).num : Nat), .string (x).bs, .slice An (x).nl cn, .slice Ak (x).kl ck] 41)) := by
  have hB := Below.step hb h.be hb.size
  exact ⟨h.sat.below ((Below.refl _ _).alloc (Nat.le_refl _) _), hE.below (hB.alloc hB.size _), cell4_box W x An cn Ak ck, by simp, (h.tat.below ((Below.refl _ _).alloc (Nat.le_refl _) _)).mono fun _ _ _ => trivial, hB.alloc hB.size _⟩

end Go.Proofs.YtkhbhkllnigbgaaDoor
