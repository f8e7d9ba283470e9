/- Structs are gone through: tree.Size and tree.Deep. -/
import Derived.Test.YthcachmcjekckaaDoorTSizeM
namespace Go.Proofs.YthcachmcjekckaaDoor
open Go.RowKit
/-- Where eachStruct's variables lie: visit, enter. -/
structure EW (bv be : Nat) (fv : Value) (W : World) : Prop where
  lv : bv < W.heap.size
  le : be < W.heap.size
  cv : W.cell? ⟨bv, 0, none⟩ = some fv
  ce : W.cell? ⟨be, 0, none⟩ = some (.func (.func 96) #[] #[.pointer (some ⟨bv, 0, none⟩), .pointer (some ⟨be, 0, none⟩)])
theorem EW.butP {Q : Nat → Prop} {bv be : Nat} {fv : Value} {W W' : World} (h : EW bv be fv W) (hb : ButP Q W W') (h1 : ¬ Q bv) (h2 : ¬ Q be) : EW bv be fv W' :=
  ⟨Nat.lt_of_lt_of_le h.lv hb.size, Nat.lt_of_lt_of_le h.le hb.size, (World.cell?_of_block (w := W) (a := ⟨bv, 0, none⟩) (hb.block _ h.lv h1)).trans h.cv, (World.cell?_of_block (w := W) (a := ⟨be, 0, none⟩) (hb.block _ h.le h2)).trans h.ce⟩
/-- What Size counts. -/
structure IS (q1 : Nat) (a : Nat × Nat) (W : World) : Prop where
  row : W.rowIs q1 3 1 (fun _ => .int .i64 ((a.1 : Nat) : Int))
  le : a.1 ≤ 1 + 300 * a.2
theorem IS.below {q1 : Nat} {a : Nat × Nat} {W W' : World} (h : IS q1 a W) (hb : Below W.heap.size W W') : IS q1 a W' := ⟨h.row.of_block (hb.block _ h.row.lt), h.le⟩
set_option maxRecDepth 100000 in
set_option maxHeartbeats 2000000 in
theorem visS_any (q1 : Nat) (y : Tr) (An Ak : Option Addr) (cn ck n D : Nat) (a : Nat × Nat) (W : World) (hS : Sm (n + 2) y) (hT : TAt W (fun b => ¬ b = q1) y An Ak) (hI : IS q1 a W) (ha : a.2 ≤ 2147483647) :
    Calls Tryd.prog 59 #[(.agg #[.int .u64 ((y).num : Nat), .string (y).bs, .slice An (y).nl cn, .slice Ak (y).kl ck]), .int .i64 (D : Int), .pointer (some ⟨q1, 0, none⟩)] W fun e W' => e = .returned (.bool true) ∧ IS q1 (a.1 + ownW y, a.2 + 1) W' ∧ ButP (fun b => b = q1) W W' := by
  have hle := hI.le
  have how := ownW_le hS
  have HI := Lib.hid hI
  have HT := Lib.hid (hT.mono (Q := fun _ => True) fun _ _ _ => trivial)
  have HS := Lib.hid hS
  have hlt := hI.row.lt
  have c0 := hI.row.cell (i := 0) (by omega)
  have cf := hI.row.frozen
  clear hI hT hS
  go_enter Tryd.func59, Tryd.ntmps59
  go_wp2_with fail
  have hne : q1 ≠ W.heap.size := by omega
  have hw : IntKind.i64.wrap ((a.1 : Int) + ((ownW y : Nat) : Int)) = (a.1 : Int) + ((ownW y : Nat) : Int) := IntWalk.i64_in _ (by omega)
  go_region_with (
    (go_at_call 60; (with_reducible refine Calls.mono (words_any y An Ak cn ck n _ HS.out ?_) ?_); (first | exact HT.out.below (((Below.refl _ _).alloc (Nat.le_refl _) _).drew)); rintro e w1 ⟨rfl, hb⟩; have HB := Lib.hid (Below.step (B := W.heap.size) (a := W) (by (repeat (first | with_reducible exact Below.refl _ _ | with_reducible refine Below.drew ?_ | (with_reducible refine Below.setCell ?_ ?side _; case side => exact (by first | (simp; done) | (simp; omega) | omega)) | (with_reducible refine Below.alloc ?_ ?side _; case side => exact (by first | (simp; done) | (simp; omega) | omega))))) hb (by first | (simp; done) | (simp; omega) | omega)); clear hb; have d0 := (HB.out.cell (p := ⟨q1, 0, none⟩) hlt).trans c0; have df := fun o => (HB.out.frozen (p := ⟨q1, o, none⟩) hlt).trans (cf o)))
  all_goals
    go_wp2
    go_ret
    refine ⟨rfl, ⟨?_, by omega⟩, ?_⟩
    · have r := (HI.out.row.of_block (HB.out.block _ hlt)).set 0 (.int .i64 ((a.1 : Int) + ((ownW y : Nat) : Int)))
      refine r.congr fun j hj => ?_
      obtain rfl : j = 0 := by omega
      show Value.int .i64 ((a.1 : Int) + ((ownW y : Nat) : Int)) = .int .i64 ((a.1 + ownW y : Nat) : Int)
      simp
    · exact ButP.set (Q := fun b => b = q1) (ButP.of_below HB.out) (p := ⟨q1, 0, none⟩) rfl _


end Go.Proofs.YthcachmcjekckaaDoor
