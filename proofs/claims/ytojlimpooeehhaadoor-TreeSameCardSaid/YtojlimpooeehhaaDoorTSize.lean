/- Structs are gone through: tree.Size and tree.Deep. -/
import Derived.Test.YtojlimpooeehhaaDoorTSizeM
namespace Go.Proofs.YtojlimpooeehhaaDoor
open Go.RowKit
/-- Where eachStruct's variables lie: visit, enter. -/
structure EW (bv be : Nat) (fv : Value) (W : World) : Prop where
  lv : bv < W.heap.size
  le : be < W.heap.size
  cv : W.cell? ⟨bv, 0, none⟩ = some fv
  ce : W.cell? ⟨be, 0, none⟩ = some (.func (.func 62) #[] #[.pointer (some ⟨bv, 0, none⟩), .pointer (some ⟨be, 0, none⟩)])
theorem EW.butP {Q : Nat → Prop} {bv be : Nat} {fv : Value} {W W' : World} (h : EW bv be fv W) (hb : ButP Q W W') (h1 : ¬ Q bv) (h2 : ¬ Q be) : EW bv be fv W' :=
  ⟨Nat.lt_of_lt_of_le h.lv hb.size, Nat.lt_of_lt_of_le h.le hb.size, (World.cell?_of_block (w := W) (a := ⟨bv, 0, none⟩) (hb.block _ h.lv h1)).trans h.cv, (World.cell?_of_block (w := W) (a := ⟨be, 0, none⟩) (hb.block _ h.le h2)).trans h.ce⟩
/-- What Size counts. -/
structure IS (q1 : Nat) (a : Nat × Nat) (W : World) : Prop where
  row : W.rowIs q1 3 1 (fun _ => .int .i64 ((a.1 : Nat) : Int))
  le : a.1 ≤ 1 + 200 * a.2
theorem IS.below {q1 : Nat} {a : Nat × Nat} {W W' : World} (h : IS q1 a W) (hb : Below W.heap.size W W') : IS q1 a W' := ⟨h.row.of_block (hb.block _ h.row.lt), h.le⟩
/-- What Deep counts. -/
structure ID (q1 q2 q3 : Nat) (a : Nat × Nat) (W : World) : Prop where
  row : W.rowIs q1 3 1 (fun _ => .int .i64 ((a.1 : Nat) : Int))
  row2 : W.rowIs q2 3 1 (fun _ => .int .i64 ((a.2 : Nat) : Int))
  lt3 : q3 < W.heap.size
  c3 : W.cell? ⟨q3, 0, none⟩ = some (.func (.func 61) #[] #[.pointer (some ⟨q2, 0, none⟩)])
  n12 : q1 ≠ q2
  n13 : q1 ≠ q3
  n23 : q2 ≠ q3
theorem ID.below {q1 q2 q3 : Nat} {a : Nat × Nat} {W W' : World} (h : ID q1 q2 q3 a W) (hb : Below W.heap.size W W') : ID q1 q2 q3 a W' := ⟨h.row.of_block (hb.block _ h.row.lt), h.row2.of_block (hb.block _ h.row2.lt), Nat.lt_of_lt_of_le h.lt3 hb.size, (hb.cell (p := ⟨q3, 0, none⟩) h.lt3).trans h.c3, h.n12, h.n13, h.n23⟩

set_option maxRecDepth 100000 in
set_option maxHeartbeats 2000000 in
theorem visS_any (q1 : Nat) (y : Tr) (An Ak : Option Addr) (cn ck n D : Nat) (a : Nat × Nat) (W : World) (hS : Sm (n + 2) y) (hT : TAt W (fun b => ¬ b = q1) y An Ak) (hI : IS q1 a W) (ha : a.2 ≤ 2147483647) :
    Calls Tryd.prog 59 #[(.agg #[.int .u64 ((y).num : Nat), .string (y).bs, .slice An (y).nl cn, .slice Ak (y).kl ck]), .int .i64 (D : Int), .pointer (some ⟨q1, 0, none⟩)] W fun e W' => e = .returned (.bool true) ∧ IS q1 (a.1 + ownW y, a.2 + 1) W' ∧ ButP (fun b => b = q1) W W' := by
  have hle := hI.le
  have how := ownW_le hS
  have HI := Lib.hid hI
  have HT := Lib.hid (hT.mono (Q := fun _ => True) fun _ _ _ => trivial)
  have HS := Lib.hid hS
  have hlt := hI.row.lt
  have c0 := hI.row.cell (i := 0) (by omega)
  have cf := hI.row.frozen
  clear hI hT hS
  go_enter Tryd.func59, Tryd.ntmps59
  go_wp2_with fail
  have hne : q1 ≠ W.heap.size := by omega
  have hw : IntKind.i64.wrap ((a.1 : Int) + ((ownW y : Nat) : Int)) = (a.1 : Int) + ((ownW y : Nat) : Int) := IntWalk.i64_in _ (by omega)
  go_region_with (
    (go_at_call 60; (with_reducible refine Calls.mono (words_any y An Ak cn ck n _ HS.out ?_) ?_); (first | exact HT.out.below (((Below.refl _ _).alloc (Nat.le_refl _) _).drew)); rintro e w1 ⟨rfl, hb⟩; have HB := Lib.hid (Below.step (B := W.heap.size) (a := W) (by (repeat (first | with_reducible exact Below.refl _ _ | with_reducible refine Below.drew ?_ | (with_reducible refine Below.setCell ?_ ?side _; case side => exact (by first | (simp; done) | (simp; omega) | omega)) | (with_reducible refine Below.alloc ?_ ?side _; case side => exact (by first | (simp; done) | (simp; omega) | omega))))) hb (by first | (simp; done) | (simp; omega) | omega)); clear hb; have d0 := (HB.out.cell (p := ⟨q1, 0, none⟩) hlt).trans c0; have df := fun o => (HB.out.frozen (p := ⟨q1, o, none⟩) hlt).trans (cf o)))
  all_goals
    go_wp2
    go_ret
    refine ⟨rfl, ⟨?_, by omega⟩, ?_⟩
    · have r := (HI.out.row.of_block (HB.out.block _ hlt)).set 0 (.int .i64 ((a.1 : Int) + ((ownW y : Nat) : Int)))
      refine r.congr fun j hj => ?_
      obtain rfl : j = 0 := by omega
      show Value.int .i64 ((a.1 : Int) + ((ownW y : Nat) : Int)) = .int .i64 ((a.1 + ownW y : Nat) : Int)
      simp
    · exact ButP.set (Q := fun b => b = q1) (ButP.of_below HB.out) (p := ⟨q1, 0, none⟩) rfl _

theorem bound_any (q2 : Nat) (D c : Nat) (W : World) (hD : D ≤ 100) (hc : c + 1 ≤ 2147483647) (hr : W.rowIs q2 3 1 (fun _ => .int .i64 ((c : Nat) : Int))) : Calls Tryd.prog 61 #[.int .i64 (D : Int), .pointer (some ⟨q2, 0, none⟩)] W fun e W' => e = .returned (.bool true) ∧ W.setCell ⟨q2, 0, none⟩ (.int .i64 ((c : Int) + 1)) = W' := by
  have c0 := hr.cell (i := 0) (by omega)
  have cf := hr.frozen
  clear hr
  have d1 : decide ((D : Int) ≤ 262144) = true := decide_eq_true (by omega)
  have d2 : decide ((c : Int) + 1 ≤ 2147483647) = true := decide_eq_true (by omega)
  go_enter Tryd.func61, Tryd.ntmps61
  go_wp2
  go_ret
  exact ⟨rfl, rfl⟩
set_option maxRecDepth 100000 in
set_option maxHeartbeats 2000000 in
theorem visD_any (q1 q2 q3 : Nat) (y : Tr) (An Ak : Option Addr) (cn ck n D : Nat) (a : Nat × Nat) (W : World) (hS : Sm (n + 2) y) (hT : TAt W (fun b => ¬ (b = q1 ∨ b = q2)) y An Ak) (hI : ID q1 q2 q3 a W) (hD : D ≤ 100) (ha : a.2 + 1 ≤ 2147483647) :
    Calls Tryd.prog 40 #[(.agg #[.int .u64 ((y).num : Nat), .string (y).bs, .slice An (y).nl cn, .slice Ak (y).kl ck]), .int .i64 (D : Int), .pointer (some ⟨q1, 0, none⟩), .pointer (some ⟨q3, 0, none⟩)] W fun e W' => e = .returned (.bool true) ∧ ID q1 q2 q3 (max a.1 D, a.2 + 1) W' ∧ ButP (fun b => b = q1 ∨ b = q2) W W' := by
  have HI := Lib.hid hI
  have hlt := hI.row.lt
  have hlt3 := hI.lt3
  have n12 := hI.n12
  have n13 := hI.n13
  have n23 := hI.n23
  have c0 := hI.row.cell (i := 0) (by omega)
  have cf := hI.row.frozen
  have c3 := hI.c3
  clear hI hT hS
  have hne : q1 ≠ W.heap.size := by omega
  have hne3 : q3 ≠ W.heap.size := by omega
  go_enter Tryd.func40, Tryd.ntmps40
  go_wp2_with fail
  all_goals
    refine (bound_any q2 D a.2 _ hD ha ((HI.out.row2.setOther (a := ⟨q1, 0, none⟩) (by show q2 ≠ q1; omega) _).alloc _)).mono ?_
    rintro e w1 ⟨rfl, rfl⟩
    go_wp2
    go_ret
    refine (fun hBP => ⟨rfl, ⟨?_, ?_, Nat.lt_of_lt_of_le hlt3 hBP.size, (World.cell?_of_block (w := W) (a := ⟨q3, 0, none⟩) (hBP.block q3 hlt3 (by omega))).trans c3, n12, n13, n23⟩, hBP⟩) (ButP.set (Q := fun b => b = q1 ∨ b = q2) (ButP.trans (ButP.set (Q := fun b => b = q1 ∨ b = q2) (ButP.refl _ _) (p := ⟨q1, 0, none⟩) (.inl rfl) _) (ButP.of_below ((Below.refl _ _).alloc (Nat.le_refl _) _))) (p := ⟨q2, 0, none⟩) (.inr rfl) _)
    · refine ((((HI.out.row.set 0 _).alloc _).setOther (a := ⟨q2, 0, none⟩) n12 _).congr fun j hj => ?_)
      obtain rfl : j = 0 := by omega
      simp only [if_true, Value.int.injEq, true_and]
      omega
    · refine ((((HI.out.row2.setOther (a := ⟨q1, 0, none⟩) (show q2 ≠ q1 by omega) _).alloc _).set 0 _).congr fun j hj => ?_)
      obtain rfl : j = 0 := by omega
      simp

end Go.Proofs.YtojlimpooeehhaaDoor
