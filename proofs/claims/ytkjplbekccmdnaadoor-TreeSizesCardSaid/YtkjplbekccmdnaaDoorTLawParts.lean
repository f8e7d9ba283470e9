/- TreeParts: the law's walk. -/
import Derived.Test.YtkjplbekccmdnaaDoorTParts
namespace Go.Proofs.YtkjplbekccmdnaaDoor
open Go.ChangeShapes Go.WideShapes Go.ChangeAt Go.RowKit
/-- What a law has at hand behind made: a schema, and a struct in its box at q. -/
structure LW (w : World) (s : Sch) (A : Option Addr) (q : Nat) (x : Tr) (An : Option Addr) (cn : Nat) (Ak : Option Addr) (ck : Nat) (W : World) : Prop where
  sat : SAt W A s
  et : Cs.ErrT W
  box : Cell4 W q 0 x An cn Ak ck
  lt : q < W.heap.size
  tat : TAt W (fun _ => True) x An Ak
  be : Below w.heap.size w W
theorem LW.below {w : World} {s : Sch} {A : Option Addr} {q : Nat} {x : Tr} {An : Option Addr} {cn : Nat} {Ak : Option Addr} {ck : Nat} {W W' : World} (h : LW w s A q x An cn Ak ck W) (hb : Below W.heap.size W W') : LW w s A q x An cn Ak ck W' :=
  ⟨h.sat.below hb, h.et.below hb, h.box.of_block (hb.block _ h.lt), Nat.lt_of_lt_of_le h.lt hb.size, h.tat.below hb, Below.step h.be hb h.be.size⟩
theorem LW.step {w : World} {s : Sch} {A : Option Addr} {q : Nat} {x : Tr} {An : Option Addr} {cn : Nat} {Ak : Option Addr} {ck : Nat} {W W' : World} (h : LW w s A q x An cn Ak ck W) {o : Obj} (hb : Below (W.alloc o).heap.size (W.alloc o) W') : LW w s A q x An cn Ak ck W' := (h.below ((Below.refl _ _).alloc (Nat.le_refl _) o)).below hb
theorem LW.drew {w : World} {s : Sch} {A : Option Addr} {q : Nat} {x : Tr} {An : Option Addr} {cn : Nat} {Ak : Option Addr} {ck : Nat} {W : World} (h : LW w s A q x An cn Ak ck W) : LW w s A q x An cn Ak ck W.drew := h.below (Below.refl _ _).drew
theorem LW.all {w : World} {s : Sch} {A : Option Addr} {q : Nat} {x : Tr} {An : Option Addr} {cn : Nat} {Ak : Option Addr} {ck : Nat} {W : World} (h : LW w s A q x An cn Ak ck W) : W.cell? ⟨q, 0, none⟩ = some (.int .u64 (x.num : Nat)) ∧ W.cell? ⟨q, 1, none⟩ = some (.string x.bs) ∧ W.cell? ⟨q, 2, none⟩ = some (.slice An x.nl cn) ∧ W.cell? ⟨q, 3, none⟩ = some (.slice Ak x.kl ck) :=
  ⟨h.box.c0, h.box.c1, h.box.c2, h.box.c3⟩
/-- A struct by numbers is put into its box. -/
theorem LW.of_made {w W : World} {d : Nat} {s : Sch} {A : Option Addr} {t : Nat} {x : Tr} {An Ak : Option Addr} {cn ck : Nat} {w1 : World} (h : MadeQ w1 d s A t x An Ak W) (hE : Cs.ErrT w) (hb : Below w.heap.size w w1) : LW w s A W.heap.size x An cn Ak ck (W.alloc (.cells #[.int .u64 ((x).num : Nat), .string (x).bs, .slice An (x).nl cn, .slice Ak (x).kl ck] 34)) := by
  have hB := Below.step hb h.be hb.size
  exact ⟨h.sat.below ((Below.refl _ _).alloc (Nat.le_refl _) _), hE.below (hB.alloc hB.size _), cell4_box W x An cn Ak ck, by simp, (h.tat.below ((Below.refl _ _).alloc (Nat.le_refl _) _)).mono fun _ _ _ => trivial, hB.alloc hB.size _⟩
theorem spec_row (w : World) (A1 : Option Addr) (L1 c1 : Nat) (A2 : Option Addr) (L2 c2 : Nat) (T : Int) : (w.alloc (.cells #[.slice A1 L1 c1, .slice A2 L2 c2, .int .i64 T] 24)).rowIs w.heap.size 24 3 (fun j => if j = 0 then .slice A1 L1 c1 else if j = 1 then .slice A2 L2 c2 else .int .i64 T) := World.rowIs_alloc w #[.slice A1 L1 c1, .slice A2 L2 c2, .int .i64 T] 24 _ (by intro j hj; match j, hj with | 0, _ => rfl | 1, _ => rfl | 2, _ => rfl)

set_option maxRecDepth 100000 in
set_option maxHeartbeats 4000000 in
theorem lawParts_any (A1 : Option Addr) (L1 c1 : Nat) (A2 : Option Addr) (L2 c2 : Nat) (T : Int) (w : World) (hE : Cs.ErrT w) (hN1 : NumsAt w A1 L1 c1) (hN2 : NumsAt w A2 L2 c2) :
    Calls Tryd.prog 7 #[.agg #[.slice A1 L1 c1, .slice A2 L2 c2, .int .i64 T]] w fun e w' => e = .returned (.bool true) ∧ Below w.heap.size w w' := by
  have HE := Lib.hid hE
  have H1 := Lib.hid hN1
  have H2 := Lib.hid hN2
  clear hE hN1 hN2
  go_enter Tryd.func7, Tryd.ntmps7
  go_wp2_with fail
  refine (awake_any _ (HE.out.below ((Below.refl _ _).alloc (Nat.le_refl _) _))).mono ?_
  rintro e w1 ⟨rfl, hb⟩
  have HB1 := Lib.hid (Below.step (B := w.heap.size) (a := w) (by (repeat (first | with_reducible exact Below.refl _ _ | with_reducible refine Below.drew ?_ | (with_reducible refine Below.setCell ?_ ?side _; case side => exact (by first | (simp; done) | (simp; omega) | omega)) | (with_reducible refine Below.alloc ?_ ?side _; case side => exact (by first | (simp; done) | (simp; omega) | omega))))) hb (by first | (simp; done) | (simp; omega) | omega))
  have hr := (spec_row w A1 L1 c1 A2 L2 c2 T).of_block (hb.block _ (by simp))
  have b0 : w1.cell? ⟨w.heap.size, 0, none⟩ = some (.slice A1 L1 c1) := hr.cell (i := 0) (by omega)
  have b1 : w1.cell? ⟨w.heap.size, 1, none⟩ = some (.slice A2 L2 c2) := hr.cell (i := 1) (by omega)
  have b2 : w1.cell? ⟨w.heap.size, 2, none⟩ = some (.int .i64 T) := hr.cell (i := 2) (by omega)
  clear hr hb
  go_wp2_with fail
  clear b0 b1 b2
  refine (smade_any 3 4 A1 L1 c1 A2 L2 c2 T _ (H1.out.below HB1.out) (H2.out.below HB1.out) (by omega) (by omega) (by omega)).mono ?_
  rintro e w2 ⟨s, A, c, t, x, An, cn, Ak, ck, rfl, hQ⟩
  have K0 := Lib.hid (LW.of_made (cn := cn) (ck := ck) hQ HE.out HB1.out)
  have HSM := Lib.hid hQ.sm
  have HM := Lib.hid hQ.made
  have HR := Lib.hid hQ.right
  have ht := hQ.lt
  have hx5 := hQ.sm.le.2.2.2
  have HX : Hid (chkC s t x = 0) := Lib.hid (by rw [chkC_ok HR.out ht]; exact HM.out.chk (by omega))
  clear hQ
  go_wp2
  generalize w2.heap.size = q at K0 ⊢
  go_loopw [7] (fun iv wr => ∃ i : Nat, i ≤ x.kl ∧ iv = .int .i64 i ∧ Hid (LW w s A q x An cn Ak ck wr)) (fun iv _ => x.kl - (intOf iv).toNat)
  case atStart => exact ⟨0, by omega, rfl, K0⟩
  case round =>
    clear K0
    obtain ⟨i, hi, rfl, K1⟩ := hrel
    obtain ⟨v0, v1, v2, v3⟩ := K1.out.all
    by_cases hi1 : i < x.kl
    · go_wp2_with fail
      clear v0 v1 v2 v3
      refine (parts_any s HR.out A c t 3 x An Ak cn ck _ i _ ht HM.out (by omega) HSM.out K1.out.sat K1.out.et K1.out.tat hi1).mono ?_
      rintro e w3 ⟨rfl, hb⟩
      have K2 := Lib.hid (K1.out.below hb)
      clear hb
      go_wp2
      go_roundw
      case rel => exact ⟨i + 1, by omega, by go_num, K2⟩
      case measure => simp [intOf]; omega
    · have HG1 : Hid (getC s t x [(x.kl : Int)] = (0, 1)) := Lib.hid (by rw [getC_ok HX.out (by simp)]; exact getT_no (by omega))
      have HG0 : Hid (getC s t x [] = (0, 1)) := Lib.hid (by rw [getC, if_pos HX.out, if_pos rfl])
      have l0 := K1.out.lt
      go_wp2_with fail
      clear v0 v1 v2 v3 l0
      (with_reducible refine (tget_1 s _ c t x An _ cn ck _ x.kl _ _ ?_ K1.out.sat HSM.out K1.out.tat).mono ?_)
      · simp
      rintro e w3 ⟨rfl, hb⟩
      have K2 := Lib.hid (K1.out.step hb)
      clear hb
      rw [HG1.out, gotV_1]
      obtain ⟨v0, v1, v2, v3⟩ := K2.out.all
      go_wp2_with fail
      clear v0 v1 v2 v3
      refine (tget_any s A c t x An Ak cn ck _ none 0 [] _ K2.out.sat HSM.out K2.out.tat (fun h => absurd h (Nat.lt_irrefl 0)) (Nat.le_refl _) (Nat.zero_le _)).mono ?_
      rintro e w4 ⟨rfl, hb⟩
      have K3 := Lib.hid (K2.out.below hb)
      clear hb
      rw [HG0.out, gotV_1]
      go_wp2_with fail
      refine (top_one 1 (by omega) _ K3.out.et).mono ?_
      rintro e w5 ⟨rfl, hb⟩
      have K4 := Lib.hid (K3.out.below hb)
      clear hb
      go_wp2_with fail
      refine (top_one 1 (by omega) _ K4.out.et).mono ?_
      rintro e w6 ⟨rfl, hb⟩
      have K5 := Lib.hid (K4.out.below hb)
      clear hb
      go_wp2
      go_ret
      exact ⟨rfl, K5.out.be⟩

end Go.Proofs.YtkjplbekccmdnaaDoor
