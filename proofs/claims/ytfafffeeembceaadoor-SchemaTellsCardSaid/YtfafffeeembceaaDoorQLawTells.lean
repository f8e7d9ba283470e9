/- SchemaTells: the law's own walk. -/
import Derived.Test.YtfafffeeembceaaDoorQTells
namespace Go.Proofs.YtfafffeeembceaaDoor
open Go.RowKit
/-- The law's variables: the schema that was made, which type and field (at b), the schema that was handed in. -/
structure LT (w0 : World) (A : Option Addr) (s : Sch) (A0 : Option Addr) (s0 : Sch) (b : Nat) (q0 q1 : Int) (W : World) : Prop where
  tw : TW w0 A s b q0 q1 W
  raw : RawAt W A0 s0
theorem LT.below {w0 : World} {A : Option Addr} {s : Sch} {A0 : Option Addr} {s0 : Sch} {b : Nat} {q0 q1 : Int} {W W' : World} (h : LT w0 A s A0 s0 b q0 q1 W) (hb : Below W.heap.size W W') : LT w0 A s A0 s0 b q0 q1 W' := ⟨h.tw.below hb, h.raw.below hb⟩
theorem LT.drew {w0 : World} {A : Option Addr} {s : Sch} {A0 : Option Addr} {s0 : Sch} {b : Nat} {q0 q1 : Int} {W : World} (h : LT w0 A s A0 s0 b q0 q1 W) : LT w0 A s A0 s0 b q0 q1 W.drew := h.below (Below.refl _ _).drew
theorem LT.all {w0 : World} {A : Option Addr} {s : Sch} {A0 : Option Addr} {s0 : Sch} {b : Nat} {q0 q1 : Int} {W : World} (h : LT w0 A s A0 s0 b q0 q1 W) : W.cell? ⟨b, 0, none⟩ = some (.int .i64 q0) ∧ W.cell? ⟨b, 1, none⟩ = some (.int .i64 q1) ∧ LT w0 A s A0 s0 b q0 q1 W := ⟨h.tw.c0, h.tw.c1, h⟩

set_option maxRecDepth 100000 in
set_option maxHeartbeats 8000000 in
theorem lawTells_any (s0 : Sch) (A0 : Option Addr) (c0 : Nat) (Al : Option Addr) (L cl : Nat) (q0 q1 : Int) (w : World) (hE : Cs.ErrT w) (hc : ∀ i, i < s0.n → s0.len i ≤ 9223372036854775807) (hr : RawAt w A0 s0) (hL : L ≤ 9223372036854775807) (hi : IRow w Al L) :
    Calls Tryd.prog 3 #[.slice A0 s0.n c0, .slice Al L cl, .agg #[.int .i64 q0, .int .i64 q1]] w fun e w' => e = .returned (.bool true) ∧ Below w.heap.size w w' := by
  have HE := Lib.hid hE
  have HC := Lib.hid hc
  have HR := Lib.hid hr
  have HI := Lib.hid hi
  clear hE hc hr hi
  have hQ := World.rowIs_alloc w #[.int .i64 q0, .int .i64 q1] 25 (fun j => if j = 0 then .int .i64 q0 else .int .i64 q1) (by intro j hj; match j, hj with | 0, _ => rfl | 1, _ => rfl)
  have HQ := Lib.hid hQ
  clear hQ
  go_enter Tryd.func3, Tryd.ntmps3
  go_wp2_with fail
  refine (awake5_any _).mono ?_
  rintro e w1 ⟨rfl, hb⟩
  have H1 := Lib.hid (Below.step (B := w.heap.size) (a := w) (by (repeat (first | with_reducible exact Below.refl _ _ | with_reducible refine Below.drew ?_ | (with_reducible refine Below.setCell ?_ ?side _; case side => exact (by first | (simp; done) | (simp; omega) | omega)) | (with_reducible refine Below.alloc ?_ ?side _; case side => exact (by first | (simp; done) | (simp; omega) | omega))))) hb (by first | (simp; done) | (simp; omega) | omega))
  have HQ1 := Lib.hid (HQ.out.of_block (hb.block _ HQ.out.lt))
  clear hb HQ
  go_wp2_with fail
  refine (made_any Al L cl _ hL (HI.out.below H1.out)).mono ?_
  rintro e w2 ⟨s, A, c, rfl, hright, h4, h4', hsat, hb⟩
  have H2 : Hid (LT w A s A0 s0 w.heap.size q0 q1 w2) := Lib.hid ⟨⟨hsat, HQ1.out.of_block (hb.block _ HQ1.out.lt), Below.step H1.out hb H1.out.size⟩, HR.out.below (Below.step H1.out hb H1.out.size)⟩
  clear hb H1 HQ1 hsat hright h4 h4'
  go_wp2_with fail
  go_region_held3 (fun w' => w'.cell? ⟨w.heap.size, 0, none⟩ = some (.int .i64 q0) ∧ w'.cell? ⟨w.heap.size, 1, none⟩ = some (.int .i64 q1) ∧ LT w A s A0 s0 w.heap.size q0 q1 w')
    (first | exact H2.out.drew.all | exact K1.out.all | exact K2.out.all | exact K3.out.all | exact K4.out.all | assumption)
    (first
      | (go_at_call 10; (with_reducible refine (few_any s0 A0 c0 _ HC.out H2.out.drew.raw).mono ?_); rintro e w1 ⟨A1, c1, rfl, hs1, hb⟩; have K1 := Lib.hid (H2.out.drew.below hb); have KS := Lib.hid hs1; clear hb hs1)
      | (go_at_call 9; (with_reducible refine (tells_any (cutS s0) A1 c1 q0 q1 _ (HE.out.below K1.out.tw.be) KS.out).mono ?_); rintro e w2 ⟨rfl, hb⟩; have K2 := Lib.hid (K1.out.below hb); clear hb)
      | (go_at_call 9; (with_reducible refine (tells_any s A c q0 q1 _ (HE.out.below K2.out.tw.be) K2.out.tw.sat).mono ?_); rintro e w3 ⟨rfl, hb⟩; have K3 := Lib.hid (K2.out.below hb); clear hb)
      | (go_at_call 9; (with_reducible refine (tells_any s A c (bits .and .i64 q0 3) (bits .and .i64 q1 3) _ (HE.out.below K3.out.tw.be) K3.out.tw.sat).mono ?_); rintro e w4 ⟨rfl, hb⟩; have K4 := Lib.hid (K3.out.below hb); clear hb))
  all_goals
    go_wp2
    go_ret
    exact ⟨rfl, K4.out.tw.be⟩

end Go.Proofs.YtfafffeeembceaaDoor
