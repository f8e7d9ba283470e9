/- The chapter's example is right. -/
import Derived.Test.YthcachmcjekckaaDoorVLawM
import Derived.Test.YthcachmcjekckaaDoorVOne
import Derived.Test.YthcachmcjekckaaDoorBAwake
namespace Go.Proofs.YthcachmcjekckaaDoor
open Go.ChangeShapes Go.WideShapes Go.ChangeAt Go.RowKit
theorem exW_look : lookP exS6 (nth exW) 5 = ([], 4) := by
  have hc : chk exS6 5 0 exT = 0 := by
    have h : chkC exS6 ((0 : Nat) : Int) exT = chk exS6 5 0 exT := chkC_ok exS6_right (by decide) exT
    rw [← h]
    exact exT_chk
  have h := lookP_built exS6_right (t := 0) (by decide) hc (by rw [exT_wds]; omega)
  have e := exT_msg
  rw [bmsg, if_pos exT_code, Int.toNat_zero] at e
  rw [exT_wds, e] at h
  exact h
set_option maxRecDepth 100000 in
set_option maxHeartbeats 2000000 in
theorem awake8_any (w : World) (hE : Cs.ErrT w) : Calls Tryd.prog 14 #[] w fun e w' => e = .returned (.bool true) ∧ Below w.heap.size w w' := by
  have HE := Lib.hid hE
  clear hE
  have HS := Lib.hid (exS6_at w)
  go_enter Tryd.func14, Tryd.ntmps14
  go_wp2_with fail
  have hz : ((w.alloc (.cells #[.int .i64 1, .int .i64 0, .int .i64 3, .int .i64 0] 24)).alloc (.cells #[.slice (some ⟨w.heap.size, 0, none⟩) 2 2] 25)).heap.size = w.heap.size + 1 + 1 := by simp
  generalize hW : ((w.alloc (.cells #[.int .i64 1, .int .i64 0, .int .i64 3, .int .i64 0] 24)).alloc (.cells #[.slice (some ⟨w.heap.size, 0, none⟩) 2 2] 25)) = W1 at HS hz ⊢
  have HB1 : Hid (Below w.heap.size w W1) := Lib.hid (by rw [← hW]; exact (by (repeat (first | with_reducible exact Below.refl _ _ | with_reducible refine Below.drew ?_ | (with_reducible refine Below.setCell ?_ ?side _; case side => exact (by first | (simp; done) | (simp; omega) | omega)) | (with_reducible refine Below.alloc ?_ ?side _; case side => exact (by first | (simp; done) | (simp; omega) | omega))))))
  clear hW
  have hcall := vcheck_any exS6 (some ⟨w.heap.size + 1, 0, none⟩) 1 (some ⟨W1.heap.size, 0, none⟩) 5 5 (nth exW) _ (HS.out.below ((Below.refl _ _).alloc (Nat.le_refl _) _)) (exW_row W1) (by omega)
  rw [exW_look, hz] at hcall
  refine hcall.mono ?_
  rintro e w2 ⟨rfl, hb⟩
  rw [show Cs.enc (([], 4) : List (Int × Int) × Nat).1 = .nilIface from rfl]
  have HB2 := Lib.hid (Below.step (B := w.heap.size) (a := w) (HB1.out.alloc HB1.out.size (.cells #[.int .u64 5, .int .u64 7, .int .u64 8589934593, .int .u64 5, .int .u64 6] 28)) hb (by have := HB1.out.size; simp; omega))
  have HS2 := Lib.hid ((HS.out.below ((Below.refl _ _).alloc (Nat.le_refl _) _)).below hb)
  clear hb hcall HS HB1 hz
  go_wp2_with fail
  refine (top_none _ (HE.out.below HB2.out)).mono ?_
  rintro e w3 ⟨rfl, hb⟩
  have HB3 := Lib.hid (Below.step HB2.out hb HB2.out.size)
  have HS3 := Lib.hid (HS2.out.below hb)
  clear hb HB2 HS2
  go_wp2_with fail
  have hcall := visits_any exS6 (some ⟨w.heap.size + 1, 0, none⟩) 1 (some ⟨w3.heap.size, 0, none⟩) 5 5 (nth exW) _ (HS3.out.below ((Below.refl _ _).alloc (Nat.le_refl _) _)) (exW_row w3) (by omega)
  rw [exW_look] at hcall
  refine hcall.mono ?_
  rintro e w4 ⟨rfl, hb⟩
  have HB4 := Lib.hid (Below.step (B := w.heap.size) (a := w) (HB3.out.alloc HB3.out.size (.cells #[.int .u64 5, .int .u64 7, .int .u64 8589934593, .int .u64 5, .int .u64 6] 28)) hb (by have := HB3.out.size; simp; omega))
  clear hb hcall
  go_wp2
  go_ret
  exact ⟨rfl, HB4.out⟩

end Go.Proofs.YthcachmcjekckaaDoor
