/- A struct by numbers, of a schema by numbers: which schema it is. -/
import Derived.Test.YtifbaphfjamdlaaDoorQMadeD
import Derived.Test.YtifbaphfjamdlaaDoorTMade2
namespace Go.Proofs.YtifbaphfjamdlaaDoor
open Go.ChangeShapes Go.WideShapes Go.ChangeAt Go.RowKit
/-- The type that a number tells. -/
def tz (T : Int) (n : Nat) : Nat := ((wrap64 (T.tmod (n : Int) + (n : Int))).tmod (n : Int)).toNat
set_option maxRecDepth 100000 in
set_option maxHeartbeats 2000000 in
theorem s7madez_any (d : Nat) (D : Int) (A1 : Option Addr) (L1 c1 : Nat) (A2 : Option Addr) (L2 c2 : Nat) (T : Int) (zs : Nat → Int) (w : World) (hZ1 : IRowZ w A1 L1 zs) (hN1 : NumsAt w A1 L1 c1) (hN2 : NumsAt w A2 L2 c2) (hd : d ≤ 6) (hD1 : D ≤ d + 1) (hD2 : d + 1 ≤ D) :
    Calls Tryd.prog 15 #[.agg #[.slice A1 L1 c1, .slice A2 L2 c2, .int .i64 T], .int .i64 D] w fun e w' => ∃ (s : Sch) (A : Option Addr) (c t : Nat) (x : Tr) (An : Option Addr) (cn : Nat) (Ak : Option Addr) (ck : Nat), e = .returned (.tuple #[.slice A s.n c, .int .i64 (t : Int), (.agg #[.int .u64 ((x).num : Nat), .string (x).bs, .slice An (x).nl cn, .slice Ak (x).kl ck])]) ∧ MadeQ w (d + 1) s A t x An Ak w' ∧ Hid (s = madeZ zs L1 ∧ t = tz T s.n) := by
  have HZ1 := Lib.hid hZ1
  have H2 := Lib.hid hN2
  have hm1 := hN1.max
  have hm2 := hN2.max
  have hc2 := hN2.cap
  clear hN1 hN2 hZ1
  go_enter Tryd.func15, Tryd.ntmps15
  go_wp2_with fail
  refine (madez_any A1 L1 c1 zs _ hm1 (HZ1.out.below (by (repeat (first | with_reducible exact Below.refl _ _ | with_reducible refine Below.drew ?_ | (with_reducible refine Below.setCell ?_ ?side _; case side => exact (by first | (simp; done) | (simp; omega) | omega)) | (with_reducible refine Below.alloc ?_ ?side _; case side => exact (by first | (simp; done) | (simp; omega) | omega))))))).mono ?_
  rintro e w1 ⟨s, A, c, rfl, HSE, hR, hn4, h4, hS, hb⟩
  have hbx0 := ((World.rowIs_alloc w #[.slice A1 L1 c1, .slice A2 L2 c2, .int .i64 T] 24 (fun j => if j = 0 then .slice A1 L1 c1 else if j = 1 then .slice A2 L2 c2 else .int .i64 T) (by intro j hj; match j, hj with | 0, _ => rfl | 1, _ => rfl | 2, _ => rfl)).alloc (.cells #[.int .u64 0, .string ⟨#[]⟩, .slice none 0 0, .slice none 0 0] 32))
  have hz0 := zero_row (w.alloc (.cells #[.slice A1 L1 c1, .slice A2 L2 c2, .int .i64 T] 24))
  simp only [World.size_alloc] at hz0
  have hbx := hbx0.of_block (hb.block _ hbx0.lt)
  have hzx := hz0.of_block (hb.block _ hz0.lt)
  have b1 : w1.cell? ⟨w.heap.size, 1, none⟩ = some (.slice A2 L2 c2) := hbx.cell (i := 1) (by simp)
  have b2 : w1.cell? ⟨w.heap.size, 2, none⟩ = some (.int .i64 T) := hbx.cell (i := 2) (by simp)
  have HZ := Lib.hid hzx
  have HR := Lib.hid hR
  have H4 := Lib.hid h4
  have HS := Lib.hid hS
  have HB := Lib.hid (Below.step (B := w.heap.size) (a := w) (by (repeat (first | with_reducible exact Below.refl _ _ | with_reducible refine Below.drew ?_ | (with_reducible refine Below.setCell ?_ ?side _; case side => exact (by first | (simp; done) | (simp; omega) | omega)) | (with_reducible refine Below.alloc ?_ ?side _; case side => exact (by first | (simp; done) | (simp; omega) | omega))))) hb (by first | (simp; done) | (simp; omega) | omega))
  have hn1 := hR.1
  clear hbx0 hz0 hbx hzx hR h4 hS hb
  obtain ⟨n, HNN⟩ : ∃ n, Hid (s.n = n) := ⟨_, Lib.hid rfl⟩
  rw [HNN.out] at hn1 hn4 ⊢
  obtain ⟨t, ht, hte⟩ := rest T n hn1 (by omega)
  have HTE : Hid (t = tz T n) := Lib.hid (by rw [tz, hte]; rfl)
  have hn0 : ((n : Int) == 0) = false := by simp; omega
  have hn0' : ((n : Int) = 0) = False := by simp; omega
  have hn0'' : (n = 0) = False := by simp; omega
  have hR6 := r6Made_any s HR.out A c d t D
  rw [HNN.out] at hR6
  have HR6 := Lib.hid hR6
  clear hR6
  by_cases h60 : 90 < L2
  · have d60 : decide ((90 : Int) < (L2 : Int)) = true := by simp; omega
    have hc60 : (90 : Int) ≤ (c2 : Int) := by omega
    go_wp2_with fail
    clear hte hn0 hn0' hn0'' d60 hc60 b1 b2
    refine (HR6.out A2 90 c2 _ ht HS.out ((H2.out.cut90 (by omega)).below HB.out) hd hD1 hD2).mono ?_
    rintro e w2 ⟨x, An, cn, Ak, ck, rfl, hMd, hT, hb⟩
    have hz2 := HZ.out.of_block (hb.block _ HZ.out.lt)
    have HSz := Lib.hid HZ.out.lt
    have HM := Lib.hid hMd
    have HT := Lib.hid hT
    have HB2 := Lib.hid hb
    have r0 : w2.cell? ⟨w.heap.size + 1, 0, none⟩ = some (.int .u64 0) := hz2.cell (i := 0) (by omega)
    have r1 : w2.cell? ⟨w.heap.size + 1, 1, none⟩ = some (.string ⟨#[]⟩) := hz2.cell (i := 1) (by omega)
    have r2 : w2.cell? ⟨w.heap.size + 1, 2, none⟩ = some (.slice none 0 0) := hz2.cell (i := 2) (by omega)
    have r3 : w2.cell? ⟨w.heap.size + 1, 3, none⟩ = some (.slice none 0 0) := hz2.cell (i := 3) (by omega)
    have rf := hz2.frozen
    have HZ2 := Lib.hid hz2
    clear hz2 hMd hT hb
    go_wp2
    have r := (((HZ2.out.set 0 (.int .u64 (x.num : Nat))).set 1 (.string x.bs)).set 2 (.slice An x.nl cn)).set 3 (.slice Ak x.kl ck)
    have hQ := madeq_store HR.out H4.out HS.out (by rw [HNN.out]; exact ht) HM.out HT.out HB.out HB2.out HSz.out HZ2.out (.int .u64 (x.num : Nat)) (.string x.bs) (.slice An x.nl cn) (.slice Ak x.kl ck)
    generalize (((w2.setCell ⟨w.heap.size + 1, 0, none⟩ (.int .u64 (x.num : Nat))).setCell ⟨w.heap.size + 1, 1, none⟩ (.string x.bs)).setCell ⟨w.heap.size + 1, 2, none⟩ (.slice An x.nl cn)).setCell ⟨w.heap.size + 1, 3, none⟩ (.slice Ak x.kl ck) = W9 at r hQ ⊢
    have g0 : W9.cell? ⟨w.heap.size + 1, 0, none⟩ = some (.int .u64 (x.num : Nat)) := r.cell (i := 0) (by omega)
    have g1 : W9.cell? ⟨w.heap.size + 1, 1, none⟩ = some (.string x.bs) := r.cell (i := 1) (by omega)
    have g2 : W9.cell? ⟨w.heap.size + 1, 2, none⟩ = some (.slice An x.nl cn) := r.cell (i := 2) (by omega)
    have g3 : W9.cell? ⟨w.heap.size + 1, 3, none⟩ = some (.slice Ak x.kl ck) := r.cell (i := 3) (by omega)
    exact bodyPost_ret (v := .tuple #[.slice A n c, .int .i64 (t : Int), (.agg #[.int .u64 ((x).num : Nat), .string (x).bs, .slice An (x).nl cn, .slice Ak (x).kl ck])]) (by simp [results, Tryd.results15, go_sem, g0, g1, g2, g3]) rfl ⟨s, A, c, t, x, An, cn, Ak, ck, by rw [HNN.out], hQ, Lib.hid ⟨HSE.out, by rw [HNN.out]; exact HTE.out⟩⟩
  · have d60 : decide ((90 : Int) < (L2 : Int)) = false := by simp; omega
    go_wp2_with fail
    clear hte hn0 hn0' hn0'' d60 b1 b2
    refine (HR6.out A2 L2 c2 _ ht HS.out (H2.out.below HB.out) hd hD1 hD2).mono ?_
    rintro e w2 ⟨x, An, cn, Ak, ck, rfl, hMd, hT, hb⟩
    have hz2 := HZ.out.of_block (hb.block _ HZ.out.lt)
    have HSz := Lib.hid HZ.out.lt
    have HM := Lib.hid hMd
    have HT := Lib.hid hT
    have HB2 := Lib.hid hb
    have r0 : w2.cell? ⟨w.heap.size + 1, 0, none⟩ = some (.int .u64 0) := hz2.cell (i := 0) (by omega)
    have r1 : w2.cell? ⟨w.heap.size + 1, 1, none⟩ = some (.string ⟨#[]⟩) := hz2.cell (i := 1) (by omega)
    have r2 : w2.cell? ⟨w.heap.size + 1, 2, none⟩ = some (.slice none 0 0) := hz2.cell (i := 2) (by omega)
    have r3 : w2.cell? ⟨w.heap.size + 1, 3, none⟩ = some (.slice none 0 0) := hz2.cell (i := 3) (by omega)
    have rf := hz2.frozen
    have HZ2 := Lib.hid hz2
    clear hz2 hMd hT hb
    go_wp2
    have r := (((HZ2.out.set 0 (.int .u64 (x.num : Nat))).set 1 (.string x.bs)).set 2 (.slice An x.nl cn)).set 3 (.slice Ak x.kl ck)
    have hQ := madeq_store HR.out H4.out HS.out (by rw [HNN.out]; exact ht) HM.out HT.out HB.out HB2.out HSz.out HZ2.out (.int .u64 (x.num : Nat)) (.string x.bs) (.slice An x.nl cn) (.slice Ak x.kl ck)
    generalize (((w2.setCell ⟨w.heap.size + 1, 0, none⟩ (.int .u64 (x.num : Nat))).setCell ⟨w.heap.size + 1, 1, none⟩ (.string x.bs)).setCell ⟨w.heap.size + 1, 2, none⟩ (.slice An x.nl cn)).setCell ⟨w.heap.size + 1, 3, none⟩ (.slice Ak x.kl ck) = W9 at r hQ ⊢
    have g0 : W9.cell? ⟨w.heap.size + 1, 0, none⟩ = some (.int .u64 (x.num : Nat)) := r.cell (i := 0) (by omega)
    have g1 : W9.cell? ⟨w.heap.size + 1, 1, none⟩ = some (.string x.bs) := r.cell (i := 1) (by omega)
    have g2 : W9.cell? ⟨w.heap.size + 1, 2, none⟩ = some (.slice An x.nl cn) := r.cell (i := 2) (by omega)
    have g3 : W9.cell? ⟨w.heap.size + 1, 3, none⟩ = some (.slice Ak x.kl ck) := r.cell (i := 3) (by omega)
    exact bodyPost_ret (v := .tuple #[.slice A n c, .int .i64 (t : Int), (.agg #[.int .u64 ((x).num : Nat), .string (x).bs, .slice An (x).nl cn, .slice Ak (x).kl ck])]) (by simp [results, Tryd.results15, go_sem, g0, g1, g2, g3]) rfl ⟨s, A, c, t, x, An, cn, Ak, ck, by rw [HNN.out], hQ, Lib.hid ⟨HSE.out, by rw [HNN.out]; exact HTE.out⟩⟩

end Go.Proofs.YtifbaphfjamdlaaDoor
