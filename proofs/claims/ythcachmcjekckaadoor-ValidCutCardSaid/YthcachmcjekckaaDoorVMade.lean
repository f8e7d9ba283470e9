/- A message by numbers. -/
import Derived.Test.YthcachmcjekckaaDoorTMade2
import Derived.Test.YthcachmcjekckaaDoorBR7
import Derived.Test.YthcachmcjekckaaDoorVOne
namespace Go.Proofs.YthcachmcjekckaaDoor
open Go.ChangeShapes Go.WideShapes Go.ChangeAt Go.RowKit
/-- What Spec.made makes: a schema, and a message of a struct of its. -/
structure MadeW (w : World) (d : Nat) (s : Sch) (A : Option Addr) (t : Nat) (x : Tr) (Aw : Option Addr) (cw : Nat) (W : World) : Prop where
  right : RightS s
  four : ∀ i, i < s.n → s.len i ≤ 4
  sat : SAt W A s
  lt : t < s.n
  made : MadeT s d t x
  row : MRow w.heap.size W Aw (bmsg s t x)
  be : Below w.heap.size w W
  cap : (bmsg s t x).length ≤ cw
theorem MadeW.below {w : World} {d : Nat} {s : Sch} {A : Option Addr} {t : Nat} {x : Tr} {Aw : Option Addr} {cw : Nat} {W W' : World} (h : MadeW w d s A t x Aw cw W) (hb : Below W.heap.size W W') : MadeW w d s A t x Aw cw W' :=
  ⟨h.right, h.four, h.sat.below hb, h.lt, h.made, h.row.below hb, Below.step h.be hb h.be.size, h.cap⟩
theorem spec8_row (w : World) (A1 : Option Addr) (L1 c1 : Nat) (A2 : Option Addr) (L2 c2 : Nat) (T : Int) : (w.alloc (.cells #[.slice A1 L1 c1, .slice A2 L2 c2, .int .i64 T] 42)).rowIs w.heap.size 42 3 (fun j => if j = 0 then .slice A1 L1 c1 else if j = 1 then .slice A2 L2 c2 else .int .i64 T) := World.rowIs_alloc w #[.slice A1 L1 c1, .slice A2 L2 c2, .int .i64 T] 42 _ (by intro j hj; match j, hj with | 0, _ => rfl | 1, _ => rfl | 2, _ => rfl)
set_option maxRecDepth 100000 in
set_option maxHeartbeats 4000000 in
theorem s8made_any (d : Nat) (D : Int) (A1 : Option Addr) (L1 c1 : Nat) (A2 : Option Addr) (L2 c2 : Nat) (T : Int) (w : World) (hN1 : NumsAt w A1 L1 c1) (hN2 : NumsAt w A2 L2 c2) (hd : d ≤ 5) (hD1 : D ≤ d + 1) (hD2 : d + 1 ≤ D) :
    Calls Tryd.prog 15 #[.agg #[.slice A1 L1 c1, .slice A2 L2 c2, .int .i64 T], .int .i64 D] w fun e w' => ∃ (s : Sch) (A : Option Addr) (c t : Nat) (x : Tr) (Aw : Option Addr) (cw : Nat), e = .returned (.tuple #[.slice A s.n c, .slice Aw (bmsg s t x).length cw]) ∧ MadeW w (d + 1) s A t x Aw cw w' := by
  have H1 := Lib.hid hN1
  have H2 := Lib.hid hN2
  have hm1 := hN1.max
  have hm2 := hN2.max
  have hc2 := hN2.cap
  clear hN1 hN2
  go_enter Tryd.func15, Tryd.ntmps15
  go_wp2_with fail
  refine (made_any A1 L1 c1 _ hm1 (H1.out.below (by (repeat (first | with_reducible exact Below.refl _ _ | with_reducible refine Below.drew ?_ | (with_reducible refine Below.setCell ?_ ?side _; case side => exact (by first | (simp; done) | (simp; omega) | omega)) | (with_reducible refine Below.alloc ?_ ?side _; case side => exact (by first | (simp; done) | (simp; omega) | omega)))))).row).mono ?_
  rintro e w1 ⟨s, A, c, rfl, hR, hn4, h4, hS, hb⟩
  have hbx := (spec8_row w A1 L1 c1 A2 L2 c2 T).of_block (hb.block _ (by simp))
  have b1 : w1.cell? ⟨w.heap.size, 1, none⟩ = some (.slice A2 L2 c2) := hbx.cell (i := 1) (by omega)
  have b2 : w1.cell? ⟨w.heap.size, 2, none⟩ = some (.int .i64 T) := hbx.cell (i := 2) (by omega)
  have HR := Lib.hid hR
  have H4 := Lib.hid h4
  have HS := Lib.hid hS
  have HB := Lib.hid (Below.step (B := w.heap.size) (a := w) (by (repeat (first | with_reducible exact Below.refl _ _ | with_reducible refine Below.drew ?_ | (with_reducible refine Below.setCell ?_ ?side _; case side => exact (by first | (simp; done) | (simp; omega) | omega)) | (with_reducible refine Below.alloc ?_ ?side _; case side => exact (by first | (simp; done) | (simp; omega) | omega))))) hb (by first | (simp; done) | (simp; omega) | omega))
  have hn1 := hR.1
  clear hbx hR h4 hS hb
  obtain ⟨n, HNN⟩ : ∃ n, Hid (s.n = n) := ⟨_, Lib.hid rfl⟩
  rw [HNN.out] at hn1 hn4 ⊢
  obtain ⟨t, ht, hte⟩ := rest T n hn1 (by omega)
  have hn0 : ((n : Int) == 0) = false := by simp; omega
  have hn0' : ((n : Int) = 0) = False := by simp; omega
  have hn0'' : (n = 0) = False := by simp; omega
  have hR6 := r6Made_any s HR.out A c d t D
  rw [HNN.out] at hR6
  have HR6 := Lib.hid hR6
  have hB7 := fun x An Ak cn ck w hs hS hT => r7build_cap s A c t x An Ak cn ck (d + 1) w hs hS (by omega) hT
  rw [HNN.out] at hB7
  have HB7 := Lib.hid hB7
  clear hR6 hB7
  by_cases h60 : 60 < L2
  · have d60 : decide ((60 : Int) < (L2 : Int)) = true := by simp; omega
    have hc60 : (60 : Int) ≤ (c2 : Int) := by omega
    go_wp2_with fail
    clear hte hn0 hn0' hn0'' d60 hc60 b1 b2
    refine (HR6.out A2 60 c2 _ ht HS.out ((H2.out.cut (by omega)).below HB.out) (by omega) hD1 hD2).mono ?_
    rintro e w2 ⟨x, An, cn, Ak, ck, rfl, hMd, hT, hb⟩
    have HM := Lib.hid hMd
    have HB2 := Lib.hid (Below.step HB.out hb HB.out.size)
    have HSM : Hid (Sm (2 * (d + 1)) x) := Lib.hid (hMd.sm (fun i hi => by have := H4.out i hi; omega) (by rw [HNN.out]; exact ht) (fun i j hi hj => HR.out.tlt hi hj) (by omega))
    have HT := Lib.hid (hT.mono fun _ _ _ => trivial)
    have HS2 := Lib.hid (HS.out.below hb)
    clear hMd hT hb
    go_wp2_with fail
    refine (HB7.out x An Ak cn ck _ HS2.out HSM.out HT.out).mono ?_
    rintro e w3 ⟨A', cap', rfl, hr, hb, hcp⟩
    have HRW := Lib.hid hr
    have HB3 := Lib.hid (Below.step HB2.out hb HB2.out.size)
    have HS3 := Lib.hid (HS2.out.below hb)
    have HCP := Lib.hid hcp
    clear hr hb hcp
    obtain ⟨M, HMM⟩ : ∃ M, Hid ((bmsg s t x).length = M) := ⟨_, Lib.hid rfl⟩
    rw [HMM.out]
    go_wp2
    go_ret2
    exact ⟨s, A, c, t, x, A', cap', by rw [HMM.out, HNN.out]; rfl, HR.out, H4.out, HS3.out, by rw [HNN.out]; exact ht, HM.out, ⟨HRW.out.row, fun h a e => Nat.le_trans HB2.out.size (HRW.out.new h a e)⟩, HB3.out, HCP.out⟩
  · have d60 : decide ((60 : Int) < (L2 : Int)) = false := by simp; omega
    go_wp2_with fail
    clear hte hn0 hn0' hn0'' d60 b1 b2
    refine (HR6.out A2 L2 c2 _ ht HS.out (H2.out.below HB.out) (by omega) hD1 hD2).mono ?_
    rintro e w2 ⟨x, An, cn, Ak, ck, rfl, hMd, hT, hb⟩
    have HM := Lib.hid hMd
    have HB2 := Lib.hid (Below.step HB.out hb HB.out.size)
    have HSM : Hid (Sm (2 * (d + 1)) x) := Lib.hid (hMd.sm (fun i hi => by have := H4.out i hi; omega) (by rw [HNN.out]; exact ht) (fun i j hi hj => HR.out.tlt hi hj) (by omega))
    have HT := Lib.hid (hT.mono fun _ _ _ => trivial)
    have HS2 := Lib.hid (HS.out.below hb)
    clear hMd hT hb
    go_wp2_with fail
    refine (HB7.out x An Ak cn ck _ HS2.out HSM.out HT.out).mono ?_
    rintro e w3 ⟨A', cap', rfl, hr, hb, hcp⟩
    have HRW := Lib.hid hr
    have HB3 := Lib.hid (Below.step HB2.out hb HB2.out.size)
    have HS3 := Lib.hid (HS2.out.below hb)
    have HCP := Lib.hid hcp
    clear hr hb hcp
    obtain ⟨M, HMM⟩ : ∃ M, Hid ((bmsg s t x).length = M) := ⟨_, Lib.hid rfl⟩
    rw [HMM.out]
    go_wp2
    go_ret2
    exact ⟨s, A, c, t, x, A', cap', by rw [HMM.out, HNN.out]; rfl, HR.out, H4.out, HS3.out, by rw [HNN.out]; exact ht, HM.out, ⟨HRW.out.row, fun h a e => Nat.le_trans HB2.out.size (HRW.out.new h a e)⟩, HB3.out, HCP.out⟩

end Go.Proofs.YthcachmcjekckaaDoor
