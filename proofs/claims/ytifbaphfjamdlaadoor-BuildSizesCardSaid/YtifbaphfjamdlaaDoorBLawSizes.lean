/- BuildSizes: the law's walk. -/
import Derived.Test.YtifbaphfjamdlaaDoorBLawB
import Derived.Test.YtifbaphfjamdlaaDoorBPiece
import Derived.Test.YtifbaphfjamdlaaDoorTRef6b
namespace Go.Proofs.YtifbaphfjamdlaaDoor
open Go.ChangeShapes Go.WideShapes Go.ChangeAt Go.RowKit
theorem msg_head (s : Sch) (t : Nat) (x : Tr) : nth (msgL s t x) 0 = refN ((1 + wds true x : Nat) : Int) (t : Int) := by rw [msgL_piece, nth, List.getD_cons_zero]
theorem MRow.head {B : Nat} {W : World} {A : Option Addr} {L : List Nat} (h : MRow B W A L) (h0 : 0 < L.length) : ∃ b o, A = some ⟨b, o, none⟩ ∧ W.cell? ⟨b, o, none⟩ = some (.int .u64 (nth L 0 : Nat)) := by
  obtain ⟨b, o, hA, _, hc⟩ := h.row.some_ h0
  exact ⟨b, o, hA, hc 0 h0⟩
set_option maxRecDepth 100000 in
set_option maxHeartbeats 8000000 in
theorem lawSizes_any (A1 : Option Addr) (L1 c1 : Nat) (A2 : Option Addr) (L2 c2 : Nat) (T : Int) (w : World) (hE : Cs.ErrT w) (hN1 : NumsAt w A1 L1 c1) (hN2 : NumsAt w A2 L2 c2) :
    Calls Tryd.prog 5 #[.agg #[.slice A1 L1 c1, .slice A2 L2 c2, .int .i64 T]] w fun e w' => e = .returned (.bool true) ∧ Below w.heap.size w w' := by
  have HE := Lib.hid hE
  have H1 := Lib.hid hN1
  have H2 := Lib.hid hN2
  clear hE hN1 hN2
  go_enter Tryd.func5, Tryd.ntmps5
  go_wp2_with fail
  refine (awake7_any _ (HE.out.below ((Below.refl _ _).alloc (Nat.le_refl _) _))).mono ?_
  rintro e w1 ⟨rfl, hb⟩
  have HB1 := Lib.hid (Below.step (B := w.heap.size) (a := w) (by (repeat (first | with_reducible exact Below.refl _ _ | with_reducible refine Below.drew ?_ | (with_reducible refine Below.setCell ?_ ?side _; case side => exact (by first | (simp; done) | (simp; omega) | omega)) | (with_reducible refine Below.alloc ?_ ?side _; case side => exact (by first | (simp; done) | (simp; omega) | omega))))) hb (by first | (simp; done) | (simp; omega) | omega))
  have hr := (spec_row w A1 L1 c1 A2 L2 c2 T).of_block (hb.block _ (by simp))
  have b0 : w1.cell? ⟨w.heap.size, 0, none⟩ = some (.slice A1 L1 c1) := hr.cell (i := 0) (by omega)
  have b1 : w1.cell? ⟨w.heap.size, 1, none⟩ = some (.slice A2 L2 c2) := hr.cell (i := 1) (by omega)
  have b2 : w1.cell? ⟨w.heap.size, 2, none⟩ = some (.int .i64 T) := hr.cell (i := 2) (by omega)
  clear hr hb
  go_wp2_with fail
  clear b0 b1 b2
  refine (s7made_any 4 5 A1 L1 c1 A2 L2 c2 T _ (H1.out.below HB1.out) (H2.out.below HB1.out) (by omega) (by omega) (by omega)).mono ?_
  rintro e w2 ⟨s, A, c, t, x, An, cn, Ak, ck, rfl, hQ⟩
  have K0 := Lib.hid (LW.of_made (cn := cn) (ck := ck) hQ HE.out HB1.out)
  have HSM := Lib.hid (hQ.sm (by omega))
  have HX : Hid (chkC s t x = 0) := Lib.hid (by rw [chkC_ok hQ.right hQ.lt]; exact hQ.made.chk (by omega))
  have HZ : Hid (sizeC s t x = 1 + wds true x) := Lib.hid (if_pos HX.out)
  have hwl := wds_le HSM.out true
  obtain ⟨SZ, HSZ⟩ : ∃ SZ, Hid (sizeC s t x = SZ) := ⟨_, Lib.hid rfl⟩
  have hsz : SZ ≤ 1760000001 := by have h1 := HSZ.out; have h2 := HZ.out; omega
  have hsz1 : 1 ≤ SZ := by have h1 := HSZ.out; have h2 := HZ.out; omega
  have ht8 : t < 8 := by have := hQ.lt; have := hQ.right.2.1; omega
  clear hQ hwl
  go_wp2_with fail
  generalize w2.alloc (.cells #[.int .u64 ((x).num : Nat), .string (x).bs, .slice An (x).nl cn, .slice Ak (x).kl ck] 32) = W0 at K0 ⊢
  generalize w2.heap.size = q at K0 ⊢
  obtain ⟨v0, v1, v2, v3⟩ := K0.out.all
  go_wp2_with fail
  clear v0 v1 v2 v3
  refine (build_any s A c t x An Ak cn ck 5 _ K0.out.sat HSM.out (by omega) K0.out.tat).mono ?_
  rintro e w3 ⟨A', cap', rfl, hr, hb⟩
  have K1 := Lib.hid (K0.out.below hb)
  clear hb K0
  by_cases hl : 200 < SZ
  · have e1 : bcode s t x = 21 := by rw [bcode, if_pos HX.out, HSZ.out, if_pos hl]
    have e2 : bmsg s t x = [] := by rw [bmsg, if_neg (by omega)]
    rw [e1, e2]
    clear e1 e2 hr
    have d1 : decide ((200 : Int) < (SZ : Int)) = true := decide_eq_true (by omega)
    have d2 : decide (200 < SZ) = true := decide_eq_true hl
    obtain ⟨v0, v1, v2, v3⟩ := K1.out.all
    go_wp2_with fail
    clear v0 v1 v2 v3
    refine (r6size_any s A c t x An Ak cn ck 5 _ K1.out.sat HSM.out (by omega) K1.out.tat).mono ?_
    rintro e w4 ⟨rfl, hb⟩
    have K2 := Lib.hid (K1.out.below hb)
    rw [HSZ.out]
    clear hb
    go_wp2_with fail
    refine (top_err 21 _ K2.out.et).mono ?_
    rintro e w5 ⟨rfl, hb⟩
    have K3 := Lib.hid (K2.out.below hb)
    clear hb
    go_wp2
    go_ret
    exact ⟨rfl, K3.out.be⟩
  · have e1 : bcode s t x = 0 := by rw [bcode, if_pos HX.out, HSZ.out, if_neg hl]
    have e2 : (bmsg s t x).length = SZ := by rw [(bmsg_len e1).1, HSZ.out]
    have e3 : nth (bmsg s t x) 0 = refN (SZ : Int) (t : Int) := by rw [bmsg, if_pos e1, Int.toNat_natCast, msg_head, ← HZ.out, HSZ.out]
    obtain ⟨b, o, rfl, hc0⟩ := hr.head (by omega)
    rw [e1, e2, errV_0]
    rw [e3] at hc0
    have HP1 := Lib.hid (show ((refN (SZ : Int) (t : Int) % 4294967296 : Nat) : Int) = (SZ : Int) by unfold refN; omega)
    have HP2 := Lib.hid (show ((refN (SZ : Int) (t : Int) / 4294967296 : Nat) : Int) = (t : Int) by unfold refN; omega)
    have HC0 := Lib.hid hc0
    have hbl := World.block_lt_of_cell? w3 _ hc0
    clear e1 e2 e3 hr hc0
    have d1 : decide ((200 : Int) < (SZ : Int)) = false := decide_eq_false (by omega)
    have d2 : decide (200 < SZ) = false := decide_eq_false hl
    obtain ⟨v0, v1, v2, v3⟩ := K1.out.all
    go_wp2_with fail
    clear v0 v1 v2 v3
    refine (r6size_any s A c t x An Ak cn ck 5 _ K1.out.sat HSM.out (by omega) K1.out.tat).mono ?_
    rintro e w4 ⟨rfl, hb⟩
    have K2 := Lib.hid (K1.out.below hb)
    have HD0 := Lib.hid ((hb.cell (p := ⟨b, o, none⟩) hbl).trans HC0.out)
    rw [HSZ.out]
    clear hb
    go_wp2_with fail
    refine (top_none _ K2.out.et).mono ?_
    rintro e w5 ⟨rfl, hb⟩
    have K3 := Lib.hid (K2.out.below hb)
    have hd0 := (hb.cell (p := ⟨b, o, none⟩) (World.block_lt_of_cell? w4 _ HD0.out)).trans HD0.out
    clear hb
    have g1 : (0 : Int) < (SZ : Int) := by omega
    go_wp2_with fail
    refine (bpart_any _ (refN_lt _ _) _).mono ?_
    rintro e w6 ⟨rfl, rfl⟩
    rw [HP1.out, HP2.out]
    go_wp2
    go_ret
    exact ⟨rfl, K3.out.be⟩

end Go.Proofs.YtifbaphfjamdlaaDoor
