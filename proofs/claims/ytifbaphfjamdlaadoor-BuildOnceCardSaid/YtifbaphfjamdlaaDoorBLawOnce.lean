/- BuildOnce: the law's walk. -/
import Derived.Test.YtifbaphfjamdlaaDoorBLawB
import Derived.Test.YtifbaphfjamdlaaDoorBMadeD
import Derived.Test.YtifbaphfjamdlaaDoorBSameT
import Derived.Test.YtifbaphfjamdlaaDoorBOnceM2
namespace Go.Proofs.YtifbaphfjamdlaaDoor
open Go.ChangeShapes Go.WideShapes Go.ChangeAt Go.RowKit
set_option maxRecDepth 100000 in
set_option maxHeartbeats 8000000 in
theorem lawOnce_any (A1 : Option Addr) (L1 c1 : Nat) (A2 : Option Addr) (L2 c2 : Nat) (T : Int) (A3 : Option Addr) (L3 c3 : Nat) (w : World) (hE : Cs.ErrT w) (hN1 : NumsAt w A1 L1 c1) (hN2 : NumsAt w A2 L2 c2) (hN3 : NumsAt w A3 L3 c3) :
    Calls Tryd.prog 6 #[.agg #[.slice A1 L1 c1, .slice A2 L2 c2, .int .i64 T], .slice A3 L3 c3] w fun e w' => e = .returned (.bool true) ∧ Below w.heap.size w w' := by
  have HE := Lib.hid hE
  obtain ⟨zs, hz⟩ := IRow.some hN1.row
  have HZS := Lib.hid hz
  have H1 := Lib.hid hN1
  have H2 := Lib.hid hN2
  have H3 := Lib.hid hN3
  clear hE hN1 hN2 hN3 hz
  go_enter Tryd.func6, Tryd.ntmps6
  go_wp2_with fail
  refine (awake7_any _ (HE.out.below ((Below.refl _ _).alloc (Nat.le_refl _) _))).mono ?_
  rintro e w1 ⟨rfl, hb⟩
  have HB1 := Lib.hid (Below.step (B := w.heap.size) (a := w) (by (repeat (first | with_reducible exact Below.refl _ _ | with_reducible refine Below.drew ?_ | (with_reducible refine Below.setCell ?_ ?side _; case side => exact (by first | (simp; done) | (simp; omega) | omega)) | (with_reducible refine Below.alloc ?_ ?side _; case side => exact (by first | (simp; done) | (simp; omega) | omega))))) hb (by first | (simp; done) | (simp; omega) | omega))
  have hr := (spec_row w A1 L1 c1 A2 L2 c2 T).of_block (hb.block _ (by simp))
  have HSP := Lib.hid hr
  have b0 : w1.cell? ⟨w.heap.size, 0, none⟩ = some (.slice A1 L1 c1) := hr.cell (i := 0) (by omega)
  have b1 : w1.cell? ⟨w.heap.size, 1, none⟩ = some (.slice A2 L2 c2) := hr.cell (i := 1) (by omega)
  have b2 : w1.cell? ⟨w.heap.size, 2, none⟩ = some (.int .i64 T) := hr.cell (i := 2) (by omega)
  clear hr hb
  go_wp2_with fail
  clear b0 b1 b2
  refine (s7madez_any 3 4 A1 L1 c1 A2 L2 c2 T zs _ (HZS.out.below HB1.out) (H1.out.below HB1.out) (H2.out.below HB1.out) (by omega) (by omega) (by omega)).mono ?_
  rintro e w2 ⟨s, A, c, t, x, An, cn, Ak, ck, rfl, hQ, HD1⟩
  have K0 := Lib.hid (LW.of_made (cn := cn) (ck := ck) hQ HE.out HB1.out)
  have HSM := Lib.hid (hQ.sm (by omega))
  have HCK := Lib.hid (hQ.made.chk (show 4 ≤ 5 by omega))
  have HR := Lib.hid hQ.right
  have ht := hQ.lt
  have HX : Hid (chkC s t x = 0) := Lib.hid (by rw [chkC_ok hQ.right hQ.lt]; exact HCK.out)
  have HS2 := Lib.hid ((HSP.out.of_block (hQ.be.block _ HSP.out.lt)).alloc (.cells #[.int .u64 ((x).num : Nat), .string (x).bs, .slice An (x).nl cn, .slice Ak (x).kl ck] 32))
  clear hQ HSP
  obtain ⟨b0, b1, b2⟩ : _ ∧ _ ∧ _ := ⟨HS2.out.cell (i := 0) (by omega), HS2.out.cell (i := 1) (by omega), HS2.out.cell (i := 2) (by omega)⟩
  simp only [show ((1 : Nat) = 0) = False by simp, show ((2 : Nat) = 0) = False by simp, show ((2 : Nat) = 1) = False by simp, if_false, if_true] at b0 b1 b2
  go_wp2_with fail
  clear b0 b1 b2 HS2
  have K1 := Lib.hid (K0.out.below ((Below.refl _ _).alloc (Nat.le_refl _) (.cells #[.slice A1 L1 c1, .slice A3 L3 c3, .int .i64 T] 24)))
  clear K0
  generalize (w2.alloc (.cells #[.int .u64 ((x).num : Nat), .string (x).bs, .slice An (x).nl cn, .slice Ak (x).kl ck] 32)).alloc (.cells #[.slice A1 L1 c1, .slice A3 L3 c3, .int .i64 T] 24) = W1 at K1 ⊢
  generalize w2.heap.size = q at K1 ⊢
  refine (s7madez_any 3 4 A1 L1 c1 A3 L3 c3 T zs _ (HZS.out.below K1.out.be) (H1.out.below K1.out.be) (H3.out.below K1.out.be) (by omega) (by omega) (by omega)).mono ?_
  rintro e w3 ⟨s', A', c', t', z, Bn, dn, Bk, dk, rfl, hQ, HD2⟩
  have hss : s' = s := by rw [HD2.out.1, HD1.out.1]
  have htt : t' = t := by rw [HD2.out.2, HD1.out.2, hss]
  subst hss
  subst htt
  have J0 := Lib.hid (LW.of_made (cn := dn) (ck := dk) hQ HE.out K1.out.be)
  have HSM2 := Lib.hid (hQ.sm (by omega))
  have HCK2 := Lib.hid (hQ.made.chk (show 4 ≤ 5 by omega))
  have HX2 : Hid (chkC s' t' z = 0) := Lib.hid (by rw [chkC_ok HR.out ht]; exact HCK2.out)
  have K2 := Lib.hid ((K1.out.below hQ.be).below ((Below.refl _ _).alloc (Nat.le_refl _) (.cells #[.int .u64 ((z).num : Nat), .string (z).bs, .slice Bn (z).nl dn, .slice Bk (z).kl dk] 32)))
  clear hQ K1 HD1 HD2
  obtain ⟨v0, v1, v2, v3⟩ := K2.out.all
  go_wp2_with fail
  clear v0 v1 v2 v3
  generalize w3.alloc (.cells #[.int .u64 ((z).num : Nat), .string (z).bs, .slice Bn (z).nl dn, .slice Bk (z).kl dk] 32) = W3 at K2 J0 ⊢
  generalize w3.heap.size = q2 at J0 ⊢
  refine (build_any s' A c t' x An Ak cn ck 4 _ K2.out.sat HSM.out (by omega) K2.out.tat).mono ?_
  rintro e w4 ⟨Ax, ex, rfl, hrx, hb⟩
  have K3 := Lib.hid (K2.out.below hb)
  have J1 := Lib.hid (J0.out.below hb)
  have M1 := Lib.hid hrx
  clear hb hrx K2 J0
  obtain ⟨v0, v1, v2, v3⟩ := J1.out.all
  go_wp2_with fail
  clear v0 v1 v2 v3
  refine (build_any s' A c t' z Bn Bk dn dk 4 _ K3.out.sat HSM2.out (by omega) J1.out.tat).mono ?_
  rintro e w5 ⟨Az, ez, rfl, hrz, hb⟩
  have K4 := Lib.hid (K3.out.below hb)
  have J2 := Lib.hid (J1.out.below hb)
  have M2 := Lib.hid (M1.out.below hb)
  have M3 := Lib.hid hrz
  clear hb hrz K3 J1 M1
  have hcode : ∀ y : Tr, chkC s' t' y = 0 → (bcode s' t' y = 21 ∨ bcode s' t' y = 0 ∧ bmsg s' t' y = msgL s' t' y) := fun y hy => by
    by_cases hl : 200 < sizeC s' t' y
    · exact .inl (by rw [bcode, if_pos hy, if_pos hl])
    · have e1 : bcode s' t' y = 0 := by rw [bcode, if_pos hy, if_neg hl]
      exact .inr ⟨e1, by rw [bmsg, if_pos e1, Int.toNat_natCast]⟩
  rcases hcode x HX.out with hx | ⟨hx, hmx⟩
  · rw [hx]
    clear hcode hx
    go_wp2_with fail
    refine (top_err 21 _ K4.out.et).mono ?_
    rintro e w6 ⟨rfl, hb⟩
    have K5 := Lib.hid (K4.out.below hb)
    clear hb
    go_wp2_with fail
    refine (top_err 21 _ K5.out.et).mono ?_
    rintro e w7 ⟨rfl, hb⟩
    have K6 := Lib.hid (K5.out.below hb)
    clear hb
    go_wp2
    go_ret
    exact ⟨rfl, K6.out.be⟩
  · rw [hx, errV_0]
    rcases hcode z HX2.out with hz | ⟨hz, hmz⟩
    · rw [hz]
      clear hcode hx hz hmx
      go_wp2_with fail
      refine (top_none _ K4.out.et).mono ?_
      rintro e w6 ⟨rfl, hb⟩
      have K5 := Lib.hid (K4.out.below hb)
      clear hb
      go_wp2_with fail
      refine (top_err 21 _ K5.out.et).mono ?_
      rintro e w7 ⟨rfl, hb⟩
      have K6 := Lib.hid (K5.out.below hb)
      clear hb
      go_wp2_with fail
      refine (top_none _ K6.out.et).mono ?_
      rintro e w8 ⟨rfl, hb⟩
      have K7 := Lib.hid (K6.out.below hb)
      clear hb
      go_wp2_with fail
      refine (top_err 21 _ K7.out.et).mono ?_
      rintro e w9 ⟨rfl, hb⟩
      have K8 := Lib.hid (K7.out.below hb)
      clear hb
      go_wp2
      go_ret
      exact ⟨rfl, K8.out.be⟩
    · rw [hz, errV_0]
      have hlx := bmsg_le s' t' x
      rw [hmx] at M2 hlx ⊢
      rw [hmz] at M3 ⊢
      have HEQ := Lib.hid (msg_same HR.out ht HCK.out HCK2.out)
      clear hcode hx hz hmx hmz
      go_wp2_with fail
      refine (top_none _ K4.out.et).mono ?_
      rintro e w6 ⟨rfl, hb⟩
      have K5 := Lib.hid (K4.out.below hb)
      have J3 := Lib.hid (J2.out.below hb)
      have M4 := Lib.hid (M2.out.below hb)
      have M5 := Lib.hid (M3.out.below hb)
      clear hb K4 J2 M2 M3
      go_wp2_with fail
      refine (top_none _ K5.out.et).mono ?_
      rintro e w7 ⟨rfl, hb⟩
      have K6 := Lib.hid (K5.out.below hb)
      have J4 := Lib.hid (J3.out.below hb)
      have M6 := Lib.hid (M4.out.below hb)
      have M7 := Lib.hid (M5.out.below hb)
      clear hb K5 J3 M4 M5
      go_wp2_with fail
      refine (same_any _ _ _ _ _ _ _ _ _ (by omega) M6.out.row M7.out.row).mono ?_
      rintro e w8 ⟨rfl, hb⟩
      have K7 := Lib.hid (K6.out.below hb)
      have J5 := Lib.hid (J4.out.below hb)
      clear hb K6 J4 M6 M7
      rw [HEQ.out]
      obtain ⟨v0, v1, v2, v3⟩ := K7.out.all
      obtain ⟨u0, u1, u2, u3⟩ := J5.out.all
      go_wp2_with fail
      clear v0 v1 v2 v3 u0 u1 u2 u3
      refine (r6same_any 8 x z An Ak Bn Bk cn ck dn dk _ HSM.out HSM2.out K7.out.tat J5.out.tat).mono ?_
      rintro e w9 ⟨rfl, hb⟩
      have K8 := Lib.hid (K7.out.below hb)
      clear hb
      cases sameTB x z
      · go_wp2
        go_ret
        exact ⟨rfl, K8.out.be⟩
      · go_wp2
        go_ret
        exact ⟨rfl, K8.out.be⟩

end Go.Proofs.YtifbaphfjamdlaaDoor
