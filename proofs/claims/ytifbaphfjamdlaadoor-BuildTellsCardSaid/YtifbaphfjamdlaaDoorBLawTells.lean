/- BuildTells: the law's walk. -/
import Derived.Test.YtifbaphfjamdlaaDoorBLawB
import Derived.Test.YtifbaphfjamdlaaDoorBTells
import Derived.Test.YtifbaphfjamdlaaDoorBTellsM
import Derived.Maps.AppendAt
namespace Go.Proofs.YtifbaphfjamdlaaDoor
open Go.ChangeShapes Go.WideShapes Go.ChangeAt Go.RowKit
set_option maxRecDepth 100000 in
set_option maxHeartbeats 8000000 in
theorem lawTells_any (A1 : Option Addr) (L1 c1 : Nat) (A2 : Option Addr) (L2 c2 : Nat) (T : Int) (n1 n2 : Int) (w : World) (hE : Cs.ErrT w) (hN1 : NumsAt w A1 L1 c1) (hN2 : NumsAt w A2 L2 c2) :
    Calls Tryd.prog 3 #[.agg #[.slice A1 L1 c1, .slice A2 L2 c2, .int .i64 T], .int .i64 n1, .int .i64 n2] w fun e w' => e = .returned (.bool true) ∧ Below w.heap.size w w' := by
  have HE := Lib.hid hE
  have H1 := Lib.hid hN1
  have H2 := Lib.hid hN2
  clear hE hN1 hN2
  go_enter Tryd.func3, Tryd.ntmps3
  go_wp2_with fail
  refine (awake7_any _ (HE.out.below ((Below.refl _ _).alloc (Nat.le_refl _) _))).mono ?_
  rintro e w1 ⟨rfl, hb⟩
  have HB1 := Lib.hid (Below.step (B := w.heap.size) (a := w) (by (repeat (first | with_reducible exact Below.refl _ _ | with_reducible refine Below.drew ?_ | (with_reducible refine Below.setCell ?_ ?side _; case side => exact (by first | (simp; done) | (simp; omega) | omega)) | (with_reducible refine Below.alloc ?_ ?side _; case side => exact (by first | (simp; done) | (simp; omega) | omega))))) hb (by first | (simp; done) | (simp; omega) | omega))
  have hr := (spec_row w A1 L1 c1 A2 L2 c2 T).of_block (hb.block _ (by simp))
  have b0 : w1.cell? ⟨w.heap.size, 0, none⟩ = some (.slice A1 L1 c1) := hr.cell (i := 0) (by omega)
  have b1 : w1.cell? ⟨w.heap.size, 1, none⟩ = some (.slice A2 L2 c2) := hr.cell (i := 1) (by omega)
  have b2 : w1.cell? ⟨w.heap.size, 2, none⟩ = some (.int .i64 T) := hr.cell (i := 2) (by omega)
  clear hr hb
  go_wp2_with fail
  clear b0 b1 b2
  refine (s7made_any 5 6 A1 L1 c1 A2 L2 c2 T _ (H1.out.below HB1.out) (H2.out.below HB1.out) (by omega) (by omega) (by omega)).mono ?_
  rintro e w2 ⟨s, A, c, t, x, An, cn, Ak, ck, rfl, hQ⟩
  have HBE := Lib.hid (Below.step HB1.out hQ.be HB1.out.size)
  have HSAT := Lib.hid hQ.sat
  have HSM := Lib.hid (hQ.sm (by omega))
  have HT2 := Lib.hid hQ.tat.lt
  have hkl : 0 < x.kl := by
    have h1 := (hQ.made : MadeT s (5 + 1) t x).1.2.2.2
    have h2 := (hQ.right.2.2 t hQ.lt).1
    omega
  have hk12 := HSM.out.le.2.2.2
  clear hQ
  obtain ⟨i0, hi0, hz1, hz2, hz3⟩ := info_parts info_tree
  obtain ⟨b, off, a1, k1, a2, k2, rfl, -, hlt, hc⟩ := HT2.out.kidsF hkl
  have HC := Lib.hid hc
  clear hc
  have HN : Hid (∀ i u, (cells4 x.kf a1 k1 a2 k2 x.kl)[i]? = some u → (((w2.alloc (.cells #[.int .u64 ((x).num : Nat), .string (x).bs, .slice An (x).nl cn, .slice (some ⟨b, off, none⟩) (x).kl ck] 32)).alloc (.cells #[.int .u64 ((x).num : Nat), .string (x).bs, .slice An (x).nl cn, .slice (some ⟨b, off, none⟩) (x).kl ck] 32)).alloc (.cells #[] 32)).cell? ((⟨b, off, none⟩ : Addr).add i) = some u) := Lib.hid (cells4_cell fun j hj => (HC.out j hj).1.of_block ((show Below w2.heap.size w2 _ by (repeat (first | with_reducible exact Below.refl _ _ | with_reducible refine Below.drew ?_ | (with_reducible refine Below.setCell ?_ ?side _; case side => exact (by first | (simp; done) | (simp; omega) | omega)) | (with_reducible refine Below.alloc ?_ ?side _; case side => exact (by first | (simp; done) | (simp; omega) | omega))))).block b hlt))
  have HO : Hid ((((w2.alloc (.cells #[.int .u64 ((x).num : Nat), .string (x).bs, .slice An (x).nl cn, .slice (some ⟨b, off, none⟩) (x).kl ck] 32)).alloc (.cells #[.int .u64 ((x).num : Nat), .string (x).bs, .slice An (x).nl cn, .slice (some ⟨b, off, none⟩) (x).kl ck] 32)).alloc (.cells #[] 32)).ownsRow (w2.heap.size + 2) 32 4 (.slice (some ⟨w2.heap.size + 1 + 1, 0, none⟩) 0 0) 0 []) := Lib.hid (own_lit _ _ _ (by simp) (by simp))
  obtain ⟨M, hM, hMe⟩ : ∃ m : Nat, m ≤ 15 ∧ bits .and .i64 n2 15 = (m : Int) := and_mask n2 15 (by omega)
  obtain ⟨i, HIM⟩ : ∃ i, Hid (M % x.kl = i) := ⟨_, Lib.hid rfl⟩
  have hi : i < x.kl := by rw [← HIM.out]; exact Nat.mod_lt _ hkl
  have hti : (M : Int).tmod (x.kl : Int) = (i : Int) := by rw [← HIM.out]; rfl
  have HTC : Hid (∀ (w4 : World) (v' : Value), w4.ownsRow (w2.heap.size + 2) 32 4 v' (0 + x.kl) ([] ++ cells4 x.kf a1 k1 a2 k2 x.kl) → (((w2.alloc (.cells #[.int .u64 ((x).num : Nat), .string (x).bs, .slice An (x).nl cn, .slice (some ⟨b, off, none⟩) (x).kl ck] 32)).alloc (.cells #[.int .u64 ((x).num : Nat), .string (x).bs, .slice An (x).nl cn, .slice (some ⟨b, off, none⟩) (x).kl ck] 32)).alloc (.cells #[] 32)).grownBy w4 (some (w2.heap.size + 1 + 1)) → ∃ g cap, v' = .slice (some ⟨g, 0, none⟩) x.kl cap ∧ w4.cell? ⟨w2.heap.size + 1, 3, none⟩ = some (.slice (some ⟨b, off, none⟩) x.kl ck) ∧ w4.frozen? ⟨w2.heap.size + 1, 3, none⟩ = false ∧ TB w2 x An cn (some ⟨b, off, none⟩) ck a1 k1 a2 k2 g cap (w4.setCell ⟨w2.heap.size + 1, 3, none⟩ (.slice (some ⟨g, 0, none⟩) x.kl cap))) := Lib.hid fun w4 v' ho hg => by
    have ho9 := ho
    rw [Nat.zero_add] at ho9
    obtain ⟨g, cap, hv, hgl⟩ := own_slice ho9 hkl
    exact ⟨g, cap, hv, tells_copy (q := w2.heap.size + 1 + 1) HT2.out (fun j hj => (HC.out j hj).2) hv ho hg (by omega) hgl⟩
  go_wp2_with (at_builtin; go_loud ((refine wpList_append_own_at _ rfl _ _ 30 rfl (w2.heap.size + 2) 32 i0 (.agg #[.int .u64 0, .string ⟨#[]⟩, .slice none 0 0, .slice none 0 0]) 4 72 Tryd.underlying30 hi0 hz1 hz2 hz3 rfl (by decide) _ _ _ rfl HO.out ⟨b, off, none⟩ x.kl ck (cells4 x.kf a1 k1 a2 k2 x.kl) rfl (by rw [cells4_length]) HN.out (cells4_one _) (by unfold maxLen; omega) (by omega) (by simp) ?_); intro v' w4 hown' hgrow _ hblk; obtain ⟨g, cap, rfl, x3, xf, htb⟩ := HTC.out w4 v' hown' hgrow; have HTB := Lib.hid htb; clear hown' hgrow hblk htb))
  generalize w4.setCell ⟨w2.heap.size + 1, 3, none⟩ (.slice (some ⟨g, 0, none⟩) x.kl cap) = W5 at HTB ⊢
  clear x3 xf HO HN HTC hMe hti hi0 hz1 hz2 hz3
  have c23 := HTB.out.b2.c3
  simp only [Nat.zero_add] at c23
  have g0 : W5.cell? ⟨g, i * 4, none⟩ = some (.int .u64 ((x.kf i).num : Nat)) := (World.ownsRow.cellAt HTB.out.own (i * 4) (by omega)).trans (cells4_get x.kf a1 k1 a2 k2 x.kl i hi).1
  have gf := World.ownsRow.frozenAt HTB.out.own (i * 4)
  have q1 : (0 : Int) ≤ (i : Int) := by omega
  have q2 : (i : Int) < (x.kl : Int) := by omega
  go_region
  all_goals
    obtain ⟨N, hN, hNe⟩ := u64_nat (((x.kf i).num : Int) + IntKind.u64.wrap (bits .and .i64 (n2 / 16) 15))
    rw [hNe]
    clear hNe c23 g0 gf
    have hlg := HTB.out.lg
    have hb6 : Below w2.heap.size w2 (W5.setCell ⟨g, i * 4, none⟩ (.int .u64 (N : Int))).drew := (HTB.out.be.setCell (by show w2.heap.size ≤ g; omega) _).drew
    have hbl : ∀ k, k ≠ g → (W5.setCell ⟨g, i * 4, none⟩ (.int .u64 (N : Int))).drew.heap[k]? = W5.heap[k]? := fun k hk => Below.heap_setCell W5 ⟨g, i * 4, none⟩ _ k hk
    have t6 := (tells_tree (i := i) (N := N) rfl HTB.out.own HTB.out.kids HTB.out.nums).below (Below.refl _ _).drew
    have hbw := Below.step HBE.out hb6 HBE.out.size
    have l1 : w2.heap.size + 1 < (W5.setCell ⟨g, i * 4, none⟩ (.int .u64 (N : Int))).drew.heap.size := by
      have := (World.ownsRow.lt HTB.out.own g rfl).2
      have h2 : W5.heap.size ≤ (W5.setCell ⟨g, i * 4, none⟩ (.int .u64 (N : Int))).drew.heap.size := (((Below.refl 0 W5).setCell (Nat.zero_le _) _).drew).size
      omega
    have K1 : Hid (LW w s A w2.heap.size x An cn (some ⟨b, off, none⟩) ck (W5.setCell ⟨g, i * 4, none⟩ (.int .u64 (N : Int))).drew) := Lib.hid ⟨HSAT.out.below hb6, HE.out.below hbw, HTB.out.b1.of_block (hbl _ (by omega)), by omega, (HT2.out.below hb6).mono fun _ _ _ => trivial, hbw⟩
    have d6 := HTB.out.b2.of_block (hbl (w2.heap.size + 1) (by omega))
    have K2 : Hid (LW w s A (w2.heap.size + 1) (numAt x i N) An cn (some ⟨g, 0, none⟩) cap (W5.setCell ⟨g, i * 4, none⟩ (.int .u64 (N : Int))).drew) := Lib.hid ⟨HSAT.out.below hb6, HE.out.below hbw, ⟨d6.c0, d6.c1, d6.c2, d6.c3⟩, l1, t6, hbw⟩
    have HSM2 := Lib.hid (HSM.out.numAt i hN)
    clear hb6 hbl t6 hbw l1 d6 HTB HT2 HC
    generalize (W5.setCell ⟨g, i * 4, none⟩ (.int .u64 (N : Int))).drew = W6 at K1 K2 ⊢
    generalize w2.heap.size = qq at K1 K2 ⊢
    obtain ⟨v0, v1, v2, v3⟩ := K1.out.all
    go_wp2_with fail
    clear v0 v1 v2 v3
    refine (tells7_any s A c t x An _ cn ck 6 _ K1.out.et K1.out.sat HSM.out (by omega) K1.out.tat).mono ?_
    rintro e w7 ⟨rfl, hb⟩
    have J1 := Lib.hid (K1.out.below hb)
    have J2 := Lib.hid (K2.out.below hb)
    clear hb K1 K2
    obtain ⟨v0, v1, v2, v3⟩ := J1.out.all
    go_wp2_with fail
    clear v0 v1 v2 v3
    refine (tells7_any s A c n1 x An _ cn ck 6 _ J1.out.et J1.out.sat HSM.out (by omega) J1.out.tat).mono ?_
    rintro e w8 ⟨rfl, hb⟩
    have K1 := Lib.hid (J1.out.below hb)
    have K2 := Lib.hid (J2.out.below hb)
    clear hb J1 J2
    obtain ⟨v0, v1, v2, v3⟩ := K2.out.all
    go_wp2_with fail
    clear v0 v1 v2 v3
    refine (tells7_any s A c t (numAt x i N) An _ cn cap 6 _ K2.out.et K2.out.sat HSM2.out (by omega) K2.out.tat).mono ?_
    rintro e w9 ⟨rfl, hb⟩
    have J1 := Lib.hid (K1.out.below hb)
    clear hb K1 K2
    obtain ⟨v0, v1, v2, v3⟩ := J1.out.all
    obtain ⟨u0, u1, u2, u3⟩ := (J1.out.below ((Below.refl _ w9).alloc (Nat.le_refl _) (.cells #[] 56))).all
    go_wp2_with fail
    clear v0 v1 v2 v3 u0 u1 u2 u3
    have J2 := Lib.hid (J1.out.below ((Below.refl _ w9).alloc (Nat.le_refl _) (.cells #[] 56)))
    refine (tells7_any ⟨0, fun _ => 0, fun _ _ => 0, fun _ _ => 0⟩ _ 0 0 x An _ cn ck 6 _ J2.out.et ⟨fun h => absurd h (Nat.lt_irrefl 0)⟩ HSM.out (by omega) J2.out.tat).mono ?_
    rintro e w10 ⟨rfl, hb⟩
    have K1 := Lib.hid (J2.out.below hb)
    clear hb
    go_wp2
    go_ret
    exact ⟨rfl, K1.out.be⟩

end Go.Proofs.YtifbaphfjamdlaaDoor
