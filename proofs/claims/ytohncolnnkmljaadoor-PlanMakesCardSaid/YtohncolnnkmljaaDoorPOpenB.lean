/- Open of an arena of two words, or more, that begins with Magic. -/
import Derived.Test.YtohncolnnkmljaaDoorPOpenA
namespace Go.Proofs.YtohncolnnkmljaaDoor
open Go.RowKit
set_option maxRecDepth 100000 in
set_option maxHeartbeats 4000000 in
theorem open_bad (w : World) (p c n : Nat) (y : St) (h : ArS w p c n y) (h1 : 2 ≤ n) (h2 : n ≤ 4096) (hm : (y.f 0 != 7597137583116413295) = false) (X : V) (hX : y.f 1 = (X.toNat : Int)) (hL : Lim w) (ho : unpOk X.toNat = false) : Calls Tryd.prog 31 #[.pointer (some ⟨p, 0, none⟩)] w fun e w' => e = .returned (.tuple #[(.agg #[.int .i64 zeroC.t, .int .i64 zeroC.s, .int .i64 zeroC.l, .int .i64 zeroC.c, .int .i64 zeroC.s0, .int .i64 zeroC.n0, .int .i64 zeroC.s1, .int .i64 zeroC.n1, .int .i64 zeroC.r]), formAt 1]) ∧ Below w.heap.size w w' := by
  have HA := Lib.hid h
  have HL := Lib.hid hL
  have n1 : ((n : Int) == 0) = false := by simp; omega
  have n2 : (n == 0) = false := by simp; omega
  have n3 : (0 : Int) < (n : Int) := by omega
  have n4 : ((n : Int) == 1) = false := by simp; omega
  have n5 : (n == 1) = false := by simp; omega
  have n6 : (1 : Int) < (n : Int) := by omega
  have HX := Lib.hid hX
  clear h hL hX
  go_enter Tryd.func31, Tryd.ntmps31
  go_wp2_with fail
  refine (words_any _ p c n y (Ar.alloc HA.out _) (by omega) h2).mono ?_
  rintro e w1 ⟨g, cap, F, rfl, hg, hcap, hrow, hF, hb⟩
  have H1 := Lib.hid (Below.step (B := w.heap.size) (a := w) (by (repeat (first | with_reducible exact Below.refl _ _ | with_reducible refine Below.drew ?_ | (with_reducible refine Below.setCell ?_ ?side _; case side => exact (by first | (simp; done) | (simp; omega) | omega)) | (with_reducible refine Below.alloc ?_ ?side _; case side => exact (by first | (simp; done) | (simp; omega) | omega))))) hb (by first | (simp; done) | (simp; omega) | omega))
  have HZ := Lib.hid ((cfgAt_box w zeroC).below hb)
  have g0 := hrow.cell (i := 0) (by omega)
  have g1 := hrow.cell (i := 1) (by omega)
  rw [hF 0 (by omega)] at g0
  rw [hF 1 (by omega), HX.out] at g1
  clear hb hrow hF hg
  have k := unpack_any X w1 (HL.out.below H1.out)
  rw [unpV, unpE, if_neg (by rw [ho]; simp), if_neg (by rw [ho]; simp)] at k
  go_wp2_with fail
  refine k.mono ?_
  rintro e w2 ⟨rfl, hb⟩
  have H2 := Lib.hid (Below.step H1.out hb H1.out.size)
  have HZ2 := Lib.hid (HZ.out.below hb)
  clear hb H1 HZ k g0 g1
  have hzw := H2.out.size
  go_wp2_with fail
  have H3 : Hid (Below w.heap.size w (w2.alloc (.cells #[.int .i64 zeroC.t, .int .i64 zeroC.s, .int .i64 zeroC.l, .int .i64 zeroC.c, .int .i64 zeroC.s0, .int .i64 zeroC.n0, .int .i64 zeroC.s1, .int .i64 zeroC.n1, .int .i64 zeroC.r] 26))) := Lib.hid (by (repeat (first | with_reducible exact Below.refl _ _ | with_reducible exact H2.out | with_reducible refine Below.drew ?_ | (with_reducible refine Below.setCell ?_ ?side _; case side => exact (by have := (H2.out).size; first | (simp; done) | (simp; omega) | omega)) | (with_reducible refine Below.alloc ?_ ?side _; case side => exact (by have := (H2.out).size; first | (simp; done) | (simp; omega) | omega)))))
  have HZ3 : Hid (CfgAt (w2.alloc (.cells #[.int .i64 zeroC.t, .int .i64 zeroC.s, .int .i64 zeroC.l, .int .i64 zeroC.c, .int .i64 zeroC.s0, .int .i64 zeroC.n0, .int .i64 zeroC.s1, .int .i64 zeroC.n1, .int .i64 zeroC.r] 26)) w.heap.size zeroC) := Lib.hid (HZ2.out.alloc _)
  clear H2 HZ2
  refine (Cs.at_some _ _ _ _).mono ?_
  rintro e W3 ⟨rfl, hW⟩
  have H4 : Hid (Below w.heap.size w W3) := Lib.hid (by rw [← hW]; exact H3.out)
  have HZ4 : Hid (CfgAt W3 w.heap.size zeroC) := Lib.hid (by rw [← hW]; exact HZ3.out)
  clear hW H3 HZ3
  obtain ⟨z0, z1, z2, z3, z4, z5, z6, z7, z8⟩ := HZ4.out.cells
  have zf := HZ4.out.frozen
  go_wp2
  refine bodyPost_ret (v := .tuple #[(.agg #[.int .i64 zeroC.t, .int .i64 zeroC.s, .int .i64 zeroC.l, .int .i64 zeroC.c, .int .i64 zeroC.s0, .int .i64 zeroC.n0, .int .i64 zeroC.s1, .int .i64 zeroC.n1, .int .i64 zeroC.r]), formAt 1]) (by simp [results, Tryd.results31, go_sem, z0, z1, z2, z3, z4, z5, z6, z7, z8, zeroC, formAt]) rfl ⟨rfl, ?_⟩
  (repeat (first | with_reducible exact Below.refl _ _ | with_reducible exact H4.out | with_reducible refine Below.drew ?_ | (with_reducible refine Below.setCell ?_ ?side _; case side => exact (by have := (H4.out).size; first | (simp; done) | (simp; omega) | omega)) | (with_reducible refine Below.alloc ?_ ?side _; case side => exact (by have := (H4.out).size; first | (simp; done) | (simp; omega) | omega))))
set_option maxRecDepth 100000 in
set_option maxHeartbeats 4000000 in
theorem open_good (w : World) (p c n : Nat) (y : St) (h : ArS w p c n y) (h1 : 2 ≤ n) (h2 : n ≤ 4096) (hm : (y.f 0 != 7597137583116413295) = false) (X : V) (hX : y.f 1 = (X.toNat : Int)) (hL : Lim w) (ho : unpOk X.toNat = true) (hs : sizeC (unpC X.toNat) = (n : Int)) : Calls Tryd.prog 31 #[.pointer (some ⟨p, 0, none⟩)] w fun e w' => e = .returned (.tuple #[(.agg #[.int .i64 (unpC X.toNat).t, .int .i64 (unpC X.toNat).s, .int .i64 (unpC X.toNat).l, .int .i64 (unpC X.toNat).c, .int .i64 (unpC X.toNat).s0, .int .i64 (unpC X.toNat).n0, .int .i64 (unpC X.toNat).s1, .int .i64 (unpC X.toNat).n1, .int .i64 (unpC X.toNat).r]), .nilIface]) ∧ Below w.heap.size w w' := by
  have HA := Lib.hid h
  have HL := Lib.hid hL
  have n1 : ((n : Int) == 0) = false := by simp; omega
  have n2 : (n == 0) = false := by simp; omega
  have n3 : (0 : Int) < (n : Int) := by omega
  have n4 : ((n : Int) == 1) = false := by simp; omega
  have n5 : (n == 1) = false := by simp; omega
  have n6 : (1 : Int) < (n : Int) := by omega
  have HX := Lib.hid hX
  clear h hL hX
  go_enter Tryd.func31, Tryd.ntmps31
  go_wp2_with fail
  refine (words_any _ p c n y (Ar.alloc HA.out _) (by omega) h2).mono ?_
  rintro e w1 ⟨g, cap, F, rfl, hg, hcap, hrow, hF, hb⟩
  have H1 := Lib.hid (Below.step (B := w.heap.size) (a := w) (by (repeat (first | with_reducible exact Below.refl _ _ | with_reducible refine Below.drew ?_ | (with_reducible refine Below.setCell ?_ ?side _; case side => exact (by first | (simp; done) | (simp; omega) | omega)) | (with_reducible refine Below.alloc ?_ ?side _; case side => exact (by first | (simp; done) | (simp; omega) | omega))))) hb (by first | (simp; done) | (simp; omega) | omega))
  have HZ := Lib.hid ((cfgAt_box w zeroC).below hb)
  have g0 := hrow.cell (i := 0) (by omega)
  have g1 := hrow.cell (i := 1) (by omega)
  rw [hF 0 (by omega)] at g0
  rw [hF 1 (by omega), HX.out] at g1
  clear hb hrow hF hg
  have HR := Lib.hid (show Right (unpC X.toNat) from right_of (by rw [unpOk] at ho; simp at ho; exact ho.1))
  have k := unpack_any X w1 (HL.out.below H1.out)
  rw [unpV, unpE, if_pos ho, if_pos ho] at k
  go_wp2_with fail
  refine k.mono ?_
  rintro e w2 ⟨rfl, hb⟩
  have H2 := Lib.hid (Below.step H1.out hb H1.out.size)
  have HZ2 := Lib.hid (HZ.out.below hb)
  clear hb H1 HZ k g0 g1
  have HS := Lib.hid hs
  clear hs
  obtain ⟨x, hx⟩ : ∃ x, unpC X.toNat = x := ⟨_, rfl⟩
  rw [hx] at HR HS ⊢
  have HE := Lib.hid hx
  clear hx
  have hzw := H2.out.size
  go_wp2_with fail
  refine (size_yes x _ (HL.out.below (by (repeat (first | with_reducible exact Below.refl _ _ | with_reducible exact H2.out | with_reducible refine Below.drew ?_ | (with_reducible refine Below.setCell ?_ ?side _; case side => exact (by have := (H2.out).size; first | (simp; done) | (simp; omega) | omega)) | (with_reducible refine Below.alloc ?_ ?side _; case side => exact (by have := (H2.out).size; first | (simp; done) | (simp; omega) | omega)))))) HR.out).mono ?_
  rintro e w3 ⟨rfl, hb⟩
  have H3 := Lib.hid (Below.step (B := w.heap.size) (a := w) (by (repeat (first | with_reducible exact Below.refl _ _ | with_reducible exact H2.out | with_reducible refine Below.drew ?_ | (with_reducible refine Below.setCell ?_ ?side _; case side => exact (by have := (H2.out).size; first | (simp; done) | (simp; omega) | omega)) | (with_reducible refine Below.alloc ?_ ?side _; case side => exact (by have := (H2.out).size; first | (simp; done) | (simp; omega) | omega))))) hb (by have := (H2.out).size; first | (simp; done) | (simp; omega) | omega))
  have HZ3 := Lib.hid (CfgAt.below (HZ2.out.alloc _) hb)
  have HC3 := Lib.hid ((cfgAt_box w2 x).below hb)
  clear hb H2 HZ2
  obtain ⟨z0, z1, z2, z3, z4, z5, z6, z7, z8⟩ := HZ3.out.cells
  have zf := HZ3.out.frozen
  obtain ⟨c0, c1, c2, c3, c4, c5, c6, c7, c8⟩ := HC3.out.cells
  have dn : ((n : Int) != sizeC x) = false := by rw [HS.out]; simp
  go_wp2
  refine bodyPost_ret (v := .tuple #[(.agg #[.int .i64 x.t, .int .i64 x.s, .int .i64 x.l, .int .i64 x.c, .int .i64 x.s0, .int .i64 x.n0, .int .i64 x.s1, .int .i64 x.n1, .int .i64 x.r]), .nilIface]) (by simp [results, Tryd.results31, go_sem, z0, z1, z2, z3, z4, z5, z6, z7, z8]) rfl ⟨by rw [HE.out], ?_⟩
  (repeat (first | with_reducible exact Below.refl _ _ | with_reducible exact H3.out | with_reducible refine Below.drew ?_ | (with_reducible refine Below.setCell ?_ ?side _; case side => exact (by have := (H3.out).size; first | (simp; done) | (simp; omega) | omega)) | (with_reducible refine Below.alloc ?_ ?side _; case side => exact (by have := (H3.out).size; first | (simp; done) | (simp; omega) | omega))))
set_option maxRecDepth 100000 in
set_option maxHeartbeats 4000000 in
theorem open_len (w : World) (p c n : Nat) (y : St) (h : ArS w p c n y) (h1 : 2 ≤ n) (h2 : n ≤ 4096) (hm : (y.f 0 != 7597137583116413295) = false) (X : V) (hX : y.f 1 = (X.toNat : Int)) (hL : Lim w) (ho : unpOk X.toNat = true) (hs : ¬ sizeC (unpC X.toNat) = (n : Int)) : Calls Tryd.prog 31 #[.pointer (some ⟨p, 0, none⟩)] w fun e w' => e = .returned (.tuple #[(.agg #[.int .i64 zeroC.t, .int .i64 zeroC.s, .int .i64 zeroC.l, .int .i64 zeroC.c, .int .i64 zeroC.s0, .int .i64 zeroC.n0, .int .i64 zeroC.s1, .int .i64 zeroC.n1, .int .i64 zeroC.r]), .iface 54 (.int .i64 23)]) ∧ Below w.heap.size w w' := by
  have HA := Lib.hid h
  have HL := Lib.hid hL
  have n1 : ((n : Int) == 0) = false := by simp; omega
  have n2 : (n == 0) = false := by simp; omega
  have n3 : (0 : Int) < (n : Int) := by omega
  have n4 : ((n : Int) == 1) = false := by simp; omega
  have n5 : (n == 1) = false := by simp; omega
  have n6 : (1 : Int) < (n : Int) := by omega
  have HX := Lib.hid hX
  clear h hL hX
  go_enter Tryd.func31, Tryd.ntmps31
  go_wp2_with fail
  refine (words_any _ p c n y (Ar.alloc HA.out _) (by omega) h2).mono ?_
  rintro e w1 ⟨g, cap, F, rfl, hg, hcap, hrow, hF, hb⟩
  have H1 := Lib.hid (Below.step (B := w.heap.size) (a := w) (by (repeat (first | with_reducible exact Below.refl _ _ | with_reducible refine Below.drew ?_ | (with_reducible refine Below.setCell ?_ ?side _; case side => exact (by first | (simp; done) | (simp; omega) | omega)) | (with_reducible refine Below.alloc ?_ ?side _; case side => exact (by first | (simp; done) | (simp; omega) | omega))))) hb (by first | (simp; done) | (simp; omega) | omega))
  have HZ := Lib.hid ((cfgAt_box w zeroC).below hb)
  have g0 := hrow.cell (i := 0) (by omega)
  have g1 := hrow.cell (i := 1) (by omega)
  rw [hF 0 (by omega)] at g0
  rw [hF 1 (by omega), HX.out] at g1
  clear hb hrow hF hg
  have HR := Lib.hid (show Right (unpC X.toNat) from right_of (by rw [unpOk] at ho; simp at ho; exact ho.1))
  have k := unpack_any X w1 (HL.out.below H1.out)
  rw [unpV, unpE, if_pos ho, if_pos ho] at k
  go_wp2_with fail
  refine k.mono ?_
  rintro e w2 ⟨rfl, hb⟩
  have H2 := Lib.hid (Below.step H1.out hb H1.out.size)
  have HZ2 := Lib.hid (HZ.out.below hb)
  clear hb H1 HZ k g0 g1
  have HS := Lib.hid hs
  clear hs
  obtain ⟨x, hx⟩ : ∃ x, unpC X.toNat = x := ⟨_, rfl⟩
  rw [hx] at HR HS ⊢
  have HE := Lib.hid hx
  clear hx
  have hzw := H2.out.size
  go_wp2_with fail
  refine (size_yes x _ (HL.out.below (by (repeat (first | with_reducible exact Below.refl _ _ | with_reducible exact H2.out | with_reducible refine Below.drew ?_ | (with_reducible refine Below.setCell ?_ ?side _; case side => exact (by have := (H2.out).size; first | (simp; done) | (simp; omega) | omega)) | (with_reducible refine Below.alloc ?_ ?side _; case side => exact (by have := (H2.out).size; first | (simp; done) | (simp; omega) | omega)))))) HR.out).mono ?_
  rintro e w3 ⟨rfl, hb⟩
  have H3 := Lib.hid (Below.step (B := w.heap.size) (a := w) (by (repeat (first | with_reducible exact Below.refl _ _ | with_reducible exact H2.out | with_reducible refine Below.drew ?_ | (with_reducible refine Below.setCell ?_ ?side _; case side => exact (by have := (H2.out).size; first | (simp; done) | (simp; omega) | omega)) | (with_reducible refine Below.alloc ?_ ?side _; case side => exact (by have := (H2.out).size; first | (simp; done) | (simp; omega) | omega))))) hb (by have := (H2.out).size; first | (simp; done) | (simp; omega) | omega))
  have HZ3 := Lib.hid (CfgAt.below (HZ2.out.alloc _) hb)
  have HC3 := Lib.hid ((cfgAt_box w2 x).below hb)
  clear hb H2 HZ2
  obtain ⟨z0, z1, z2, z3, z4, z5, z6, z7, z8⟩ := HZ3.out.cells
  have zf := HZ3.out.frozen
  have dn : ((n : Int) != sizeC x) = true := by
    have := HS.out
    simp; omega
  go_wp2_with (go_at_call 58; refine (Cs.new_code 23 _ rfl).mono ?_; rintro e w' ⟨rfl, rfl⟩)
  refine bodyPost_ret (v := .tuple #[(.agg #[.int .i64 zeroC.t, .int .i64 zeroC.s, .int .i64 zeroC.l, .int .i64 zeroC.c, .int .i64 zeroC.s0, .int .i64 zeroC.n0, .int .i64 zeroC.s1, .int .i64 zeroC.n1, .int .i64 zeroC.r]), .iface 54 (.int .i64 23)]) (by simp [results, Tryd.results31, go_sem, z0, z1, z2, z3, z4, z5, z6, z7, z8, zeroC]) rfl ⟨rfl, ?_⟩
  (repeat (first | with_reducible exact Below.refl _ _ | with_reducible exact H3.out | with_reducible refine Below.drew ?_ | (with_reducible refine Below.setCell ?_ ?side _; case side => exact (by have := (H3.out).size; first | (simp; done) | (simp; omega) | omega)) | (with_reducible refine Below.alloc ?_ ?side _; case side => exact (by have := (H3.out).size; first | (simp; done) | (simp; omega) | omega))))

end Go.Proofs.YtohncolnnkmljaaDoor
