/- Unpack. -/
import Derived.Test.YtohncolnnkmljaaDoorPPack
namespace Go.Proofs.YtohncolnnkmljaaDoor
open Go.RowKit
set_option maxRecDepth 100000 in
set_option maxHeartbeats 1000000 in
theorem pconfig_any (x : Cfg) (w : World) : Calls Tryd.prog 66 #[(.agg #[.int .i64 x.t, .int .i64 x.s, .int .i64 x.l, .int .i64 x.c, .int .i64 x.r, .int .i64 x.s0, .int .i64 x.n0, .int .i64 x.s1, .int .i64 x.n1])] w fun e w' => e = .returned (.agg #[.int .i64 x.t, .int .i64 x.s, .int .i64 x.l, .int .i64 x.c, .int .i64 x.s0, .int .i64 x.n0, .int .i64 x.s1, .int .i64 x.n1, .int .i64 x.r]) ∧ Below w.heap.size w w' := by
  go_enter Tryd.func66, Tryd.ntmps66
  go_wp2
  refine bodyPost_ret (v := (.agg #[.int .i64 x.t, .int .i64 x.s, .int .i64 x.l, .int .i64 x.c, .int .i64 x.s0, .int .i64 x.n0, .int .i64 x.s1, .int .i64 x.n1, .int .i64 x.r])) (by simp [results, Tryd.results66, go_sem]) rfl ⟨rfl, ?_⟩
  (repeat (first | with_reducible exact Below.refl _ _ | with_reducible refine Below.drew ?_ | (with_reducible refine Below.setCell ?_ ?side _; case side => exact (by first | (simp; done) | (simp; omega) | omega)) | (with_reducible refine Below.alloc ?_ ?side _; case side => exact (by first | (simp; done) | (simp; omega) | omega))))

def zeroC : Cfg := ⟨0, 0, 0, 0, 0, 0, 0, 0, 0⟩
/-- The parts that Unpack has read so far. -/
def upTo (n k j : Nat) : Value := .int .i64 (if j < k then (dg n j : Int) else 0)
theorem upTo_put (n k j : Nat) : (if j = k then Value.int .i64 (dg n k : Int) else upTo n k j) = upTo n (k + 1) j := by
  unfold upTo
  by_cases e : j = k
  · subst e; simp
  · by_cases h : j < k
    · rw [if_neg e, if_pos h, if_pos (by omega)]
    · rw [if_neg e, if_neg h, if_neg (by omega)]
theorem upTo_all (n j : Nat) (h : j < 9) : upTo n 9 j = .int .i64 (dg n j : Int) := by rw [upTo, if_pos h]

/-- What Unpack answers. -/
noncomputable def unpOk (n : Nat) : Bool := rightB (unpC n) && decide (n < 9223372036854775808)
noncomputable def unpV (n : Nat) : Cfg := if unpOk n then unpC n else zeroC
noncomputable def unpE (n : Nat) : Value := if unpOk n then .nilIface else .iface 54 (.int .i64 10)

theorem drewN_row {w : World} {b t n m : Nat} {f : Nat → Value} (h : w.rowIs b t n f) : (w.drewN m).rowIs b t n f := h.of_block rfl

set_option maxRecDepth 100000 in
set_option maxHeartbeats 2000000 in
theorem unpack_any (W : V) (w : World) (hL : Lim w) : Calls Tryd.prog 40 #[.int .u64 (W.toNat : Int)] w fun e w' => e = .returned (.tuple #[(.agg #[.int .i64 (unpV W.toNat).t, .int .i64 (unpV W.toNat).s, .int .i64 (unpV W.toNat).l, .int .i64 (unpV W.toNat).c, .int .i64 (unpV W.toNat).s0, .int .i64 (unpV W.toNat).n0, .int .i64 (unpV W.toNat).s1, .int .i64 (unpV W.toNat).n1, .int .i64 (unpV W.toNat).r]), unpE W.toNat]) ∧ Below w.heap.size w w' := by
  have HL := Lib.hid hL
  clear hL
  go_enter Tryd.func40, Tryd.ntmps40
  go_wp2_with fail
  have hz : CfgAt ((w.alloc (.cells #[.int .i64 zeroC.t, .int .i64 zeroC.s, .int .i64 zeroC.l, .int .i64 zeroC.c, .int .i64 zeroC.s0, .int .i64 zeroC.n0, .int .i64 zeroC.s1, .int .i64 zeroC.n1, .int .i64 zeroC.r] 26)).alloc (.cells #[.int .i64 zeroC.t, .int .i64 zeroC.s, .int .i64 zeroC.l, .int .i64 zeroC.c, .int .i64 zeroC.s0, .int .i64 zeroC.n0, .int .i64 zeroC.s1, .int .i64 zeroC.n1, .int .i64 zeroC.r] 107)) w.heap.size zeroC := (cfgAt_box w zeroC).alloc _
  have hr : ((w.alloc (.cells #[.int .i64 zeroC.t, .int .i64 zeroC.s, .int .i64 zeroC.l, .int .i64 zeroC.c, .int .i64 zeroC.s0, .int .i64 zeroC.n0, .int .i64 zeroC.s1, .int .i64 zeroC.n1, .int .i64 zeroC.r] 26)).alloc (.cells #[.int .i64 zeroC.t, .int .i64 zeroC.s, .int .i64 zeroC.l, .int .i64 zeroC.c, .int .i64 zeroC.s0, .int .i64 zeroC.n0, .int .i64 zeroC.s1, .int .i64 zeroC.n1, .int .i64 zeroC.r] 107)).rowIs (w.heap.size + 1) 107 9 (upTo W.toNat 0) := by
    have h := World.rowIs_alloc (w.alloc (.cells #[.int .i64 zeroC.t, .int .i64 zeroC.s, .int .i64 zeroC.l, .int .i64 zeroC.c, .int .i64 zeroC.s0, .int .i64 zeroC.n0, .int .i64 zeroC.s1, .int .i64 zeroC.n1, .int .i64 zeroC.r] 26)) #[.int .i64 zeroC.t, .int .i64 zeroC.s, .int .i64 zeroC.l, .int .i64 zeroC.c, .int .i64 zeroC.s0, .int .i64 zeroC.n0, .int .i64 zeroC.s1, .int .i64 zeroC.n1, .int .i64 zeroC.r] 107 (upTo W.toNat 0) (by intro j hj; match j, hj with | 0, _ => rfl | 1, _ => rfl | 2, _ => rfl | 3, _ => rfl | 4, _ => rfl | 5, _ => rfl | 6, _ => rfl | 7, _ => rfl | 8, _ => rfl)
    simp only [World.size_alloc] at h
    exact h
  have hB : Below w.heap.size w ((w.alloc (.cells #[.int .i64 zeroC.t, .int .i64 zeroC.s, .int .i64 zeroC.l, .int .i64 zeroC.c, .int .i64 zeroC.s0, .int .i64 zeroC.n0, .int .i64 zeroC.s1, .int .i64 zeroC.n1, .int .i64 zeroC.r] 26)).alloc (.cells #[.int .i64 zeroC.t, .int .i64 zeroC.s, .int .i64 zeroC.l, .int .i64 zeroC.c, .int .i64 zeroC.s0, .int .i64 zeroC.n0, .int .i64 zeroC.s1, .int .i64 zeroC.n1, .int .i64 zeroC.r] 107)) := by (repeat (first | with_reducible exact Below.refl _ _ | with_reducible refine Below.drew ?_ | (with_reducible refine Below.setCell ?_ ?side _; case side => exact (by first | (simp; done) | (simp; omega) | omega)) | (with_reducible refine Below.alloc ?_ ?side _; case side => exact (by first | (simp; done) | (simp; omega) | omega))))
  have HZ := Lib.hid hz
  have HR := Lib.hid hr
  have HB := Lib.hid hB
  clear hz hr hB
  go_loopw [7] (fun i wr => ∃ k : Nat, k ≤ 9 ∧ i = .int .i64 k ∧ Below w.heap.size w wr ∧ CfgAt wr w.heap.size zeroC ∧ wr.rowIs (w.heap.size + 1) 107 9 (upTo W.toNat k)) (fun i _ => 9 - (intOf i).toNat)
  case atStart => exact ⟨0, by omega, rfl, HB.out, HZ.out, HR.out⟩
  case round =>
    clear HB HZ HR
    obtain ⟨k, hk, rfl, hB, hZ, hR⟩ := hrel
    have HB := Lib.hid hB
    have HZ := Lib.hid hZ
    have HR := Lib.hid hR
    clear hB hZ hR
    by_cases hlt : k < 9
    · go_wp2_with fail
      refine (get_part W k hlt _).mono ?_
      rintro e w' ⟨rfl, m, rfl⟩
      have HU := Lib.hid (upTo_put W.toNat k)
      rw [show W.toNat / 128 ^ k % 128 = dg W.toNat k from rfl]
      have hq : dg W.toNat k < 128 := Nat.mod_lt _ (by omega)
      generalize dg W.toNat k = q at HU hq ⊢
      have HB1 := Lib.hid (below_drewN HB.out m)
      have HZ1 := Lib.hid (show CfgAt (wr.drewN m) w.heap.size zeroC from drewN_row HZ.out)
      have HR1 := Lib.hid (show (wr.drewN m).rowIs (w.heap.size + 1) 107 9 (upTo W.toNat k) from drewN_row HR.out)
      clear HB HZ HR
      generalize wr.drewN m = W1 at HB1 HZ1 HR1 ⊢
      have ck := HR1.out.cell hlt
      have fk := HR1.out.frozen
      have k1 : (0 : Int) ≤ (k : Int) := by omega
      have k2 : (k : Int) < 9 := by omega
      go_wp2
      go_roundw
      case rel =>
        refine ⟨k + 1, by omega, by go_num, HB1.out.setCell (p := ⟨w.heap.size + 1, k, none⟩) (by simp) _, HZ1.out.setOther (a := ⟨w.heap.size + 1, k, none⟩) (by simp) _, (HR1.out.set k _).congr ?_⟩
        intro j _
        exact HU.out j
      case measure => simp [intOf]; omega
    · have hk9 : k = 9 := by omega
      subst hk9
      clear hk hlt
      have p0 := HR.out.cell (i := 0) (by omega)
      have p1 := HR.out.cell (i := 1) (by omega)
      have p2 := HR.out.cell (i := 2) (by omega)
      have p3 := HR.out.cell (i := 3) (by omega)
      have p4 := HR.out.cell (i := 4) (by omega)
      have p5 := HR.out.cell (i := 5) (by omega)
      have p6 := HR.out.cell (i := 6) (by omega)
      have p7 := HR.out.cell (i := 7) (by omega)
      have p8 := HR.out.cell (i := 8) (by omega)
      rw [upTo_all _ _ (by omega)] at p0 p1 p2 p3 p4 p5 p6 p7 p8
      go_wp2_with fail
      refine (pconfig_any (unpC W.toNat) _).mono ?_
      rintro e w2 ⟨rfl, hb⟩
      have HB2 := Lib.hid (Below.step HB.out hb HB.out.size)
      have HZ2 := Lib.hid (HZ.out.below hb)
      clear hb HB HZ HR p0 p1 p2 p3 p4 p5 p6 p7 p8
      have HP := Lib.hid (pack_unp W.toNat)
      have HV : Hid (unpV W.toNat = if unpOk W.toNat then unpC W.toNat else zeroC) := Lib.hid rfl
      have HE : Hid (unpE W.toNat = if unpOk W.toNat then .nilIface else .iface 54 (.int .i64 10)) := Lib.hid rfl
      have HO : Hid (unpOk W.toNat = (rightB (unpC W.toNat) && decide (W.toNat < 9223372036854775808))) := Lib.hid rfl
      generalize unpC W.toNat = x at HP HV HO ⊢
      have hzw := HB2.out.size
      by_cases hr : rightB x = true
      · go_wp2_with fail
        refine (check_yes x _ (HL.out.below (by (repeat (first | with_reducible exact Below.refl _ _ | with_reducible exact HB2.out | with_reducible refine Below.drew ?_ | (with_reducible refine Below.setCell ?_ ?side _; case side => exact (by have := (HB2.out).size; first | (simp; done) | (simp; omega) | omega)) | (with_reducible refine Below.alloc ?_ ?side _; case side => exact (by have := (HB2.out).size; first | (simp; done) | (simp; omega) | omega)))))) hr).mono ?_
        rintro e w3 ⟨rfl, hb⟩
        have HB3 := Lib.hid (Below.step (B := w.heap.size) (a := w) (by (repeat (first | with_reducible exact Below.refl _ _ | with_reducible exact HB2.out | with_reducible refine Below.drew ?_ | (with_reducible refine Below.setCell ?_ ?side _; case side => exact (by have := (HB2.out).size; first | (simp; done) | (simp; omega) | omega)) | (with_reducible refine Below.alloc ?_ ?side _; case side => exact (by have := (HB2.out).size; first | (simp; done) | (simp; omega) | omega))))) hb (by have := (HB2.out).size; first | (simp; done) | (simp; omega) | omega))
        have HC3 := Lib.hid ((cfgAt_box w2 x).below hb)
        have HZ3 := Lib.hid (CfgAt.below (HZ2.out.alloc _) hb)
        clear hb HB2 HZ2
        obtain ⟨c0, c1, c2, c3, c4, c5, c6, c7, c8⟩ := HC3.out.cells
        go_wp2_with fail
        refine (pack_yes x _ (HL.out.below HB3.out) hr).mono ?_
        rintro e w4 ⟨rfl, hb⟩
        have HB4 := Lib.hid (Below.step HB3.out hb HB3.out.size)
        have HC4 := Lib.hid (HC3.out.below hb)
        have HZ4 := Lib.hid (HZ3.out.below hb)
        clear hb HB3 HZ3 HC3 c0 c1 c2 c3 c4 c5 c6 c7 c8
        by_cases hlt : W.toNat < 9223372036854775808
        · have HN : Hid (packN x = W.toNat) := Lib.hid (by rw [HP.out]; omega)
          have hne : ((packN x : Int) != (W.toNat : Int)) = false := by rw [HN.out]; simp
          have hne' : (packN x != W.toNat) = false := by rw [HN.out]; simp
          obtain ⟨c0, c1, c2, c3, c4, c5, c6, c7, c8⟩ := HC4.out.cells
          obtain ⟨z0, z1, z2, z3, z4, z5, z6, z7, z8⟩ := HZ4.out.cells
          have zf := HZ4.out.frozen
          go_wp2
          rw [HV.out, HE.out, HO.out, show (rightB x && decide (W.toNat < 9223372036854775808)) = true by rw [hr]; simpa using hlt]
          refine bodyPost_ret (v := .tuple #[(.agg #[.int .i64 x.t, .int .i64 x.s, .int .i64 x.l, .int .i64 x.c, .int .i64 x.s0, .int .i64 x.n0, .int .i64 x.s1, .int .i64 x.n1, .int .i64 x.r]), .nilIface]) (by simp [results, Tryd.results40, go_sem, z0, z1, z2, z3, z4, z5, z6, z7, z8]) rfl ⟨rfl, ?_⟩
          (repeat (first | with_reducible exact Below.refl _ _ | with_reducible exact HB4.out | with_reducible refine Below.drew ?_ | (with_reducible refine Below.setCell ?_ ?side _; case side => exact (by have := (HB4.out).size; first | (simp; done) | (simp; omega) | omega)) | (with_reducible refine Below.alloc ?_ ?side _; case side => exact (by have := (HB4.out).size; first | (simp; done) | (simp; omega) | omega))))
        · have HN : Hid (¬ packN x = W.toNat) := Lib.hid (by rw [HP.out]; omega)
          have hne : ((packN x : Int) != (W.toNat : Int)) = true := by
            have := HN.out
            simp; omega
          have hne' : (packN x != W.toNat) = true := by simpa using HN.out
          go_wp2_with fail
          refine (Cs.new_code 10 _ rfl).mono ?_
          rintro e w' ⟨rfl, rfl⟩
          obtain ⟨z0, z1, z2, z3, z4, z5, z6, z7, z8⟩ := HZ4.out.cells
          have zf := HZ4.out.frozen
          go_wp2
          rw [HV.out, HE.out, HO.out, show (rightB x && decide (W.toNat < 9223372036854775808)) = false by simp [hlt]]
          refine bodyPost_ret (v := .tuple #[(.agg #[.int .i64 zeroC.t, .int .i64 zeroC.s, .int .i64 zeroC.l, .int .i64 zeroC.c, .int .i64 zeroC.s0, .int .i64 zeroC.n0, .int .i64 zeroC.s1, .int .i64 zeroC.n1, .int .i64 zeroC.r]), .iface 54 (.int .i64 10)]) (by simp [results, Tryd.results40, go_sem, z0, z1, z2, z3, z4, z5, z6, z7, z8, zeroC]) rfl ⟨rfl, ?_⟩
          (repeat (first | with_reducible exact Below.refl _ _ | with_reducible exact HB4.out | with_reducible refine Below.drew ?_ | (with_reducible refine Below.setCell ?_ ?side _; case side => exact (by have := (HB4.out).size; first | (simp; done) | (simp; omega) | omega)) | (with_reducible refine Below.alloc ?_ ?side _; case side => exact (by have := (HB4.out).size; first | (simp; done) | (simp; omega) | omega))))
      · have hr' : rightB x = false := by simpa using hr
        go_wp2_with fail
        refine (check_no x _ (HL.out.below (by (repeat (first | with_reducible exact Below.refl _ _ | with_reducible exact HB2.out | with_reducible refine Below.drew ?_ | (with_reducible refine Below.setCell ?_ ?side _; case side => exact (by have := (HB2.out).size; first | (simp; done) | (simp; omega) | omega)) | (with_reducible refine Below.alloc ?_ ?side _; case side => exact (by have := (HB2.out).size; first | (simp; done) | (simp; omega) | omega)))))) hr').mono ?_
        rintro e w3 ⟨rfl, hb⟩
        have HB3 := Lib.hid (Below.step (B := w.heap.size) (a := w) (by (repeat (first | with_reducible exact Below.refl _ _ | with_reducible exact HB2.out | with_reducible refine Below.drew ?_ | (with_reducible refine Below.setCell ?_ ?side _; case side => exact (by have := (HB2.out).size; first | (simp; done) | (simp; omega) | omega)) | (with_reducible refine Below.alloc ?_ ?side _; case side => exact (by have := (HB2.out).size; first | (simp; done) | (simp; omega) | omega))))) hb (by have := (HB2.out).size; first | (simp; done) | (simp; omega) | omega))
        have HZ3 := Lib.hid (CfgAt.below (HZ2.out.alloc _) hb)
        clear hb HB2 HZ2
        go_wp2_with fail
        refine (Cs.new_code 10 _ rfl).mono ?_
        rintro e w' ⟨rfl, rfl⟩
        obtain ⟨z0, z1, z2, z3, z4, z5, z6, z7, z8⟩ := HZ3.out.cells
        have zf := HZ3.out.frozen
        go_wp2
        rw [HV.out, HE.out, HO.out, show (rightB x && decide (W.toNat < 9223372036854775808)) = false by simp [hr']]
        refine bodyPost_ret (v := .tuple #[(.agg #[.int .i64 zeroC.t, .int .i64 zeroC.s, .int .i64 zeroC.l, .int .i64 zeroC.c, .int .i64 zeroC.s0, .int .i64 zeroC.n0, .int .i64 zeroC.s1, .int .i64 zeroC.n1, .int .i64 zeroC.r]), .iface 54 (.int .i64 10)]) (by simp [results, Tryd.results40, go_sem, z0, z1, z2, z3, z4, z5, z6, z7, z8, zeroC]) rfl ⟨rfl, ?_⟩
        (repeat (first | with_reducible exact Below.refl _ _ | with_reducible exact HB3.out | with_reducible refine Below.drew ?_ | (with_reducible refine Below.setCell ?_ ?side _; case side => exact (by have := (HB3.out).size; first | (simp; done) | (simp; omega) | omega)) | (with_reducible refine Below.alloc ?_ ?side _; case side => exact (by have := (HB3.out).size; first | (simp; done) | (simp; omega) | omega))))

end Go.Proofs.YtohncolnnkmljaaDoor
