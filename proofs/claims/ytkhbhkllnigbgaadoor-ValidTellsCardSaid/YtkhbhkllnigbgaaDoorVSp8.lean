/- A message is spoilt. -/
import Derived.Test.YtkhbhkllnigbgaaDoorVTwo
import Derived.Deep.RegionLaw
namespace Go.Proofs.YtkhbhkllnigbgaaDoor
open Go.ChangeShapes Go.WideShapes Go.ChangeAt Go.RowKit
theorem bits_u64 (op : BinOp) (z : Int) (h : ∃ y, z = IntKind.u64.wrap y) : 0 ≤ z ∧ z < 18446744073709551616 := by
  obtain ⟨y, rfl⟩ := h
  rw [IntKind.wrap_u64]
  omega
theorem xor_u64 (a b : Int) : 0 ≤ bits .xor .u64 a b ∧ bits .xor .u64 a b < 18446744073709551616 := bits_u64 .xor _ ⟨_, rfl⟩
theorem WRw.putI {L : List Nat} {g cap : Nat} {W : World} (h : WRw L g cap W) (p : Nat) (z : Int) (h0 : 0 ≤ z) : WRw (L.set p z.toNat) g cap (W.setCell ⟨g, p, none⟩ (.int .u64 z)) := by
  have := h.put p z.toNat
  rwa [Int.toNat_of_nonneg h0] at this
/-- What spoilt hands back: some row of words, no longer. -/
def SPt (w : World) (N : Nat) (e : Ending) (w' : World) : Prop := ∃ (A' : Option Addr) (L' : List Nat) (cap' : Nat), e = .returned (.slice A' L'.length cap') ∧ WRow w' A' L'.length (nth L') ∧ SmL L' ∧ L'.length ≤ N ∧ L'.length ≤ cap' ∧ Below w.heap.size w w'
theorem SPt.of {w w' : World} {L : List Nat} {g cap n N : Nat} (hn : n = L.length) (h : WRw L g cap w') (hL : SmL L) (hN : L.length ≤ N) (hb : Below w.heap.size w w') : SPt w N (.returned (.slice (some ⟨g, 0, none⟩) n cap)) w' := by
  subst hn
  exact ⟨_, L, cap, rfl, h.row hL, hL, hN, h.le, hb⟩
theorem SPt.cut {w w' : World} {L : List Nat} {g cap n i N : Nat} (hn : n = i) (h : WRw L g cap w') (hL : SmL L) (hi : i ≤ L.length) (hN : L.length ≤ N) (hb : Below w.heap.size w w') : SPt w N (.returned (.slice (some ⟨g, 0, none⟩) n cap)) w' := by
  subst hn
  have hl : (L.take n).length = n := by rw [List.length_take]; omega
  have hr := h.row hL
  have hle := h.le
  refine ⟨_, L.take n, cap, by rw [hl], ?_, hL.take n, by rw [hl]; omega, by rw [hl]; omega, hb⟩
  rw [hl]
  refine ⟨fun j hj => by rw [nth_take hj]; exact hr.lt j (by omega), fun h0 => ?_⟩
  obtain ⟨b, o, e, hb, hc⟩ := hr.some_ (by omega)
  exact ⟨b, o, e, hb, fun j hj => by rw [nth_take hj]; exact hc j (by omega)⟩
theorem SPt.xor {w w3 : World} {L : List Nat} {g cap n i N : Nat} {a b : Int} (hn : n = L.length) (h : WRw L g cap w3) (hL : SmL L) (hN : L.length ≤ N) (hb : Below w.heap.size w w3) (hg : w.heap.size ≤ g) : SPt w N (.returned (.slice (some ⟨g, 0, none⟩) n cap)) (w3.setCell ⟨g, i, none⟩ (.int .u64 (bits .xor .u64 a b))).drew := by
  have hx := xor_u64 a b
  generalize bits .xor .u64 a b = z at hx ⊢
  have h2 := h.putI i z hx.1
  have hB := hb.setCell (p := ⟨g, i, none⟩) hg (.int .u64 z)
  exact SPt.of (L := L.set i z.toNat) (by rw [List.length_set]; exact hn) (h2.below (Below.refl _ _).drew) (hL.set i (by omega)) (by rw [List.length_set]; exact hN) hB.drew
theorem turn8_row (w : World) (how at_ by_ : Int) (wd : Nat) : (w.alloc (.cells #[.int .i64 how, .int .i64 at_, .int .i64 by_, .int .u64 (wd : Nat)] 28)).rowIs w.heap.size 28 4 (fun j => if j = 0 then .int .i64 how else if j = 1 then .int .i64 at_ else if j = 2 then .int .i64 by_ else .int .u64 (wd : Nat)) := World.rowIs_alloc w #[.int .i64 how, .int .i64 at_, .int .i64 by_, .int .u64 (wd : Nat)] 28 _ (by intro j hj; match j, hj with | 0, _ => rfl | 1, _ => rfl | 2, _ => rfl | 3, _ => rfl)
set_option maxRecDepth 100000 in
theorem sp8_nil (A : Option Addr) (cap0 : Nat) (how at_ by_ : Int) (wd : Nat) (w : World) : Calls Tryd.prog 12 #[.slice A 0 cap0, .agg #[.int .i64 how, .int .i64 at_, .int .i64 by_, .int .u64 (wd : Nat)]] w (SPt w 0) := by
  go_enter Tryd.func12, Tryd.ntmps12
  go_wp2
  go_ret
  exact ⟨A, [], cap0, rfl, ⟨fun j hj => absurd hj (Nat.not_lt_zero j), fun h => absurd h (Nat.lt_irrefl 0)⟩, fun x hx => (by cases hx), Nat.le_refl _, Nat.zero_le _, ((Below.refl _ _).alloc (Nat.le_refl _) _)⟩
set_option maxRecDepth 100000 in
set_option maxHeartbeats 2000000 in
theorem sp8_0 (b o : Nat) (L : List Nat) (N cap0 : Nat) (how at_ by_ : Int) (wd : Nat) (hwd : wd < 18446744073709551616) (hmask : bits .and .i64 how 7 = 0) (w : World) (hr : WRow w (some ⟨b, o, none⟩) N (nth L)) (hN : L.length = N) (h1 : 1 ≤ N) (h2 : N ≤ 200) (hc : N ≤ cap0) (hL : SmL L) : Calls Tryd.prog 12 #[.slice (some ⟨b, o, none⟩) N cap0, .agg #[.int .i64 how, .int .i64 at_, .int .i64 by_, .int .u64 (wd : Nat)]] w (SPt w N) := by
  obtain ⟨i0, hi0, hz1, hz2, hz3⟩ := info_parts info_u64
  have HTK : Hid ((L.take N).length = N) := Lib.hid (by rw [List.length_take]; omega)
  have HSM := Lib.hid (hL.take N)
  obtain ⟨i, hi, hie⟩ := rest at_ N h1 (by omega)
  have hN0 : ((N : Int) == 0) = false := by simp; omega
  have hN0' : ((N : Int) = 0) = False := by simp; omega
  have HR1 := Lib.hid (hr.below (((Below.refl _ _).alloc (Nat.le_refl _) _) : Below w.heap.size w (w.alloc (.cells #[.int .i64 how, .int .i64 at_, .int .i64 by_, .int .u64 (wd : Nat)] 28))))
  have hbx0 := turn8_row w how at_ by_ wd
  have HB0 : Hid (Below w.heap.size w (w.alloc (.cells #[.int .i64 how, .int .i64 at_, .int .i64 by_, .int .u64 (wd : Nat)] 28))) := Lib.hid ((Below.refl _ _).alloc (Nat.le_refl _) _)
  have HBX := Lib.hid hbx0
  clear hr hbx0
  go_enter Tryd.func12, Tryd.ntmps12
  have how0 := World.ownsRow_lit (base := 0) (e := 26) (size := 1) (w.alloc (.cells #[.int .i64 how, .int .i64 at_, .int .i64 by_, .int .u64 (wd : Nat)] 28)) #[] 0 (Nat.zero_le _) (by unfold maxLen; omega) rfl
  simp only [World.size_alloc] at how0
  have HOW0 := Lib.hid how0
  clear how0
  have HNW : Hid (∀ j u, (wcells (L.take N))[j]? = some u → ((w.alloc (.cells #[.int .i64 how, .int .i64 at_, .int .i64 by_, .int .u64 (wd : Nat)] 28)).alloc (.cells #[] 26)).cell? ((⟨b, o, none⟩ : Addr).add j) = some u) := Lib.hid (copy_news (HR1.out.below ((Below.refl _ _).alloc (Nat.le_refl _) _)) (by omega) (Nat.le_refl _))
  have hb1 := HBX.out.cell (i := 1) (by omega)
  simp only [show ((1 : Nat) = 0) = False by simp, if_false, if_true] at hb1
  go_wp2_with (first
    | (at_builtin; (refine wpList_append_own_at _ rfl _ _ 22 rfl 0 26 i0 (.int .u64 0) 1 8 Tryd.underlying22 hi0 hz1 hz2 hz3 rfl (by decide) _ 0 [] rfl HOW0.out ⟨b, o, none⟩ N cap0 (wcells (L.take N)) rfl (by rw [wcells_length, HTK.out, Nat.mul_one]) HNW.out (wcells_one _) (by unfold maxLen; omega) (by omega) (Nat.zero_le _) ?_); intro v' w3 hown hgrow _ hat; obtain ⟨g, cap, hv, hg, hW, hB⟩ := copied (W := (w.alloc (.cells #[.int .i64 how, .int .i64 at_, .int .i64 by_, .int .u64 (wd : Nat)] 28))) (c0 := .cells #[] 26) (L := L.take N) (by simp) (by rw [HTK.out, Nat.zero_add]) (by rw [HTK.out]; omega) hown hgrow hat; rw [HTK.out] at hv; subst hv; have HG := Lib.hid hg; have HW := Lib.hid hW; have HB := Lib.hid hB; have hcell := HW.out.nth_cell (p := i) (by rw [HTK.out]; omega); have hfz := HW.out.frozen i; have hce0 := HW.out.nth_cell (p := 0) (by rw [HTK.out]; omega); have hfz0 := HW.out.frozen 0; have hle := HW.out.le; rw [HTK.out] at hle; have hbx := HBX.out.of_block (hB.block _ HBX.out.lt); have t0 := hbx.cell (i := 0) (by omega); have t1 := hbx.cell (i := 1) (by omega); have t2 := hbx.cell (i := 2) (by omega); have t3 := hbx.cell (i := 3) (by omega); simp only [show ((1 : Nat) = 0) = False by simp, show ((2 : Nat) = 0) = False by simp, show ((3 : Nat) = 0) = False by simp, show ((2 : Nat) = 1) = False by simp, show ((3 : Nat) = 1) = False by simp, show ((3 : Nat) = 2) = False by simp, if_false, if_true] at t0 t1 t2 t3; clear hown hgrow hat hg hW hB hbx)
    | fail)
  go_ret
  exact SPt.of (L := (L.take N).set i wd) (by rw [List.length_set, HTK.out]) (HW.out.put i wd) (HSM.out.set i hwd) (by rw [List.length_set, HTK.out]; exact Nat.le_refl _) ((Below.step HB0.out HB.out HB0.out.size).setCell (Nat.le_trans HB0.out.size HG.out) _)
set_option maxRecDepth 100000 in
set_option maxHeartbeats 2000000 in
theorem sp8_1 (b o : Nat) (L : List Nat) (N cap0 : Nat) (how at_ by_ : Int) (wd : Nat) (hwd : wd < 18446744073709551616) (hmask : bits .and .i64 how 7 = 1) (w : World) (hr : WRow w (some ⟨b, o, none⟩) N (nth L)) (hN : L.length = N) (h1 : 1 ≤ N) (h2 : N ≤ 200) (hc : N ≤ cap0) (hL : SmL L) : Calls Tryd.prog 12 #[.slice (some ⟨b, o, none⟩) N cap0, .agg #[.int .i64 how, .int .i64 at_, .int .i64 by_, .int .u64 (wd : Nat)]] w (SPt w N) := by
  obtain ⟨i0, hi0, hz1, hz2, hz3⟩ := info_parts info_u64
  have HTK : Hid ((L.take N).length = N) := Lib.hid (by rw [List.length_take]; omega)
  have HSM := Lib.hid (hL.take N)
  obtain ⟨i, hi, hie⟩ := rest at_ N h1 (by omega)
  have hN0 : ((N : Int) == 0) = false := by simp; omega
  have hN0' : ((N : Int) = 0) = False := by simp; omega
  have HR1 := Lib.hid (hr.below (((Below.refl _ _).alloc (Nat.le_refl _) _) : Below w.heap.size w (w.alloc (.cells #[.int .i64 how, .int .i64 at_, .int .i64 by_, .int .u64 (wd : Nat)] 28))))
  have hbx0 := turn8_row w how at_ by_ wd
  have HB0 : Hid (Below w.heap.size w (w.alloc (.cells #[.int .i64 how, .int .i64 at_, .int .i64 by_, .int .u64 (wd : Nat)] 28))) := Lib.hid ((Below.refl _ _).alloc (Nat.le_refl _) _)
  have HBX := Lib.hid hbx0
  clear hr hbx0
  go_enter Tryd.func12, Tryd.ntmps12
  have how0 := World.ownsRow_lit (base := 0) (e := 26) (size := 1) (w.alloc (.cells #[.int .i64 how, .int .i64 at_, .int .i64 by_, .int .u64 (wd : Nat)] 28)) #[] 0 (Nat.zero_le _) (by unfold maxLen; omega) rfl
  simp only [World.size_alloc] at how0
  have HOW0 := Lib.hid how0
  clear how0
  have HNW : Hid (∀ j u, (wcells (L.take N))[j]? = some u → ((w.alloc (.cells #[.int .i64 how, .int .i64 at_, .int .i64 by_, .int .u64 (wd : Nat)] 28)).alloc (.cells #[] 26)).cell? ((⟨b, o, none⟩ : Addr).add j) = some u) := Lib.hid (copy_news (HR1.out.below ((Below.refl _ _).alloc (Nat.le_refl _) _)) (by omega) (Nat.le_refl _))
  have hb1 := HBX.out.cell (i := 1) (by omega)
  simp only [show ((1 : Nat) = 0) = False by simp, if_false, if_true] at hb1
  go_wp2_with (first
    | (at_builtin; (refine wpList_append_own_at _ rfl _ _ 22 rfl 0 26 i0 (.int .u64 0) 1 8 Tryd.underlying22 hi0 hz1 hz2 hz3 rfl (by decide) _ 0 [] rfl HOW0.out ⟨b, o, none⟩ N cap0 (wcells (L.take N)) rfl (by rw [wcells_length, HTK.out, Nat.mul_one]) HNW.out (wcells_one _) (by unfold maxLen; omega) (by omega) (Nat.zero_le _) ?_); intro v' w3 hown hgrow _ hat; obtain ⟨g, cap, hv, hg, hW, hB⟩ := copied (W := (w.alloc (.cells #[.int .i64 how, .int .i64 at_, .int .i64 by_, .int .u64 (wd : Nat)] 28))) (c0 := .cells #[] 26) (L := L.take N) (by simp) (by rw [HTK.out, Nat.zero_add]) (by rw [HTK.out]; omega) hown hgrow hat; rw [HTK.out] at hv; subst hv; have HG := Lib.hid hg; have HW := Lib.hid hW; have HB := Lib.hid hB; have hcell := HW.out.nth_cell (p := i) (by rw [HTK.out]; omega); have hfz := HW.out.frozen i; have hce0 := HW.out.nth_cell (p := 0) (by rw [HTK.out]; omega); have hfz0 := HW.out.frozen 0; have hle := HW.out.le; rw [HTK.out] at hle; have hbx := HBX.out.of_block (hB.block _ HBX.out.lt); have t0 := hbx.cell (i := 0) (by omega); have t1 := hbx.cell (i := 1) (by omega); have t2 := hbx.cell (i := 2) (by omega); have t3 := hbx.cell (i := 3) (by omega); simp only [show ((1 : Nat) = 0) = False by simp, show ((2 : Nat) = 0) = False by simp, show ((3 : Nat) = 0) = False by simp, show ((2 : Nat) = 1) = False by simp, show ((3 : Nat) = 1) = False by simp, show ((3 : Nat) = 2) = False by simp, if_false, if_true] at t0 t1 t2 t3; clear hown hgrow hat hg hW hB hbx)
    | fail)
  go_ret
  exact SPt.of (L := (L.take N).set i wd) (by rw [List.length_set, HTK.out]) (HW.out.put i wd) (HSM.out.set i hwd) (by rw [List.length_set, HTK.out]; exact Nat.le_refl _) ((Below.step HB0.out HB.out HB0.out.size).setCell (Nat.le_trans HB0.out.size HG.out) _)
set_option maxRecDepth 100000 in
set_option maxHeartbeats 2000000 in
theorem sp8_2 (b o : Nat) (L : List Nat) (N cap0 : Nat) (how at_ by_ : Int) (wd : Nat) (hwd : wd < 18446744073709551616) (hmask : bits .and .i64 how 7 = 2) (w : World) (hr : WRow w (some ⟨b, o, none⟩) N (nth L)) (hN : L.length = N) (h1 : 1 ≤ N) (h2 : N ≤ 200) (hc : N ≤ cap0) (hL : SmL L) : Calls Tryd.prog 12 #[.slice (some ⟨b, o, none⟩) N cap0, .agg #[.int .i64 how, .int .i64 at_, .int .i64 by_, .int .u64 (wd : Nat)]] w (SPt w N) := by
  obtain ⟨i0, hi0, hz1, hz2, hz3⟩ := info_parts info_u64
  have HTK : Hid ((L.take N).length = N) := Lib.hid (by rw [List.length_take]; omega)
  have HSM := Lib.hid (hL.take N)
  obtain ⟨i, hi, hie⟩ := rest at_ N h1 (by omega)
  have hN0 : ((N : Int) == 0) = false := by simp; omega
  have hN0' : ((N : Int) = 0) = False := by simp; omega
  have HR1 := Lib.hid (hr.below (((Below.refl _ _).alloc (Nat.le_refl _) _) : Below w.heap.size w (w.alloc (.cells #[.int .i64 how, .int .i64 at_, .int .i64 by_, .int .u64 (wd : Nat)] 28))))
  have hbx0 := turn8_row w how at_ by_ wd
  have HB0 : Hid (Below w.heap.size w (w.alloc (.cells #[.int .i64 how, .int .i64 at_, .int .i64 by_, .int .u64 (wd : Nat)] 28))) := Lib.hid ((Below.refl _ _).alloc (Nat.le_refl _) _)
  have HBX := Lib.hid hbx0
  clear hr hbx0
  go_enter Tryd.func12, Tryd.ntmps12
  have how0 := World.ownsRow_lit (base := 0) (e := 26) (size := 1) (w.alloc (.cells #[.int .i64 how, .int .i64 at_, .int .i64 by_, .int .u64 (wd : Nat)] 28)) #[] 0 (Nat.zero_le _) (by unfold maxLen; omega) rfl
  simp only [World.size_alloc] at how0
  have HOW0 := Lib.hid how0
  clear how0
  have HNW : Hid (∀ j u, (wcells (L.take N))[j]? = some u → ((w.alloc (.cells #[.int .i64 how, .int .i64 at_, .int .i64 by_, .int .u64 (wd : Nat)] 28)).alloc (.cells #[] 26)).cell? ((⟨b, o, none⟩ : Addr).add j) = some u) := Lib.hid (copy_news (HR1.out.below ((Below.refl _ _).alloc (Nat.le_refl _) _)) (by omega) (Nat.le_refl _))
  have hb1 := HBX.out.cell (i := 1) (by omega)
  simp only [show ((1 : Nat) = 0) = False by simp, if_false, if_true] at hb1
  go_wp2_with (first
    | (at_builtin; (refine wpList_append_own_at _ rfl _ _ 22 rfl 0 26 i0 (.int .u64 0) 1 8 Tryd.underlying22 hi0 hz1 hz2 hz3 rfl (by decide) _ 0 [] rfl HOW0.out ⟨b, o, none⟩ N cap0 (wcells (L.take N)) rfl (by rw [wcells_length, HTK.out, Nat.mul_one]) HNW.out (wcells_one _) (by unfold maxLen; omega) (by omega) (Nat.zero_le _) ?_); intro v' w3 hown hgrow _ hat; obtain ⟨g, cap, hv, hg, hW, hB⟩ := copied (W := (w.alloc (.cells #[.int .i64 how, .int .i64 at_, .int .i64 by_, .int .u64 (wd : Nat)] 28))) (c0 := .cells #[] 26) (L := L.take N) (by simp) (by rw [HTK.out, Nat.zero_add]) (by rw [HTK.out]; omega) hown hgrow hat; rw [HTK.out] at hv; subst hv; have HG := Lib.hid hg; have HW := Lib.hid hW; have HB := Lib.hid hB; have hcell := HW.out.nth_cell (p := i) (by rw [HTK.out]; omega); have hfz := HW.out.frozen i; have hce0 := HW.out.nth_cell (p := 0) (by rw [HTK.out]; omega); have hfz0 := HW.out.frozen 0; have hle := HW.out.le; rw [HTK.out] at hle; have hbx := HBX.out.of_block (hB.block _ HBX.out.lt); have t0 := hbx.cell (i := 0) (by omega); have t1 := hbx.cell (i := 1) (by omega); have t2 := hbx.cell (i := 2) (by omega); have t3 := hbx.cell (i := 3) (by omega); simp only [show ((1 : Nat) = 0) = False by simp, show ((2 : Nat) = 0) = False by simp, show ((3 : Nat) = 0) = False by simp, show ((2 : Nat) = 1) = False by simp, show ((3 : Nat) = 1) = False by simp, show ((3 : Nat) = 2) = False by simp, if_false, if_true] at t0 t1 t2 t3; clear hown hgrow hat hg hW hB hbx)
    | fail)
  go_ret
  exact SPt.of (L := (L.take N).set i wd) (by rw [List.length_set, HTK.out]) (HW.out.put i wd) (HSM.out.set i hwd) (by rw [List.length_set, HTK.out]; exact Nat.le_refl _) ((Below.step HB0.out HB.out HB0.out.size).setCell (Nat.le_trans HB0.out.size HG.out) _)
set_option maxRecDepth 100000 in
set_option maxHeartbeats 2000000 in
theorem sp8_3 (b o : Nat) (L : List Nat) (N cap0 : Nat) (how at_ by_ : Int) (wd : Nat) (hwd : wd < 18446744073709551616) (hmask : bits .and .i64 how 7 = 3) (w : World) (hr : WRow w (some ⟨b, o, none⟩) N (nth L)) (hN : L.length = N) (h1 : 1 ≤ N) (h2 : N ≤ 200) (hc : N ≤ cap0) (hL : SmL L) : Calls Tryd.prog 12 #[.slice (some ⟨b, o, none⟩) N cap0, .agg #[.int .i64 how, .int .i64 at_, .int .i64 by_, .int .u64 (wd : Nat)]] w (SPt w N) := by
  obtain ⟨i0, hi0, hz1, hz2, hz3⟩ := info_parts info_u64
  have HTK : Hid ((L.take N).length = N) := Lib.hid (by rw [List.length_take]; omega)
  have HSM := Lib.hid (hL.take N)
  obtain ⟨i, hi, hie⟩ := rest at_ N h1 (by omega)
  have hN0 : ((N : Int) == 0) = false := by simp; omega
  have hN0' : ((N : Int) = 0) = False := by simp; omega
  have HR1 := Lib.hid (hr.below (((Below.refl _ _).alloc (Nat.le_refl _) _) : Below w.heap.size w (w.alloc (.cells #[.int .i64 how, .int .i64 at_, .int .i64 by_, .int .u64 (wd : Nat)] 28))))
  have hbx0 := turn8_row w how at_ by_ wd
  have HB0 : Hid (Below w.heap.size w (w.alloc (.cells #[.int .i64 how, .int .i64 at_, .int .i64 by_, .int .u64 (wd : Nat)] 28))) := Lib.hid ((Below.refl _ _).alloc (Nat.le_refl _) _)
  have HBX := Lib.hid hbx0
  clear hr hbx0
  go_enter Tryd.func12, Tryd.ntmps12
  have how0 := World.ownsRow_lit (base := 0) (e := 26) (size := 1) (w.alloc (.cells #[.int .i64 how, .int .i64 at_, .int .i64 by_, .int .u64 (wd : Nat)] 28)) #[] 0 (Nat.zero_le _) (by unfold maxLen; omega) rfl
  simp only [World.size_alloc] at how0
  have HOW0 := Lib.hid how0
  clear how0
  have HNW : Hid (∀ j u, (wcells (L.take N))[j]? = some u → ((w.alloc (.cells #[.int .i64 how, .int .i64 at_, .int .i64 by_, .int .u64 (wd : Nat)] 28)).alloc (.cells #[] 26)).cell? ((⟨b, o, none⟩ : Addr).add j) = some u) := Lib.hid (copy_news (HR1.out.below ((Below.refl _ _).alloc (Nat.le_refl _) _)) (by omega) (Nat.le_refl _))
  obtain ⟨k63, hk63, hm63⟩ := and_mask by_ 63 (by omega)
  rw [show ((63 : Nat) : Int) = 63 from rfl] at hm63
  have hb1 := HBX.out.cell (i := 1) (by omega)
  simp only [show ((1 : Nat) = 0) = False by simp, if_false, if_true] at hb1
  go_wp2_with (first
    | (at_builtin; (refine wpList_append_own_at _ rfl _ _ 22 rfl 0 26 i0 (.int .u64 0) 1 8 Tryd.underlying22 hi0 hz1 hz2 hz3 rfl (by decide) _ 0 [] rfl HOW0.out ⟨b, o, none⟩ N cap0 (wcells (L.take N)) rfl (by rw [wcells_length, HTK.out, Nat.mul_one]) HNW.out (wcells_one _) (by unfold maxLen; omega) (by omega) (Nat.zero_le _) ?_); intro v' w3 hown hgrow _ hat; obtain ⟨g, cap, hv, hg, hW, hB⟩ := copied (W := (w.alloc (.cells #[.int .i64 how, .int .i64 at_, .int .i64 by_, .int .u64 (wd : Nat)] 28))) (c0 := .cells #[] 26) (L := L.take N) (by simp) (by rw [HTK.out, Nat.zero_add]) (by rw [HTK.out]; omega) hown hgrow hat; rw [HTK.out] at hv; subst hv; have HG := Lib.hid hg; have HW := Lib.hid hW; have HB := Lib.hid hB; have hcell := HW.out.nth_cell (p := i) (by rw [HTK.out]; omega); have hfz := HW.out.frozen i; have hce0 := HW.out.nth_cell (p := 0) (by rw [HTK.out]; omega); have hfz0 := HW.out.frozen 0; have hle := HW.out.le; rw [HTK.out] at hle; have hbx := HBX.out.of_block (hB.block _ HBX.out.lt); have t0 := hbx.cell (i := 0) (by omega); have t1 := hbx.cell (i := 1) (by omega); have t2 := hbx.cell (i := 2) (by omega); have t3 := hbx.cell (i := 3) (by omega); simp only [show ((1 : Nat) = 0) = False by simp, show ((2 : Nat) = 0) = False by simp, show ((3 : Nat) = 0) = False by simp, show ((2 : Nat) = 1) = False by simp, show ((3 : Nat) = 1) = False by simp, show ((3 : Nat) = 2) = False by simp, if_false, if_true] at t0 t1 t2 t3; clear hown hgrow hat hg hW hB hbx)
    | fail)
  go_region_law (fail)
  all_goals
    go_wp2
    go_ret
    exact SPt.xor HTK.out.symm HW.out HSM.out (by rw [HTK.out]; exact Nat.le_refl _) (Below.step HB0.out HB.out HB0.out.size) (Nat.le_trans HB0.out.size HG.out)
set_option maxRecDepth 100000 in
set_option maxHeartbeats 2000000 in
theorem sp8_4 (b o : Nat) (L : List Nat) (N cap0 : Nat) (how at_ by_ : Int) (wd : Nat) (hwd : wd < 18446744073709551616) (hmask : bits .and .i64 how 7 = 4) (w : World) (hr : WRow w (some ⟨b, o, none⟩) N (nth L)) (hN : L.length = N) (h1 : 1 ≤ N) (h2 : N ≤ 200) (hc : N ≤ cap0) (hL : SmL L) : Calls Tryd.prog 12 #[.slice (some ⟨b, o, none⟩) N cap0, .agg #[.int .i64 how, .int .i64 at_, .int .i64 by_, .int .u64 (wd : Nat)]] w (SPt w N) := by
  obtain ⟨i0, hi0, hz1, hz2, hz3⟩ := info_parts info_u64
  have HTK : Hid ((L.take N).length = N) := Lib.hid (by rw [List.length_take]; omega)
  have HSM := Lib.hid (hL.take N)
  obtain ⟨i, hi, hie⟩ := rest at_ N h1 (by omega)
  have hN0 : ((N : Int) == 0) = false := by simp; omega
  have hN0' : ((N : Int) = 0) = False := by simp; omega
  have HR1 := Lib.hid (hr.below (((Below.refl _ _).alloc (Nat.le_refl _) _) : Below w.heap.size w (w.alloc (.cells #[.int .i64 how, .int .i64 at_, .int .i64 by_, .int .u64 (wd : Nat)] 28))))
  have hbx0 := turn8_row w how at_ by_ wd
  have HB0 : Hid (Below w.heap.size w (w.alloc (.cells #[.int .i64 how, .int .i64 at_, .int .i64 by_, .int .u64 (wd : Nat)] 28))) := Lib.hid ((Below.refl _ _).alloc (Nat.le_refl _) _)
  have HBX := Lib.hid hbx0
  clear hr hbx0
  go_enter Tryd.func12, Tryd.ntmps12
  have how0 := World.ownsRow_lit (base := 0) (e := 26) (size := 1) (w.alloc (.cells #[.int .i64 how, .int .i64 at_, .int .i64 by_, .int .u64 (wd : Nat)] 28)) #[] 0 (Nat.zero_le _) (by unfold maxLen; omega) rfl
  simp only [World.size_alloc] at how0
  have HOW0 := Lib.hid how0
  clear how0
  have HNW : Hid (∀ j u, (wcells (L.take N))[j]? = some u → ((w.alloc (.cells #[.int .i64 how, .int .i64 at_, .int .i64 by_, .int .u64 (wd : Nat)] 28)).alloc (.cells #[] 26)).cell? ((⟨b, o, none⟩ : Addr).add j) = some u) := Lib.hid (copy_news (HR1.out.below ((Below.refl _ _).alloc (Nat.le_refl _) _)) (by omega) (Nat.le_refl _))
  obtain ⟨k63, hk63, hm63⟩ := and_mask by_ 63 (by omega)
  rw [show ((63 : Nat) : Int) = 63 from rfl] at hm63
  have hb1 := HBX.out.cell (i := 1) (by omega)
  simp only [show ((1 : Nat) = 0) = False by simp, if_false, if_true] at hb1
  go_wp2_with (first
    | (at_builtin; (refine wpList_append_own_at _ rfl _ _ 22 rfl 0 26 i0 (.int .u64 0) 1 8 Tryd.underlying22 hi0 hz1 hz2 hz3 rfl (by decide) _ 0 [] rfl HOW0.out ⟨b, o, none⟩ N cap0 (wcells (L.take N)) rfl (by rw [wcells_length, HTK.out, Nat.mul_one]) HNW.out (wcells_one _) (by unfold maxLen; omega) (by omega) (Nat.zero_le _) ?_); intro v' w3 hown hgrow _ hat; obtain ⟨g, cap, hv, hg, hW, hB⟩ := copied (W := (w.alloc (.cells #[.int .i64 how, .int .i64 at_, .int .i64 by_, .int .u64 (wd : Nat)] 28))) (c0 := .cells #[] 26) (L := L.take N) (by simp) (by rw [HTK.out, Nat.zero_add]) (by rw [HTK.out]; omega) hown hgrow hat; rw [HTK.out] at hv; subst hv; have HG := Lib.hid hg; have HW := Lib.hid hW; have HB := Lib.hid hB; have hcell := HW.out.nth_cell (p := i) (by rw [HTK.out]; omega); have hfz := HW.out.frozen i; have hce0 := HW.out.nth_cell (p := 0) (by rw [HTK.out]; omega); have hfz0 := HW.out.frozen 0; have hle := HW.out.le; rw [HTK.out] at hle; have hbx := HBX.out.of_block (hB.block _ HBX.out.lt); have t0 := hbx.cell (i := 0) (by omega); have t1 := hbx.cell (i := 1) (by omega); have t2 := hbx.cell (i := 2) (by omega); have t3 := hbx.cell (i := 3) (by omega); simp only [show ((1 : Nat) = 0) = False by simp, show ((2 : Nat) = 0) = False by simp, show ((3 : Nat) = 0) = False by simp, show ((2 : Nat) = 1) = False by simp, show ((3 : Nat) = 1) = False by simp, show ((3 : Nat) = 2) = False by simp, if_false, if_true] at t0 t1 t2 t3; clear hown hgrow hat hg hW hB hbx)
    | fail)
  go_region_law (fail)
  all_goals
    go_wp2
    go_ret
    exact SPt.xor HTK.out.symm HW.out HSM.out (by rw [HTK.out]; exact Nat.le_refl _) (Below.step HB0.out HB.out HB0.out.size) (Nat.le_trans HB0.out.size HG.out)
set_option maxRecDepth 100000 in
set_option maxHeartbeats 2000000 in
theorem sp8_5 (b o : Nat) (L : List Nat) (N cap0 : Nat) (how at_ by_ : Int) (wd : Nat) (hwd : wd < 18446744073709551616) (hmask : bits .and .i64 how 7 = 5) (w : World) (hr : WRow w (some ⟨b, o, none⟩) N (nth L)) (hN : L.length = N) (h1 : 1 ≤ N) (h2 : N ≤ 200) (hc : N ≤ cap0) (hL : SmL L) : Calls Tryd.prog 12 #[.slice (some ⟨b, o, none⟩) N cap0, .agg #[.int .i64 how, .int .i64 at_, .int .i64 by_, .int .u64 (wd : Nat)]] w (SPt w N) := by
  obtain ⟨i0, hi0, hz1, hz2, hz3⟩ := info_parts info_u64
  have HTK : Hid ((L.take N).length = N) := Lib.hid (by rw [List.length_take]; omega)
  have HSM := Lib.hid (hL.take N)
  obtain ⟨i, hi, hie⟩ := rest at_ N h1 (by omega)
  have hN0 : ((N : Int) == 0) = false := by simp; omega
  have hN0' : ((N : Int) = 0) = False := by simp; omega
  have HR1 := Lib.hid (hr.below (((Below.refl _ _).alloc (Nat.le_refl _) _) : Below w.heap.size w (w.alloc (.cells #[.int .i64 how, .int .i64 at_, .int .i64 by_, .int .u64 (wd : Nat)] 28))))
  have hbx0 := turn8_row w how at_ by_ wd
  have HB0 : Hid (Below w.heap.size w (w.alloc (.cells #[.int .i64 how, .int .i64 at_, .int .i64 by_, .int .u64 (wd : Nat)] 28))) := Lib.hid ((Below.refl _ _).alloc (Nat.le_refl _) _)
  have HBX := Lib.hid hbx0
  clear hr hbx0
  go_enter Tryd.func12, Tryd.ntmps12
  have how0 := World.ownsRow_lit (base := 0) (e := 26) (size := 1) (w.alloc (.cells #[.int .i64 how, .int .i64 at_, .int .i64 by_, .int .u64 (wd : Nat)] 28)) #[] 0 (Nat.zero_le _) (by unfold maxLen; omega) rfl
  simp only [World.size_alloc] at how0
  have HOW0 := Lib.hid how0
  clear how0
  have HNW : Hid (∀ j u, (wcells (L.take N))[j]? = some u → ((w.alloc (.cells #[.int .i64 how, .int .i64 at_, .int .i64 by_, .int .u64 (wd : Nat)] 28)).alloc (.cells #[] 26)).cell? ((⟨b, o, none⟩ : Addr).add j) = some u) := Lib.hid (copy_news (HR1.out.below ((Below.refl _ _).alloc (Nat.le_refl _) _)) (by omega) (Nat.le_refl _))
  have hb1 := HBX.out.cell (i := 1) (by omega)
  simp only [show ((1 : Nat) = 0) = False by simp, if_false, if_true] at hb1
  go_wp2_with (first
    | (at_builtin; (refine wpList_append_own_at _ rfl _ _ 22 rfl 0 26 i0 (.int .u64 0) 1 8 Tryd.underlying22 hi0 hz1 hz2 hz3 rfl (by decide) _ 0 [] rfl HOW0.out ⟨b, o, none⟩ N cap0 (wcells (L.take N)) rfl (by rw [wcells_length, HTK.out, Nat.mul_one]) HNW.out (wcells_one _) (by unfold maxLen; omega) (by omega) (Nat.zero_le _) ?_); intro v' w3 hown hgrow _ hat; obtain ⟨g, cap, hv, hg, hW, hB⟩ := copied (W := (w.alloc (.cells #[.int .i64 how, .int .i64 at_, .int .i64 by_, .int .u64 (wd : Nat)] 28))) (c0 := .cells #[] 26) (L := L.take N) (by simp) (by rw [HTK.out, Nat.zero_add]) (by rw [HTK.out]; omega) hown hgrow hat; rw [HTK.out] at hv; subst hv; have HG := Lib.hid hg; have HW := Lib.hid hW; have HB := Lib.hid hB; have hcell := HW.out.nth_cell (p := i) (by rw [HTK.out]; omega); have hfz := HW.out.frozen i; have hce0 := HW.out.nth_cell (p := 0) (by rw [HTK.out]; omega); have hfz0 := HW.out.frozen 0; have hle := HW.out.le; rw [HTK.out] at hle; have hbx := HBX.out.of_block (hB.block _ HBX.out.lt); have t0 := hbx.cell (i := 0) (by omega); have t1 := hbx.cell (i := 1) (by omega); have t2 := hbx.cell (i := 2) (by omega); have t3 := hbx.cell (i := 3) (by omega); simp only [show ((1 : Nat) = 0) = False by simp, show ((2 : Nat) = 0) = False by simp, show ((3 : Nat) = 0) = False by simp, show ((2 : Nat) = 1) = False by simp, show ((3 : Nat) = 1) = False by simp, show ((3 : Nat) = 2) = False by simp, if_false, if_true] at t0 t1 t2 t3; clear hown hgrow hat hg hW hB hbx)
    | fail)
  refine (r7ref_any _ _ _).mono ?_
  rintro e w' ⟨rfl, rfl⟩
  go_wp2
  go_ret
  exact SPt.of (L := (L.take N).set i (refN _ _)) (by rw [List.length_set, HTK.out]) (HW.out.put i _) (HSM.out.set i (refN_lt _ _)) (by rw [List.length_set, HTK.out]; exact Nat.le_refl _) ((Below.step HB0.out HB.out HB0.out.size).setCell (Nat.le_trans HB0.out.size HG.out) _)
set_option maxRecDepth 100000 in
set_option maxHeartbeats 2000000 in
theorem sp8_6 (b o : Nat) (L : List Nat) (N cap0 : Nat) (how at_ by_ : Int) (wd : Nat) (hwd : wd < 18446744073709551616) (hmask : bits .and .i64 how 7 = 6) (w : World) (hr : WRow w (some ⟨b, o, none⟩) N (nth L)) (hN : L.length = N) (h1 : 1 ≤ N) (h2 : N ≤ 200) (hc : N ≤ cap0) (hL : SmL L) : Calls Tryd.prog 12 #[.slice (some ⟨b, o, none⟩) N cap0, .agg #[.int .i64 how, .int .i64 at_, .int .i64 by_, .int .u64 (wd : Nat)]] w (SPt w N) := by
  obtain ⟨i0, hi0, hz1, hz2, hz3⟩ := info_parts info_u64
  have HTK : Hid ((L.take N).length = N) := Lib.hid (by rw [List.length_take]; omega)
  have HSM := Lib.hid (hL.take N)
  obtain ⟨i, hi, hie⟩ := rest at_ N h1 (by omega)
  have hN0 : ((N : Int) == 0) = false := by simp; omega
  have hN0' : ((N : Int) = 0) = False := by simp; omega
  have HR1 := Lib.hid (hr.below (((Below.refl _ _).alloc (Nat.le_refl _) _) : Below w.heap.size w (w.alloc (.cells #[.int .i64 how, .int .i64 at_, .int .i64 by_, .int .u64 (wd : Nat)] 28))))
  have hbx0 := turn8_row w how at_ by_ wd
  have HB0 : Hid (Below w.heap.size w (w.alloc (.cells #[.int .i64 how, .int .i64 at_, .int .i64 by_, .int .u64 (wd : Nat)] 28))) := Lib.hid ((Below.refl _ _).alloc (Nat.le_refl _) _)
  have HBX := Lib.hid hbx0
  clear hr hbx0
  go_enter Tryd.func12, Tryd.ntmps12
  have how0 := World.ownsRow_lit (base := 0) (e := 26) (size := 1) (w.alloc (.cells #[.int .i64 how, .int .i64 at_, .int .i64 by_, .int .u64 (wd : Nat)] 28)) #[] 0 (Nat.zero_le _) (by unfold maxLen; omega) rfl
  simp only [World.size_alloc] at how0
  have HOW0 := Lib.hid how0
  clear how0
  have HNW : Hid (∀ j u, (wcells (L.take N))[j]? = some u → ((w.alloc (.cells #[.int .i64 how, .int .i64 at_, .int .i64 by_, .int .u64 (wd : Nat)] 28)).alloc (.cells #[] 26)).cell? ((⟨b, o, none⟩ : Addr).add j) = some u) := Lib.hid (copy_news (HR1.out.below ((Below.refl _ _).alloc (Nat.le_refl _) _)) (by omega) (Nat.le_refl _))
  by_cases hi0' : 0 < i
  case neg =>
    have e0 : i = 0 := by omega
    subst e0
    have hb1 := HBX.out.cell (i := 1) (by omega)
    simp only [show ((1 : Nat) = 0) = False by simp, if_false, if_true] at hb1
    go_wp2_with (first
      | (at_builtin; (refine wpList_append_own_at _ rfl _ _ 22 rfl 0 26 i0 (.int .u64 0) 1 8 Tryd.underlying22 hi0 hz1 hz2 hz3 rfl (by decide) _ 0 [] rfl HOW0.out ⟨b, o, none⟩ N cap0 (wcells (L.take N)) rfl (by rw [wcells_length, HTK.out, Nat.mul_one]) HNW.out (wcells_one _) (by unfold maxLen; omega) (by omega) (Nat.zero_le _) ?_); intro v' w3 hown hgrow _ hat; obtain ⟨g, cap, hv, hg, hW, hB⟩ := copied (W := (w.alloc (.cells #[.int .i64 how, .int .i64 at_, .int .i64 by_, .int .u64 (wd : Nat)] 28))) (c0 := .cells #[] 26) (L := L.take N) (by simp) (by rw [HTK.out, Nat.zero_add]) (by rw [HTK.out]; omega) hown hgrow hat; rw [HTK.out] at hv; subst hv; have HG := Lib.hid hg; have HW := Lib.hid hW; have HB := Lib.hid hB; have hcell := HW.out.nth_cell (p := 0) (by rw [HTK.out]; omega); have hfz := HW.out.frozen 0; have hce0 := HW.out.nth_cell (p := 0) (by rw [HTK.out]; omega); have hfz0 := HW.out.frozen 0; have hle := HW.out.le; rw [HTK.out] at hle; have hbx := HBX.out.of_block (hB.block _ HBX.out.lt); have t0 := hbx.cell (i := 0) (by omega); have t1 := hbx.cell (i := 1) (by omega); have t2 := hbx.cell (i := 2) (by omega); have t3 := hbx.cell (i := 3) (by omega); simp only [show ((1 : Nat) = 0) = False by simp, show ((2 : Nat) = 0) = False by simp, show ((3 : Nat) = 0) = False by simp, show ((2 : Nat) = 1) = False by simp, show ((3 : Nat) = 1) = False by simp, show ((3 : Nat) = 2) = False by simp, if_false, if_true] at t0 t1 t2 t3; clear hown hgrow hat hg hW hB hbx)
      | fail)
    go_ret
    exact SPt.cut (L := L.take N) rfl HW.out HSM.out (Nat.zero_le _) (by rw [HTK.out]; exact Nat.le_refl _) (Below.step HB0.out HB.out HB0.out.size)
  have hX0 : nth (L.take N) 0 < 18446744073709551616 := nth_lt HSM.out 0
  have hfa := lo_cut (nth (L.take N) 0) hX0
  obtain ⟨Z, hZ⟩ : ∃ Z, nth (L.take N) 0 / 4294967296 * 4294967296 = Z := ⟨_, rfl⟩
  rw [hZ] at hfa
  have hZ2 : Z + 200 < 18446744073709551616 := by omega
  clear hZ
  have hb1 := HBX.out.cell (i := 1) (by omega)
  simp only [show ((1 : Nat) = 0) = False by simp, if_false, if_true] at hb1
  go_wp2_with (first
    | (at_builtin; (refine wpList_append_own_at _ rfl _ _ 22 rfl 0 26 i0 (.int .u64 0) 1 8 Tryd.underlying22 hi0 hz1 hz2 hz3 rfl (by decide) _ 0 [] rfl HOW0.out ⟨b, o, none⟩ N cap0 (wcells (L.take N)) rfl (by rw [wcells_length, HTK.out, Nat.mul_one]) HNW.out (wcells_one _) (by unfold maxLen; omega) (by omega) (Nat.zero_le _) ?_); intro v' w3 hown hgrow _ hat; obtain ⟨g, cap, hv, hg, hW, hB⟩ := copied (W := (w.alloc (.cells #[.int .i64 how, .int .i64 at_, .int .i64 by_, .int .u64 (wd : Nat)] 28))) (c0 := .cells #[] 26) (L := L.take N) (by simp) (by rw [HTK.out, Nat.zero_add]) (by rw [HTK.out]; omega) hown hgrow hat; rw [HTK.out] at hv; subst hv; have HG := Lib.hid hg; have HW := Lib.hid hW; have HB := Lib.hid hB; have hcell := HW.out.nth_cell (p := i) (by rw [HTK.out]; omega); have hfz := HW.out.frozen i; have hce0 := HW.out.nth_cell (p := 0) (by rw [HTK.out]; omega); have hfz0 := HW.out.frozen 0; have hle := HW.out.le; rw [HTK.out] at hle; have hbx := HBX.out.of_block (hB.block _ HBX.out.lt); have t0 := hbx.cell (i := 0) (by omega); have t1 := hbx.cell (i := 1) (by omega); have t2 := hbx.cell (i := 2) (by omega); have t3 := hbx.cell (i := 3) (by omega); simp only [show ((1 : Nat) = 0) = False by simp, show ((2 : Nat) = 0) = False by simp, show ((3 : Nat) = 0) = False by simp, show ((2 : Nat) = 1) = False by simp, show ((3 : Nat) = 1) = False by simp, show ((3 : Nat) = 2) = False by simp, if_false, if_true] at t0 t1 t2 t3; clear hown hgrow hat hg hW hB hbx)
    | fail)
  have h9 : 0 < i := hi0'
  go_ret
  exact SPt.cut (L := (L.take N).set 0 (Int.toNat _)) rfl (HW.out.putI 0 _ (by omega)) (HSM.out.set 0 (by omega)) (by rw [List.length_set, HTK.out]; omega) (by rw [List.length_set, HTK.out]; exact Nat.le_refl _) ((Below.step HB0.out HB.out HB0.out.size).setCell (Nat.le_trans HB0.out.size HG.out) _)
set_option maxRecDepth 100000 in
set_option maxHeartbeats 2000000 in
theorem sp8_7 (b o : Nat) (L : List Nat) (N cap0 : Nat) (how at_ by_ : Int) (wd : Nat) (hwd : wd < 18446744073709551616) (hmask : bits .and .i64 how 7 = 7) (w : World) (hr : WRow w (some ⟨b, o, none⟩) N (nth L)) (hN : L.length = N) (h1 : 1 ≤ N) (h2 : N ≤ 200) (hc : N ≤ cap0) (hL : SmL L) : Calls Tryd.prog 12 #[.slice (some ⟨b, o, none⟩) N cap0, .agg #[.int .i64 how, .int .i64 at_, .int .i64 by_, .int .u64 (wd : Nat)]] w (SPt w N) := by
  obtain ⟨i0, hi0, hz1, hz2, hz3⟩ := info_parts info_u64
  have HTK : Hid ((L.take N).length = N) := Lib.hid (by rw [List.length_take]; omega)
  have HSM := Lib.hid (hL.take N)
  obtain ⟨i, hi, hie⟩ := rest at_ N h1 (by omega)
  have hN0 : ((N : Int) == 0) = false := by simp; omega
  have hN0' : ((N : Int) = 0) = False := by simp; omega
  have HR1 := Lib.hid (hr.below (((Below.refl _ _).alloc (Nat.le_refl _) _) : Below w.heap.size w (w.alloc (.cells #[.int .i64 how, .int .i64 at_, .int .i64 by_, .int .u64 (wd : Nat)] 28))))
  have hbx0 := turn8_row w how at_ by_ wd
  have HB0 : Hid (Below w.heap.size w (w.alloc (.cells #[.int .i64 how, .int .i64 at_, .int .i64 by_, .int .u64 (wd : Nat)] 28))) := Lib.hid ((Below.refl _ _).alloc (Nat.le_refl _) _)
  have HBX := Lib.hid hbx0
  clear hr hbx0
  go_enter Tryd.func12, Tryd.ntmps12
  have how0 := World.ownsRow_lit (base := 0) (e := 26) (size := 1) (w.alloc (.cells #[.int .i64 how, .int .i64 at_, .int .i64 by_, .int .u64 (wd : Nat)] 28)) #[] 0 (Nat.zero_le _) (by unfold maxLen; omega) rfl
  simp only [World.size_alloc] at how0
  have HOW0 := Lib.hid how0
  clear how0
  have HNW : Hid (∀ j u, (wcells (L.take N))[j]? = some u → ((w.alloc (.cells #[.int .i64 how, .int .i64 at_, .int .i64 by_, .int .u64 (wd : Nat)] 28)).alloc (.cells #[] 26)).cell? ((⟨b, o, none⟩ : Addr).add j) = some u) := Lib.hid (copy_news (HR1.out.below ((Below.refl _ _).alloc (Nat.le_refl _) _)) (by omega) (Nat.le_refl _))
  have hb1 := HBX.out.cell (i := 1) (by omega)
  simp only [show ((1 : Nat) = 0) = False by simp, if_false, if_true] at hb1
  go_wp2_with (first
    | (at_builtin; (refine wpList_append_own_at _ rfl _ _ 22 rfl 0 26 i0 (.int .u64 0) 1 8 Tryd.underlying22 hi0 hz1 hz2 hz3 rfl (by decide) _ 0 [] rfl HOW0.out ⟨b, o, none⟩ N cap0 (wcells (L.take N)) rfl (by rw [wcells_length, HTK.out, Nat.mul_one]) HNW.out (wcells_one _) (by unfold maxLen; omega) (by omega) (Nat.zero_le _) ?_); intro v' w3 hown hgrow _ hat; obtain ⟨g, cap, hv, hg, hW, hB⟩ := copied (W := (w.alloc (.cells #[.int .i64 how, .int .i64 at_, .int .i64 by_, .int .u64 (wd : Nat)] 28))) (c0 := .cells #[] 26) (L := L.take N) (by simp) (by rw [HTK.out, Nat.zero_add]) (by rw [HTK.out]; omega) hown hgrow hat; rw [HTK.out] at hv; subst hv; have HG := Lib.hid hg; have HW := Lib.hid hW; have HB := Lib.hid hB; have hcell := HW.out.nth_cell (p := i) (by rw [HTK.out]; omega); have hfz := HW.out.frozen i; have hce0 := HW.out.nth_cell (p := 0) (by rw [HTK.out]; omega); have hfz0 := HW.out.frozen 0; have hle := HW.out.le; rw [HTK.out] at hle; have hbx := HBX.out.of_block (hB.block _ HBX.out.lt); have t0 := hbx.cell (i := 0) (by omega); have t1 := hbx.cell (i := 1) (by omega); have t2 := hbx.cell (i := 2) (by omega); have t3 := hbx.cell (i := 3) (by omega); simp only [show ((1 : Nat) = 0) = False by simp, show ((2 : Nat) = 0) = False by simp, show ((3 : Nat) = 0) = False by simp, show ((2 : Nat) = 1) = False by simp, show ((3 : Nat) = 1) = False by simp, show ((3 : Nat) = 2) = False by simp, if_false, if_true] at t0 t1 t2 t3; clear hown hgrow hat hg hW hB hbx)
    | fail)
  go_ret
  exact SPt.of (L := L.take N) HTK.out.symm HW.out HSM.out (by rw [HTK.out]; exact Nat.le_refl _) (Below.step HB0.out HB.out HB0.out.size)
/-- A message, spoilt or not. -/
theorem sp8_any (A : Option Addr) (L : List Nat) (cap0 : Nat) (how at_ by_ : Int) (wd : Nat) (hwd : wd < 18446744073709551616) (w : World) (hr : WRow w A L.length (nth L)) (h2 : L.length ≤ 200) (hc : L.length ≤ cap0) (hL : SmL L) : Calls Tryd.prog 12 #[.slice A L.length cap0, .agg #[.int .i64 how, .int .i64 at_, .int .i64 by_, .int .u64 (wd : Nat)]] w (SPt w L.length) := by
  by_cases h1 : 1 ≤ L.length
  · obtain ⟨b, o, rfl, -, -⟩ := hr.some_ (by omega)
    obtain ⟨m7, hm, hm7⟩ := and_mask how 7 (by omega)
    rw [show ((7 : Nat) : Int) = 7 from rfl] at hm7
    obtain rfl | rfl | rfl | rfl | rfl | rfl | rfl | rfl : m7 = 0 ∨ m7 = 1 ∨ m7 = 2 ∨ m7 = 3 ∨ m7 = 4 ∨ m7 = 5 ∨ m7 = 6 ∨ m7 = 7 := by omega
    · exact sp8_0 b o L _ cap0 how at_ by_ wd hwd hm7 w hr rfl h1 h2 hc hL
    · exact sp8_1 b o L _ cap0 how at_ by_ wd hwd hm7 w hr rfl h1 h2 hc hL
    · exact sp8_2 b o L _ cap0 how at_ by_ wd hwd hm7 w hr rfl h1 h2 hc hL
    · exact sp8_3 b o L _ cap0 how at_ by_ wd hwd hm7 w hr rfl h1 h2 hc hL
    · exact sp8_4 b o L _ cap0 how at_ by_ wd hwd hm7 w hr rfl h1 h2 hc hL
    · exact sp8_5 b o L _ cap0 how at_ by_ wd hwd hm7 w hr rfl h1 h2 hc hL
    · exact sp8_6 b o L _ cap0 how at_ by_ wd hwd hm7 w hr rfl h1 h2 hc hL
    · exact sp8_7 b o L _ cap0 how at_ by_ wd hwd hm7 w hr rfl h1 h2 hc hL
  · have e : L.length = 0 := by omega
    rw [e]
    exact sp8_nil A cap0 how at_ by_ wd w

end Go.Proofs.YtkhbhkllnigbgaaDoor
