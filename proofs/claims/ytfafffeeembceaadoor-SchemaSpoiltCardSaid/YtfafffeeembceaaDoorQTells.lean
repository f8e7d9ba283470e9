/- SchemaTells: the walk. -/
import Derived.Test.YtfafffeeembceaaDoorQDeep2
import Derived.Test.YtfafffeeembceaaDoorQMade
import Derived.Test.YtfafffeeembceaaDoorQFew
import Derived.Test.YtfafffeeembceaaDoorCsTop
import Derived.Deep.RegionHeld3
namespace Go.Proofs.YtfafffeeembceaaDoor
open Go.RowKit
/-- What cause.Top tells of a trouble of one code, or of none. -/
theorem top_none (w : World) (hE : Cs.ErrT w) : Calls Tryd.prog 17 #[.nilIface] w fun r w' => r = .returned (.int .i64 0) ∧ Below w.heap.size w w' := by
  have h := Cs.top_any [] (by simp [Cs.Ok]) (by simp) w hE
  exact h
theorem top_one (c : Int) (hc : ¬ c = 0) (w : World) (hE : Cs.ErrT w) : Calls Tryd.prog 17 #[.iface 43 (.int .i64 c)] w fun r w' => r = .returned (.int .i64 c) ∧ Below w.heap.size w w' := by
  have h := Cs.top_any [(c, 0)] (by simpa [Cs.Ok] using hc) (by simp) w hE
  rw [Cs.top_code _ _ hc, Cs.enc_code _ _ hc] at h
  exact h

/-- What Check answers; the code of it. -/
noncomputable def chkV (s : Sch) : Value := if okS s = true then .nilIface else .iface 43 (.int .i64 1)
noncomputable def chkC (s : Sch) : Int := if okS s = true then 0 else 1
theorem check_any (s : Sch) (A : Option Addr) (c : Nat) (w : World) (hr : SAt w A s) : Calls Tryd.prog 18 #[.slice A s.n c] w fun e w' => e = .returned (chkV s) ∧ Below w.heap.size w w' := by
  unfold chkV
  by_cases h : okS s = true
  · rw [if_pos h]; exact check_yes s A c w hr h
  · rw [if_neg h]; exact check_no s A c w hr (by simpa using h)
theorem top_chk (s : Sch) (w : World) (hE : Cs.ErrT w) : Calls Tryd.prog 17 #[chkV s] w fun r w' => r = .returned (.int .i64 (chkC s)) ∧ Below w.heap.size w w' := by
  unfold chkV chkC
  by_cases h : okS s = true
  · rw [if_pos h, if_pos h]; exact top_none w hE
  · rw [if_neg h, if_neg h]; exact top_one 1 (by omega) w hE
/-- How many words Pack answers. -/
noncomputable def packL (s : Sch) : Nat := if okS s = true then s.n else 0
theorem packL_le (s : Sch) : packL s ≤ 8 := by
  unfold packL
  by_cases h : okS s = true
  · rw [if_pos h]; exact (right_of_okS h).2.1
  · rw [if_neg h]; omega
theorem pack_any (s : Sch) (A : Option Addr) (c : Nat) (w : World) (hr : SAt w A s) : Calls Tryd.prog 14 #[.slice A s.n c] w fun e w' => ∃ A' c', e = .returned (.slice A' (packL s) c') ∧ WRow w' A' (packL s) (wd s) ∧ Below w.heap.size w w' := by
  unfold packL
  by_cases h : okS s = true
  · rw [if_pos h]
    refine (pack_yes s A c w hr (right_of_okS h)).mono ?_
    rintro e w' ⟨g, rfl, hg, hrow, hb⟩
    exact ⟨_, _, rfl, wrow_of_rowIs hrow (fun j hj => by have := (right_of_okS h).wd_lt hj; omega), hb⟩
  · rw [if_neg h]
    refine (pack_no s A c w hr (by simpa using h)).mono ?_
    rintro e w' ⟨rfl, hb⟩
    exact ⟨_, _, rfl, ⟨fun j hj => by omega, fun h => by omega⟩, hb⟩
theorem r5Pack_any (s : Sch) (A : Option Addr) (c : Nat) (w : World) (hr : SAt w A s) : Calls Tryd.prog 11 #[.slice A s.n c] w fun e w' => ∃ A' c', e = .returned (.slice A' (packL s) c') ∧ WRow w' A' (packL s) (wd s) ∧ Below w.heap.size w w' := by
  unfold packL
  by_cases h : okS s = true
  · rw [if_pos h]
    refine (r5Pack_yes s A c w hr (right_of_okS h)).mono ?_
    rintro e w' ⟨v, rfl, hr⟩
    obtain ⟨A', c', rfl, hrow⟩ := hr.row fun j hj => by have := (right_of_okS h).wd_lt hj; omega
    exact ⟨_, _, rfl, hrow, hr.below⟩
  · rw [if_neg h]
    refine (r5Pack_no s A c w hr (by simpa using h)).mono ?_
    rintro e w' ⟨rfl, hb⟩
    exact ⟨_, _, rfl, ⟨fun j hj => by omega, fun h => by omega⟩, hb⟩

/-- The law's own variables: the schema, which type and field (at b), the field that the document tells (at f). -/
structure TW (w0 : World) (A : Option Addr) (s : Sch) (b : Nat) (q0 q1 : Int) (W : World) : Prop where
  sat : SAt W A s
  q : W.rowIs b 25 2 (fun j => if j = 0 then .int .i64 q0 else .int .i64 q1)
  be : Below w0.heap.size w0 W
theorem TW.below {w0 : World} {A : Option Addr} {s : Sch} {b : Nat} {q0 q1 : Int} {W W' : World} (h : TW w0 A s b q0 q1 W) (hb : Below W.heap.size W W') : TW w0 A s b q0 q1 W' := ⟨h.sat.below hb, h.q.of_block (hb.block _ h.q.lt), h.be.trans (hb.mono h.be.size)⟩
theorem TW.c0 {w0 : World} {A : Option Addr} {s : Sch} {b : Nat} {q0 q1 : Int} {W : World} (h : TW w0 A s b q0 q1 W) : W.cell? ⟨b, 0, none⟩ = some (.int .i64 q0) := h.q.cell (i := 0) (by omega)
theorem TW.c1 {w0 : World} {A : Option Addr} {s : Sch} {b : Nat} {q0 q1 : Int} {W : World} (h : TW w0 A s b q0 q1 W) : W.cell? ⟨b, 1, none⟩ = some (.int .i64 q1) := h.q.cell (i := 1) (by omega)
structure TF (w0 : World) (A : Option Addr) (s : Sch) (b : Nat) (q0 q1 : Int) (f : Nat) (W : World) : Prop where
  tw : TW w0 A s b q0 q1 W
  f : W.rowIs f 48 2 (fun j => if j = 0 then .int .i64 (kAt s q0 q1) else .int .i64 (tAt s q0 q1))
theorem TF.below {w0 : World} {A : Option Addr} {s : Sch} {b : Nat} {q0 q1 : Int} {f : Nat} {W W' : World} (h : TF w0 A s b q0 q1 f W) (hb : Below W.heap.size W W') : TF w0 A s b q0 q1 f W' := ⟨h.tw.below hb, h.f.of_block (hb.block _ h.f.lt)⟩
theorem TF.drew {w0 : World} {A : Option Addr} {s : Sch} {b : Nat} {q0 q1 : Int} {f : Nat} {W : World} (h : TF w0 A s b q0 q1 f W) : TF w0 A s b q0 q1 f W.drew := h.below (Below.refl _ _).drew
theorem TF.all {w0 : World} {A : Option Addr} {s : Sch} {b : Nat} {q0 q1 : Int} {f : Nat} {W : World} (h : TF w0 A s b q0 q1 f W) : W.cell? ⟨b, 0, none⟩ = some (.int .i64 q0) ∧ W.cell? ⟨b, 1, none⟩ = some (.int .i64 q1) ∧ W.cell? ⟨f, 0, none⟩ = some (.int .i64 (kAt s q0 q1)) ∧ W.cell? ⟨f, 1, none⟩ = some (.int .i64 (tAt s q0 q1)) ∧ TF w0 A s b q0 q1 f W :=
  ⟨h.tw.c0, h.tw.c1, h.f.cell (i := 0) (by omega), h.f.cell (i := 1) (by omega), h⟩
theorem fieldsB_any (s : Sch) (A : Option Addr) (c : Nat) (t : Int) (w : World) (hr : SAt w A s) : Calls Tryd.prog 23 #[.slice A s.n c, .int .i64 t] w fun e w' => e = .returned (.int .i64 (lenAt s t)) ∧ Below w.heap.size w w' :=
  (fields_any s A c t w hr).mono fun _ _ ⟨h1, h2⟩ => ⟨h1, h2 ▸ Below.refl _ _⟩
theorem r5FieldsB_any (s : Sch) (A : Option Addr) (c : Nat) (t : Int) (w : World) (hr : SAt w A s) : Calls Tryd.prog 24 #[.slice A s.n c, .int .i64 t] w fun e w' => e = .returned (.int .i64 (lenAt s t)) ∧ Below w.heap.size w w' :=
  (r5Fields_any s A c t w hr).mono fun _ _ ⟨h1, h2⟩ => ⟨h1, h2 ▸ Below.refl _ _⟩

set_option maxRecDepth 100000 in
set_option maxHeartbeats 8000000 in
theorem tells_yes (s : Sch) (A : Option Addr) (c : Nat) (q0 q1 : Int) (w : World) (hE : Cs.ErrT w) (hs : SAt w A s) (ho : okS s = true) : Calls Tryd.prog 9 #[.slice A s.n c, .agg #[.int .i64 q0, .int .i64 q1]] w fun e w' => e = .returned (.bool true) ∧ Below w.heap.size w w' := by
  have HE := Lib.hid hE
  have HO := Lib.hid ho
  have hT0 : TW w A s w.heap.size q0 q1 (w.alloc (.cells #[.int .i64 q0, .int .i64 q1] 25)) := ⟨hs.below ((Below.refl _ _).alloc (Nat.le_refl _) _), World.rowIs_alloc w #[.int .i64 q0, .int .i64 q1] 25 _ (by intro j hj; match j, hj with | 0, _ => rfl | 1, _ => rfl), by (repeat (first | with_reducible exact Below.refl _ _ | with_reducible refine Below.drew ?_ | (with_reducible refine Below.setCell ?_ ?side _; case side => exact (by first | (simp; done) | (simp; omega) | omega)) | (with_reducible refine Below.alloc ?_ ?side _; case side => exact (by first | (simp; done) | (simp; omega) | omega))))⟩
  have H0 := Lib.hid hT0
  have HC : Hid (chkC s = 0) := Lib.hid (by simp [chkC, ho])
  clear hE hs ho hT0
  go_enter Tryd.func9, Tryd.ntmps9
  go_wp2_with fail
  refine (r5Right_any s A c _ H0.out.sat).mono ?_
  rintro e w1 ⟨rfl, hb⟩
  have H1 := Lib.hid (H0.out.below hb)
  clear hb H0
  rw [HO.out]
  have c0 := H1.out.c0
  have c1 := H1.out.c1
  go_wp2_with fail
  refine (r5Field_any s A c q0 q1 _ H1.out.sat).mono ?_
  rintro e w2 ⟨rfl, hb⟩
  have H2 := Lib.hid (H1.out.below hb)
  clear hb H1 c0 c1
  go_wp2_with fail
  refine (pack_any s A c _ (H2.out.sat.below ((Below.refl _ _).alloc (Nat.le_refl _) _))).mono ?_
  rintro e w3 ⟨A3, c3, rfl, hw3, hb⟩
  have hF2 : TF w A s w.heap.size q0 q1 w2.heap.size (w2.alloc (.cells #[.int .i64 (kAt s q0 q1), .int .i64 (tAt s q0 q1)] 48)) := ⟨H2.out.below ((Below.refl _ _).alloc (Nat.le_refl _) _), World.rowIs_alloc w2 #[.int .i64 (kAt s q0 q1), .int .i64 (tAt s q0 q1)] 48 _ (by intro j hj; match j, hj with | 0, _ => rfl | 1, _ => rfl)⟩
  have H3 := Lib.hid (hF2.below hb)
  have HW3 := Lib.hid hw3
  clear hb H2 hw3 hF2
  generalize w2.heap.size = f at H3 ⊢
  go_wp2_with fail
  refine (r5Pack_any s A c _ H3.out.tw.sat).mono ?_
  rintro e w4 ⟨A4, c4, rfl, hw4, hb⟩
  have H4 := Lib.hid (H3.out.below hb)
  have HW4 := Lib.hid (HW3.out.below hb)
  have HV4 := Lib.hid hw4
  clear hb H3 HW3 hw4
  go_wp2_with fail
  refine (same_any _ A3 A4 (packL s) (packL s) c3 c4 (wd s) (wd s) (by have := packL_le s; omega) HW4.out HV4.out).mono ?_
  rintro e w5 ⟨rfl, hb⟩
  rw [sameWB_true ⟨rfl, fun _ _ => rfl⟩]
  have H5 := Lib.hid (H4.out.below hb)
  clear hb H4 HW4 HV4
  go_wp2_with fail
  go_region_held3 (fun w' => w'.cell? ⟨w.heap.size, 0, none⟩ = some (.int .i64 q0) ∧ w'.cell? ⟨w.heap.size, 1, none⟩ = some (.int .i64 q1) ∧ w'.cell? ⟨f, 0, none⟩ = some (.int .i64 (kAt s q0 q1)) ∧ w'.cell? ⟨f, 1, none⟩ = some (.int .i64 (tAt s q0 q1)) ∧ TF w A s w.heap.size q0 q1 f w')
    (first | exact H5.out.drew.all | exact K1.out.all | exact K2.out.all | exact K3.out.all | exact K4.out.all | exact K5.out.all | exact K6.out.all | exact K7.out.all | exact K8.out.all | assumption)
    (first
      | (go_at_call 18; (with_reducible refine (check_any s A c _ H5.out.drew.tw.sat).mono ?_); rintro e w1 ⟨rfl, hb⟩; have K1 := Lib.hid (H5.out.drew.below hb); clear hb)
      | (go_at_call 17; (with_reducible refine (top_chk s _ (HE.out.below K1.out.tw.be)).mono ?_); rintro e w2 ⟨rfl, hb⟩; have K2 := Lib.hid (K1.out.below hb); clear hb; rw [HC.out])
      | (go_at_call 23; (with_reducible refine (fieldsB_any s A c q0 _ K2.out.tw.sat).mono ?_); rintro e w3 ⟨rfl, hb⟩; have K3 := Lib.hid (K2.out.below hb); clear hb)
      | (go_at_call 24; (with_reducible refine (r5FieldsB_any s A c q0 _ K3.out.tw.sat).mono ?_); rintro e w4 ⟨rfl, hb⟩; have K4 := Lib.hid (K3.out.below hb); clear hb)
      | (go_at_call 25; (with_reducible refine (kind_any s A c q0 q1 _ K4.out.tw.sat).mono ?_); rintro e w5 ⟨rfl, hb⟩; have K5 := Lib.hid (K4.out.below hb); clear hb)
      | (go_at_call 26; (with_reducible refine (type_any s A c q0 q1 _ K5.out.tw.sat).mono ?_); rintro e w6 ⟨rfl, hb⟩; have K6 := Lib.hid (K5.out.below hb); clear hb)
      | (go_at_call 19; (with_reducible refine (deep_any s A c q0 _ K6.out.tw.sat).mono ?_); rintro e w7 ⟨rfl, hb⟩; have K7 := Lib.hid (K6.out.below hb); clear hb)
      | (go_at_call 27; (with_reducible refine (r5Deep_any s A c q0 _ K7.out.tw.sat).mono ?_); rintro e w8 ⟨rfl, hb⟩; have K8 := Lib.hid (K7.out.below hb); clear hb))
  all_goals
    go_wp2
    go_ret
    exact ⟨rfl, K8.out.tw.be⟩

set_option maxRecDepth 100000 in
set_option maxHeartbeats 8000000 in
theorem tells_no (s : Sch) (A : Option Addr) (c : Nat) (q0 q1 : Int) (w : World) (hE : Cs.ErrT w) (hs : SAt w A s) (ho : okS s = false) : Calls Tryd.prog 9 #[.slice A s.n c, .agg #[.int .i64 q0, .int .i64 q1]] w fun e w' => e = .returned (.bool true) ∧ Below w.heap.size w w' := by
  have HE := Lib.hid hE
  have HO := Lib.hid ho
  have hT0 : TW w A s w.heap.size q0 q1 (w.alloc (.cells #[.int .i64 q0, .int .i64 q1] 25)) := ⟨hs.below ((Below.refl _ _).alloc (Nat.le_refl _) _), World.rowIs_alloc w #[.int .i64 q0, .int .i64 q1] 25 _ (by intro j hj; match j, hj with | 0, _ => rfl | 1, _ => rfl), by (repeat (first | with_reducible exact Below.refl _ _ | with_reducible refine Below.drew ?_ | (with_reducible refine Below.setCell ?_ ?side _; case side => exact (by first | (simp; done) | (simp; omega) | omega)) | (with_reducible refine Below.alloc ?_ ?side _; case side => exact (by first | (simp; done) | (simp; omega) | omega))))⟩
  have H0 := Lib.hid hT0
  have HC : Hid (chkC s = 1) := Lib.hid (by simp [chkC, ho])
  clear hE hs ho hT0
  go_enter Tryd.func9, Tryd.ntmps9
  go_wp2_with fail
  refine (r5Right_any s A c _ H0.out.sat).mono ?_
  rintro e w1 ⟨rfl, hb⟩
  have H1 := Lib.hid (H0.out.below hb)
  clear hb H0
  rw [HO.out]
  have c0 := H1.out.c0
  have c1 := H1.out.c1
  go_wp2_with fail
  refine (r5Field_any s A c q0 q1 _ H1.out.sat).mono ?_
  rintro e w2 ⟨rfl, hb⟩
  have H2 := Lib.hid (H1.out.below hb)
  clear hb H1 c0 c1
  go_wp2_with fail
  refine (pack_any s A c _ (H2.out.sat.below ((Below.refl _ _).alloc (Nat.le_refl _) _))).mono ?_
  rintro e w3 ⟨A3, c3, rfl, hw3, hb⟩
  have hF2 : TF w A s w.heap.size q0 q1 w2.heap.size (w2.alloc (.cells #[.int .i64 (kAt s q0 q1), .int .i64 (tAt s q0 q1)] 48)) := ⟨H2.out.below ((Below.refl _ _).alloc (Nat.le_refl _) _), World.rowIs_alloc w2 #[.int .i64 (kAt s q0 q1), .int .i64 (tAt s q0 q1)] 48 _ (by intro j hj; match j, hj with | 0, _ => rfl | 1, _ => rfl)⟩
  have H3 := Lib.hid (hF2.below hb)
  have HW3 := Lib.hid hw3
  clear hb H2 hw3 hF2
  generalize w2.heap.size = f at H3 ⊢
  go_wp2_with fail
  refine (r5Pack_any s A c _ H3.out.tw.sat).mono ?_
  rintro e w4 ⟨A4, c4, rfl, hw4, hb⟩
  have H4 := Lib.hid (H3.out.below hb)
  have HW4 := Lib.hid (HW3.out.below hb)
  have HV4 := Lib.hid hw4
  clear hb H3 HW3 hw4
  go_wp2_with fail
  refine (same_any _ A3 A4 (packL s) (packL s) c3 c4 (wd s) (wd s) (by have := packL_le s; omega) HW4.out HV4.out).mono ?_
  rintro e w5 ⟨rfl, hb⟩
  rw [sameWB_true ⟨rfl, fun _ _ => rfl⟩]
  have H5 := Lib.hid (H4.out.below hb)
  clear hb H4 HW4 HV4
  go_wp2_with fail
  go_region_held3 (fun w' => w'.cell? ⟨w.heap.size, 0, none⟩ = some (.int .i64 q0) ∧ w'.cell? ⟨w.heap.size, 1, none⟩ = some (.int .i64 q1) ∧ w'.cell? ⟨f, 0, none⟩ = some (.int .i64 (kAt s q0 q1)) ∧ w'.cell? ⟨f, 1, none⟩ = some (.int .i64 (tAt s q0 q1)) ∧ TF w A s w.heap.size q0 q1 f w')
    (first | exact H5.out.drew.all | exact K1.out.all | exact K2.out.all | exact K3.out.all | exact K4.out.all | exact K5.out.all | exact K6.out.all | exact K7.out.all | exact K8.out.all | assumption)
    (first
      | (go_at_call 18; (with_reducible refine (check_any s A c _ H5.out.drew.tw.sat).mono ?_); rintro e w1 ⟨rfl, hb⟩; have K1 := Lib.hid (H5.out.drew.below hb); clear hb)
      | (go_at_call 17; (with_reducible refine (top_chk s _ (HE.out.below K1.out.tw.be)).mono ?_); rintro e w2 ⟨rfl, hb⟩; have K2 := Lib.hid (K1.out.below hb); clear hb; rw [HC.out])
      | (go_at_call 23; (with_reducible refine (fieldsB_any s A c q0 _ K2.out.tw.sat).mono ?_); rintro e w3 ⟨rfl, hb⟩; have K3 := Lib.hid (K2.out.below hb); clear hb)
      | (go_at_call 24; (with_reducible refine (r5FieldsB_any s A c q0 _ K3.out.tw.sat).mono ?_); rintro e w4 ⟨rfl, hb⟩; have K4 := Lib.hid (K3.out.below hb); clear hb)
      | (go_at_call 25; (with_reducible refine (kind_any s A c q0 q1 _ K4.out.tw.sat).mono ?_); rintro e w5 ⟨rfl, hb⟩; have K5 := Lib.hid (K4.out.below hb); clear hb)
      | (go_at_call 26; (with_reducible refine (type_any s A c q0 q1 _ K5.out.tw.sat).mono ?_); rintro e w6 ⟨rfl, hb⟩; have K6 := Lib.hid (K5.out.below hb); clear hb)
      | (go_at_call 19; (with_reducible refine (deep_any s A c q0 _ K6.out.tw.sat).mono ?_); rintro e w7 ⟨rfl, hb⟩; have K7 := Lib.hid (K6.out.below hb); clear hb)
      | (go_at_call 27; (with_reducible refine (r5Deep_any s A c q0 _ K7.out.tw.sat).mono ?_); rintro e w8 ⟨rfl, hb⟩; have K8 := Lib.hid (K7.out.below hb); clear hb))
  all_goals
    go_wp2
    go_ret
    exact ⟨rfl, K8.out.tw.be⟩

theorem tells_any (s : Sch) (A : Option Addr) (c : Nat) (q0 q1 : Int) (w : World) (hE : Cs.ErrT w) (hs : SAt w A s) : Calls Tryd.prog 9 #[.slice A s.n c, .agg #[.int .i64 q0, .int .i64 q1]] w fun e w' => e = .returned (.bool true) ∧ Below w.heap.size w w' := by
  by_cases h : okS s = true
  · exact tells_yes s A c q0 q1 w hE hs h
  · exact tells_no s A c q0 q1 w hE hs (by simpa using h)

end Go.Proofs.YtfafffeeembceaaDoor
