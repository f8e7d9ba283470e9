/- Check, Fields, Kind, Type; the document's Fields and Field. -/
import Derived.Test.YtojlimpooeehhaaDoorQRow
import Derived.Test.YtojlimpooeehhaaDoorCsMake
namespace Go.Proofs.YtojlimpooeehhaaDoor
open Go.RowKit
set_option maxHeartbeats 1000000 in
theorem check_yes (s : Sch) (A : Option Addr) (c : Nat) (w : World) (hr : SAt w A s) (h : okS s = true) : Calls Tryd.prog 54 #[.slice A s.n c] w fun e w' => e = .returned .nilIface ∧ Below w.heap.size w w' := by
  have HS := Lib.hid hr
  have HR := Lib.hid h
  clear hr h
  go_enter Tryd.func54, Tryd.ntmps54
  go_wp2_with fail
  refine (isRight_any s A c _ HS.out).mono ?_
  rintro e w1 ⟨rfl, hb⟩
  rw [HR.out]
  go_wp2
  go_ret
  exact ⟨rfl, hb⟩
set_option maxHeartbeats 1000000 in
theorem check_no (s : Sch) (A : Option Addr) (c : Nat) (w : World) (hr : SAt w A s) (h : okS s = false) : Calls Tryd.prog 54 #[.slice A s.n c] w fun e w' => e = .returned (.iface 57 (.int .i64 1)) ∧ Below w.heap.size w w' := by
  have HS := Lib.hid hr
  have HR := Lib.hid h
  clear hr h
  go_enter Tryd.func54, Tryd.ntmps54
  go_wp2_with fail
  refine (isRight_any s A c _ HS.out).mono ?_
  rintro e w1 ⟨rfl, hb⟩
  rw [HR.out]
  go_wp2_with fail
  refine (Cs.new_code 1 _ rfl).mono ?_
  rintro e w' ⟨rfl, rfl⟩
  go_wp2
  go_ret
  exact ⟨rfl, hb⟩

/-- Is there a type t? -/
def hasT (s : Sch) (t : Int) : Prop := 0 ≤ t ∧ t < s.n
instance (s : Sch) (t : Int) : Decidable (hasT s t) := by unfold hasT; infer_instance
def lenAt (s : Sch) (t : Int) : Int := if hasT s t then s.len t.toNat else 0
def kAt (s : Sch) (t i : Int) : Int := if hasT s t ∧ 0 ≤ i ∧ i < s.len t.toNat then s.k t.toNat i.toNat else 0
def tAt (s : Sch) (t i : Int) : Int := if hasT s t ∧ 0 ≤ i ∧ i < s.len t.toNat then s.t t.toNat i.toNat else 0

theorem hasType_any (s : Sch) (A : Option Addr) (c : Nat) (t : Int) (w : World) : Calls Tryd.prog 85 #[.slice A s.n c, .int .i64 t] w fun e w' => e = .returned (.bool (decide (hasT s t))) ∧ w = w' := by
  generalize hn : s.n = n
  go_enter Tryd.func85, Tryd.ntmps85
  go_wp2
  all_goals
    go_ret
    refine ⟨ret_bool ?_, rfl⟩
    rw [Bool.eq_iff_iff]
    simp [hasT, hn]
    omega

set_option maxHeartbeats 1000000 in
theorem fields_any (s : Sch) (A : Option Addr) (c : Nat) (t : Int) (w : World) (hr : SAt w A s) : Calls Tryd.prog 55 #[.slice A s.n c, .int .i64 t] w fun e w' => e = .returned (.int .i64 (lenAt s t)) ∧ w = w' := by
  have HS := Lib.hid hr
  clear hr
  by_cases h : hasT s t
  · have hl : lenAt s t = s.len t.toNat := if_pos h
    have h' := h
    unfold hasT at h'
    obtain ⟨m, rfl⟩ : ∃ m : Nat, t = m := ⟨t.toNat, by omega⟩
    have hm : m < s.n := by omega
    simp only [Int.toNat_natCast] at hl
    rw [hl]
    obtain ⟨b, off, rfl, hb, hc⟩ := HS.out.some_ (by omega)
    obtain ⟨Ai, ci, hcell, -⟩ := hc m hm
    clear hc hl h'
    go_enter Tryd.func55, Tryd.ntmps55
    go_wp2_with fail
    refine (hasType_any s _ c m _).mono ?_
    rintro e w' ⟨rfl, rfl⟩
    rw [decide_eq_true h]
    go_wp2
    go_ret
    exact ⟨rfl, rfl⟩
  · have hl : lenAt s t = 0 := if_neg h
    rw [hl]
    go_enter Tryd.func55, Tryd.ntmps55
    go_wp2_with fail
    refine (hasType_any s _ c t _).mono ?_
    rintro e w' ⟨rfl, rfl⟩
    rw [decide_eq_false h]
    go_wp2
    go_ret
    exact ⟨rfl, rfl⟩

set_option maxRecDepth 100000 in
set_option maxHeartbeats 1000000 in
theorem field_any (s : Sch) (A : Option Addr) (c : Nat) (t i : Int) (w : World) (hr : SAt w A s) : Calls Tryd.prog 99 #[.slice A s.n c, .int .i64 t, .int .i64 i] w fun e w' => e = .returned (.agg #[.int .i64 (kAt s t i), .int .i64 (tAt s t i)]) ∧ Below w.heap.size w w' := by
  have HS := Lib.hid hr
  clear hr
  by_cases h : hasT s t ∧ 0 ≤ i ∧ i < s.len t.toNat
  · have hk : kAt s t i = s.k t.toNat i.toNat := if_pos h
    have ht : tAt s t i = s.t t.toNat i.toNat := if_pos h
    have hl : lenAt s t = s.len t.toNat := if_pos h.1
    have h' := h.1
    unfold hasT at h'
    obtain ⟨m, rfl⟩ : ∃ m : Nat, t = m := ⟨t.toNat, by omega⟩
    obtain ⟨j, rfl⟩ : ∃ j : Nat, i = j := ⟨i.toNat, by omega⟩
    have hm : m < s.n := by omega
    simp only [Int.toNat_natCast] at hl hk ht h
    have hj : j < s.len m := by omega
    rw [hk, ht]
    have HL := Lib.hid hl
    obtain ⟨b, off, rfl, hb, hc⟩ := HS.out.some_ (by omega)
    obtain ⟨Ai, ci, hcell, hf⟩ := hc m hm
    obtain ⟨b', off', rfl, hb', hc'⟩ := hf.some_ (by omega)
    obtain ⟨c1, c2⟩ := hc' j hj
    clear hc hc' hf h h' hl hk ht
    go_enter Tryd.func99, Tryd.ntmps99
    have d0 : decide ((j : Int) < 0) = false := by simp
    go_wp2_with fail
    refine (fields_any s _ c m _ (HS.out.below ((Below.refl _ _).alloc (Nat.le_refl _) _))).mono ?_
    rintro e w' ⟨rfl, rfl⟩
    rw [HL.out]
    go_wp2
    refine bodyPost_ret (v := .agg #[.int .i64 (s.k m j), .int .i64 (s.t m j)]) (by simp [results, Tryd.results99, go_sem]) rfl ⟨rfl, ?_⟩
    (repeat (first | with_reducible exact Below.refl _ _ | with_reducible refine Below.drew ?_ | (with_reducible refine Below.setCell ?_ ?side _; case side => exact (by first | (simp; done) | (simp; omega) | omega)) | (with_reducible refine Below.alloc ?_ ?side _; case side => exact (by first | (simp; done) | (simp; omega) | omega))))
  · have hk : kAt s t i = 0 := if_neg h
    have ht : tAt s t i = 0 := if_neg h
    rw [hk, ht]
    go_enter Tryd.func99, Tryd.ntmps99
    by_cases hi : i < 0
    · have d0 : decide (i < 0) = true := by simpa using hi
      go_wp2
      refine bodyPost_ret (v := .agg #[.int .i64 0, .int .i64 0]) (by simp [results, Tryd.results99, go_sem]) rfl ⟨rfl, ?_⟩
      (repeat (first | with_reducible exact Below.refl _ _ | with_reducible refine Below.drew ?_ | (with_reducible refine Below.setCell ?_ ?side _; case side => exact (by first | (simp; done) | (simp; omega) | omega)) | (with_reducible refine Below.alloc ?_ ?side _; case side => exact (by first | (simp; done) | (simp; omega) | omega))))
    · have d0 : decide (i < 0) = false := by simpa using hi
      have d1 : decide (lenAt s t ≤ i) = true := by
        by_cases g : hasT s t
        · rw [lenAt, if_pos g]
          have : ¬ (0 ≤ i ∧ i < s.len t.toNat) := fun k => h ⟨g, k⟩
          simp only [decide_eq_true_eq]
          omega
        · rw [lenAt, if_neg g]; simp only [decide_eq_true_eq]; omega
      go_wp2_with fail
      refine (fields_any s _ c t _ (HS.out.below ((Below.refl _ _).alloc (Nat.le_refl _) _))).mono ?_
      rintro e w' ⟨rfl, rfl⟩
      generalize lenAt s t = L at d1 ⊢
      go_wp2
      refine bodyPost_ret (v := .agg #[.int .i64 0, .int .i64 0]) (by simp [results, Tryd.results99, go_sem]) rfl ⟨rfl, ?_⟩
      (repeat (first | with_reducible exact Below.refl _ _ | with_reducible refine Below.drew ?_ | (with_reducible refine Below.setCell ?_ ?side _; case side => exact (by first | (simp; done) | (simp; omega) | omega)) | (with_reducible refine Below.alloc ?_ ?side _; case side => exact (by first | (simp; done) | (simp; omega) | omega))))

theorem fld_0 (a b : Int) (w : World) : (Instr.field 64 (.agg #[.int .i64 a, .int .i64 b]) 0).run Tryd.prog w = .ok (.int .i64 a) w := by kernel_rfl
theorem fld_1 (a b : Int) (w : World) : (Instr.field 64 (.agg #[.int .i64 a, .int .i64 b]) 1).run Tryd.prog w = .ok (.int .i64 b) w := by kernel_rfl
set_option maxRecDepth 100000 in
set_option maxHeartbeats 1000000 in
theorem kind_any (s : Sch) (A : Option Addr) (c : Nat) (t i : Int) (w : World) (hr : SAt w A s) : Calls Tryd.prog 79 #[.slice A s.n c, .int .i64 t, .int .i64 i] w fun e w' => e = .returned (.int .i64 (kAt s t i)) ∧ Below w.heap.size w w' := by
  have HS := Lib.hid hr
  clear hr
  go_enter Tryd.func79, Tryd.ntmps79
  go_wp2_with fail
  refine (field_any s _ c t i _ HS.out).mono ?_
  rintro e w' ⟨rfl, hb⟩
  have HB := Lib.hid hb
  clear hb
  have f0 := fld_0
  have f1 := fld_1
  go_wp2
  go_ret
  exact ⟨rfl, HB.out⟩
set_option maxRecDepth 100000 in
set_option maxHeartbeats 1000000 in
theorem type_any (s : Sch) (A : Option Addr) (c : Nat) (t i : Int) (w : World) (hr : SAt w A s) : Calls Tryd.prog 83 #[.slice A s.n c, .int .i64 t, .int .i64 i] w fun e w' => e = .returned (.int .i64 (tAt s t i)) ∧ Below w.heap.size w w' := by
  have HS := Lib.hid hr
  clear hr
  go_enter Tryd.func83, Tryd.ntmps83
  go_wp2_with fail
  refine (field_any s _ c t i _ HS.out).mono ?_
  rintro e w' ⟨rfl, hb⟩
  have HB := Lib.hid hb
  clear hb
  have f0 := fld_0
  have f1 := fld_1
  go_wp2
  go_ret
  exact ⟨rfl, HB.out⟩


end Go.Proofs.YtojlimpooeehhaaDoor
