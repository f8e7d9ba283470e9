/- What cause tells of an arena's trouble; what a nil arena answers; ArenaNil: the walk. -/
import Derived.Test.YtkndgdokpbbdpaaDoorDMeth
import Derived.Test.YtkndgdokpbbdpaaDoorCsTop
namespace Go.Proofs.YtkndgdokpbbdpaaDoor
open Go.RowKit

def encE : Option Int → List (Int × Int)
  | none => []
  | some i => [(0, i), (23, 0)]
theorem errV_enc (e : Option Int) : errV e = Cs.enc (encE e) := by
  cases e with
  | none => rfl
  | some i => simp [errV, trouble, encE, Cs.enc]
theorem ok_encE (e : Option Int) : Cs.Ok (encE e) := by
  cases e <;> simp [encE, Cs.Ok]
theorem len_encE (e : Option Int) : (encE e).length ≤ 1000 := by
  cases e <;> simp [encE]

theorem cword_any (e : Option Int) (w : World) : Calls Tryd.prog 18 #[errV e] w fun r w' => r = .returned (.tuple #[.int .i64 (e.getD 0), .bool e.isSome]) ∧ Below w.heap.size w w' := by
  have h := Cs.word_any (encE e) (ok_encE e) (len_encE e) w
  rw [← errV_enc] at h
  have e1 : Cs.wordFrom (0, false) (encE e) = (e.getD 0, e.isSome) := by cases e <;> simp [encE, Cs.wordFrom]
  rw [e1] at h
  exact h

def topE (e : Option Int) : Int := if e.isSome then 23 else 0
theorem ctop_any (e : Option Int) (w : World) (hE : Cs.ErrT w) : Calls Tryd.prog 20 #[errV e] w fun r w' => r = .returned (.int .i64 (topE e)) ∧ Below w.heap.size w w' := by
  have h := Cs.top_any (encE e) (ok_encE e) (len_encE e) w hE
  rw [← errV_enc] at h
  have e1 : Cs.topP (encE e) = topE e := by
    cases e with
    | none => rfl
    | some i => rw [encE, Cs.top_word, Cs.top_code _ _ (by omega)]; rfl
  rw [e1] at h
  exact h
theorem ctop_one (w : World) (hE : Cs.ErrT w) : Calls Tryd.prog 20 #[.iface 42 (.int .i64 1)] w fun r w' => r = .returned (.int .i64 1) ∧ Below w.heap.size w w' := by
  have h := Cs.top_any [(1, 0)] (by simp [Cs.Ok]) (by simp) w hE
  rw [Cs.top_code _ _ (by omega)] at h
  have e1 : Cs.enc [(1, 0)] = .iface 42 (.int .i64 1) := by simp [Cs.enc]
  rw [e1] at h
  exact h

set_option maxRecDepth 100000 in
set_option maxHeartbeats 1000000 in
theorem step_nil (w : World) (K i : Int) (d : Value) : Calls Tryd.prog 26 #[.pointer none, .int .i64 K, .int .i64 i, d] w fun e w' => e = .returned (.agg #[.int .i64 0, .int .i64 0, .int .u64 0, .bool false]) ∧ Below w.heap.size w w' := by
  go_enter Tryd.func26, Tryd.ntmps26
  go_wp2
  exact bodyPost_ret (v := .agg #[.int .i64 0, .int .i64 0, .int .u64 0, .bool false]) (by simp [results, Tryd.results26, go_sem]) rfl ⟨rfl, (Below.refl _ _).alloc (Nat.le_refl _) _⟩

set_option maxHeartbeats 400000 in
theorem load_nil (w : World) (i : Int) : Calls Tryd.prog 12 #[.pointer none, .int .i64 i] w fun e w' => e = .returned (.int .u64 0) ∧ Below w.heap.size w w' := by
  have hfl := fld_v
  go_enter Tryd.func12, Tryd.ntmps12
  go_wp2_with fail
  refine (step_nil _ _ _ _).mono ?_
  rintro e w' ⟨rfl, hb⟩
  have HB := Lib.hid hb
  clear hb
  go_wp2
  go_ret
  exact ⟨rfl, HB.out⟩

set_option maxHeartbeats 400000 in
theorem store_nil (w : World) (i v : Int) : Calls Tryd.prog 14 #[.pointer none, .int .i64 i, .int .u64 v] w fun e w' => e = .returned (.tuple #[]) ∧ Below w.heap.size w w' := by
  have hmf := mk_func
  go_enter Tryd.func14, Tryd.ntmps14
  go_wp2_with fail
  refine (step_nil _ _ _ _).mono ?_
  rintro e w' ⟨rfl, hb⟩
  have HB := Lib.hid (((Below.refl _ w).alloc (Nat.le_refl _) _).trans (hb.mono (by simp)))
  clear hb
  go_wp2
  go_end0
  exact ⟨rfl, HB.out⟩

set_option maxHeartbeats 400000 in
theorem swap_nil (w : World) (i o v : Int) : Calls Tryd.prog 16 #[.pointer none, .int .i64 i, .int .u64 o, .int .u64 v] w fun e w' => e = .returned (.bool false) ∧ Below w.heap.size w w' := by
  have hmf := mk_func
  have hfl := fld_ch
  go_enter Tryd.func16, Tryd.ntmps16
  go_wp2_with fail
  refine (step_nil _ _ _ _).mono ?_
  rintro e w' ⟨rfl, hb⟩
  have HB := Lib.hid ((((Below.refl _ w).alloc (Nat.le_refl _) _).alloc (by simp) _).trans (hb.mono (by simp; omega)))
  clear hb
  go_wp2
  go_ret
  exact ⟨rfl, HB.out⟩

set_option maxHeartbeats 400000 in
theorem steps_nil (w : World) : Calls Tryd.prog 21 #[.pointer none] w fun e w' => e = .returned (.int .i64 0) ∧ w = w' := by
  go_enter Tryd.func21, Tryd.ntmps21
  go_wp2
  go_ret
  exact ⟨rfl, rfl⟩
set_option maxHeartbeats 400000 in
theorem len_nil (w : World) : Calls Tryd.prog 25 #[.pointer none] w fun e w' => e = .returned (.int .i64 0) ∧ w = w' := by
  go_enter Tryd.func25, Tryd.ntmps25
  go_wp2
  go_ret
  exact ⟨rfl, rfl⟩
set_option maxHeartbeats 400000 in
theorem words_nil (w : World) : Calls Tryd.prog 24 #[.pointer none] w fun e w' => e = .returned (.slice none 0 0) ∧ w = w' := by
  go_enter Tryd.func24, Tryd.ntmps24
  go_wp2
  go_ret
  exact ⟨rfl, rfl⟩
set_option maxHeartbeats 400000 in
theorem last_nil (w : World) : Calls Tryd.prog 22 #[.pointer none] w fun e w' => e = .returned (.agg #[.int .i64 0, .int .i64 0, .int .u64 0, .bool false]) ∧ Below w.heap.size w w' := by
  go_enter Tryd.func22, Tryd.ntmps22
  go_wp2
  exact bodyPost_ret (v := .agg #[.int .i64 0, .int .i64 0, .int .u64 0, .bool false]) (by simp [results, Tryd.results22, go_sem]) rfl ⟨rfl, (Below.refl _ _).alloc (Nat.le_refl _) _⟩
set_option maxHeartbeats 400000 in
theorem c_new1 (w : World) : Calls Tryd.prog 32 #[.int .i64 1] w fun e w' => e = .returned (.iface 42 (.int .i64 1)) ∧ w = w' := by
  go_enter Tryd.func32, Tryd.ntmps32
  go_wp2
  go_ret
  exact ⟨rfl, rfl⟩
set_option maxHeartbeats 400000 in
theorem err_nil (w : World) : Calls Tryd.prog 19 #[.pointer none] w fun e w' => e = .returned (.iface 42 (.int .i64 1)) ∧ w = w' := by
  go_enter Tryd.func19, Tryd.ntmps19
  go_wp2_with (go_at_call 32; refine (c_new1 _).mono ?_; rintro e w' ⟨rfl, rfl⟩)
  go_ret
  exact ⟨rfl, rfl⟩

set_option maxRecDepth 100000 in
set_option maxHeartbeats 1000000 in
theorem lawNil_any (i v : Int) (w : World) (hE : Cs.ErrT w) : Calls Tryd.prog 5 #[.int .i64 i, .int .u64 v] w fun e w' => e = .returned (.bool true) ∧ Below w.heap.size w w' := by
  have HE := Lib.hid hE
  have hfk := fld_k
  clear hE
  go_enter Tryd.func5, Tryd.ntmps5
  go_wp2_with fail
  refine (store_nil _ _ _).mono ?_
  rintro e w1 ⟨rfl, hb⟩
  have H1 := Lib.hid hb
  clear hb
  go_wp2_with fail
  refine (awake_any _).mono ?_
  rintro e w2 ⟨rfl, hb⟩
  have H2 := Lib.hid (H1.out.trans (hb.mono H1.out.size))
  clear hb H1
  go_wp2_with fail
  refine (load_nil _ _).mono ?_
  rintro e w3 ⟨rfl, hb⟩
  have H3 := Lib.hid (H2.out.trans (hb.mono H2.out.size))
  clear hb H2
  go_wp2_with fail
  refine (swap_nil _ _ _ _).mono ?_
  rintro e w4 ⟨rfl, hb⟩
  have H4 := Lib.hid (H3.out.trans (hb.mono H3.out.size))
  clear hb H3
  go_wp2_with fail
  refine (steps_nil _).mono ?_
  rintro e w' ⟨rfl, rfl⟩
  go_wp2_with fail
  refine (len_nil _).mono ?_
  rintro e w' ⟨rfl, rfl⟩
  go_wp2_with fail
  refine (words_nil _).mono ?_
  rintro e w' ⟨rfl, rfl⟩
  go_wp2_with fail
  refine (last_nil _).mono ?_
  rintro e w5 ⟨rfl, hb⟩
  have H5 := Lib.hid (H4.out.trans (hb.mono H4.out.size))
  clear hb H4
  go_wp2_with fail
  refine (err_nil _).mono ?_
  rintro e w' ⟨rfl, rfl⟩
  go_wp2_with fail
  refine (ctop_one _ (HE.out.below H5.out)).mono ?_
  rintro e w6 ⟨rfl, hb⟩
  have H6 := Lib.hid (H5.out.trans (hb.mono H5.out.size))
  clear hb H5
  go_wp2
  go_ret
  exact ⟨rfl, H6.out⟩
end Go.Proofs.YtkndgdokpbbdpaaDoor
