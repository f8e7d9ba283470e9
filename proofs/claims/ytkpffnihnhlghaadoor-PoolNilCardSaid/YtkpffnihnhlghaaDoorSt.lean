/- An arena's state as a value; Load, Store, Swap, Last, New and Words by it. -/
import Derived.Test.YtkpffnihnhlghaaDoorMeth
import Derived.OwnWalk
namespace Go.Proofs.YtkpffnihnhlghaaDoor
open Go.RowKit
/-- What an arena is: its words; its steps; the last step's kind, word, value, change; where its first trouble was. -/
structure St where
  f : Nat → Int
  s : Int
  k : Int
  i : Int
  v : Int
  ch : Bool
  e : Option Int

def St.zero : St := ⟨fun _ => 0, 0, 0, 0, 0, false, none⟩
/-- An arena of n words in that state, at block p, its words in block c. -/
def ArS (w : World) (p c n : Nat) (x : St) : Prop := Ar w p c n x.f x.s x.k x.i x.v x.ch (errV x.e)
/-- There is an i-th word. -/
def inB (n : Nat) (i : Int) : Bool := decide (0 ≤ i) && decide (i < (n : Int))
def St.out (x : St) (k i : Int) : St := { x with s := x.s + 1, k := k, i := i, v := 0, ch := false, e := some (x.e.getD i) }
def St.kept (x : St) (k i : Int) : St := { x with s := x.s + 1, k := k, i := i, v := x.f i.toNat, ch := false }
def St.made (x : St) (k i y : Int) : St := { x with f := put x.f i.toNat y, s := x.s + 1, k := k, i := i, v := y, ch := true }
def St.load (x : St) (n : Nat) (i : Int) : St := if inB n i then x.kept 1 i else x.out 1 i
def St.loaded (x : St) (n : Nat) (i : Int) : Int := if inB n i then x.f i.toNat else 0
def St.store (x : St) (n : Nat) (i y : Int) : St := if inB n i then x.made 2 i y else x.out 2 i
def St.swapped (x : St) (n : Nat) (i o : Int) : Bool := inB n i && decide (x.f i.toNat = o)
def St.swap (x : St) (n : Nat) (i o y : Int) : St := if inB n i then (if x.f i.toNat = o then x.made 3 i y else x.kept 3 i) else x.out 3 i

theorem inB_true {n : Nat} {i : Int} (h : inB n i = true) : ∃ m : Nat, i = m ∧ m < n := by
  simp [inB] at h
  exact ⟨i.toNat, by omega, by omega⟩
theorem inB_false {n : Nat} {i : Int} (h : ¬ inB n i = true) : i < 0 ∨ (n : Int) ≤ i := by
  simp [inB] at h
  omega
theorem inB_nat {n m : Nat} (h : m < n) : inB n (m : Int) = true := by simp [inB, h]

theorem St.load_s (x : St) (n : Nat) (i : Int) : (x.load n i).s = x.s + 1 := by unfold St.load St.kept St.out; split <;> rfl
theorem St.store_s (x : St) (n : Nat) (i y : Int) : (x.store n i y).s = x.s + 1 := by unfold St.store St.made St.out; split <;> rfl
theorem St.swap_s (x : St) (n : Nat) (i o y : Int) : (x.swap n i o y).s = x.s + 1 := by unfold St.swap St.made St.kept St.out; split <;> (try split) <;> rfl

/-- What a step's step tells, and leaves behind. -/
def Stepped (p c n : Nat) (w : World) (y : St) (e : Ending) (w' : World) : Prop := e = .returned (.agg #[.int .i64 y.k, .int .i64 y.i, .int .u64 y.v, .bool y.ch]) ∧ ArS w' p c n y ∧ Only p c w w'

theorem stepS_load (w : World) (p c n : Nat) (x : St) (h : ArS w p c n x) (h0 : 0 ≤ x.s) (h1 : x.s < 1000000) (i : Int) :
    Calls Tryd.prog 114 #[.pointer (some ⟨p, 0, none⟩), .int .i64 1, .int .i64 i, .func (.func 155) #[] #[]] w (Stepped p c n w (x.load n i)) := by
  by_cases hi : inB n i = true
  · rw [St.load, if_pos hi]
    obtain ⟨m, rfl, hm⟩ := inB_true hi
    refine (step_load w p c n _ _ _ _ _ _ _ h h0 h1 1 m hm).mono ?_
    rintro e w' ⟨rfl, hA, hO⟩
    rw [put_same] at hA
    exact ⟨by simp [St.kept], hA, hO⟩
  · rw [St.load, if_neg hi]
    refine (step_out w p c n _ _ _ _ _ _ _ h h0 h1 1 i _ (inB_false hi)).mono ?_
    rintro e w' ⟨rfl, hA, hO⟩
    exact ⟨by simp [St.out], hA, hO⟩

theorem stepS_store (w : World) (p c n : Nat) (x : St) (h : ArS w p c n x) (h0 : 0 ≤ x.s) (h1 : x.s < 1000000) (i y : Int) (q : Nat) (qz : q < w.heap.size) (qp : q ≠ p) (qc : q ≠ c) (qv : w.cell? ⟨q, 0, none⟩ = some (.int .u64 y)) :
    Calls Tryd.prog 114 #[.pointer (some ⟨p, 0, none⟩), .int .i64 2, .int .i64 i, .func (.func 115) #[] #[.pointer (some ⟨q, 0, none⟩)]] w (Stepped p c n w (x.store n i y)) := by
  by_cases hi : inB n i = true
  · rw [St.store, if_pos hi]
    obtain ⟨m, rfl, hm⟩ := inB_true hi
    refine (step_store w p c n _ _ _ _ _ _ _ h h0 h1 2 m hm y q qz qp qc qv).mono ?_
    rintro e w' ⟨rfl, hA, hO⟩
    exact ⟨by simp [St.made], hA, hO⟩
  · rw [St.store, if_neg hi]
    refine (step_out w p c n _ _ _ _ _ _ _ h h0 h1 2 i _ (inB_false hi)).mono ?_
    rintro e w' ⟨rfl, hA, hO⟩
    exact ⟨by simp [St.out], hA, hO⟩

theorem stepS_swap (w : World) (p c n : Nat) (x : St) (h : ArS w p c n x) (h0 : 0 ≤ x.s) (h1 : x.s < 1000000) (i o y : Int) (q r : Nat) (qz : q < w.heap.size) (qp : q ≠ p) (qc : q ≠ c) (qv : w.cell? ⟨q, 0, none⟩ = some (.int .u64 o)) (rz : r < w.heap.size) (rp : r ≠ p) (rc : r ≠ c) (rv : w.cell? ⟨r, 0, none⟩ = some (.int .u64 y)) :
    Calls Tryd.prog 114 #[.pointer (some ⟨p, 0, none⟩), .int .i64 3, .int .i64 i, .func (.func 159) #[] #[.pointer (some ⟨q, 0, none⟩), .pointer (some ⟨r, 0, none⟩)]] w (Stepped p c n w (x.swap n i o y)) := by
  by_cases hi : inB n i = true
  · rw [St.swap, if_pos hi]
    obtain ⟨m, rfl, hm⟩ := inB_true hi
    by_cases ho : x.f m = o
    · rw [if_pos (by simpa using ho)]
      subst ho
      refine (step_hit w p c n _ _ _ _ _ _ _ h h0 h1 3 m hm y q qz qp qc qv r rz rp rc rv).mono ?_
      rintro e w' ⟨rfl, hA, hO⟩
      exact ⟨by simp [St.made], hA, hO⟩
    · rw [if_neg (by simpa using ho)]
      refine (step_miss w p c n _ _ _ _ _ _ _ h h0 h1 3 m hm o (by simpa using ho) q qz qp qc qv _).mono ?_
      rintro e w' ⟨rfl, hA, hO⟩
      rw [put_same] at hA
      exact ⟨by simp [St.kept], hA, hO⟩
  · rw [St.swap, if_neg hi]
    refine (step_out w p c n _ _ _ _ _ _ _ h h0 h1 3 i _ (inB_false hi)).mono ?_
    rintro e w' ⟨rfl, hA, hO⟩
    exact ⟨by simp [St.out], hA, hO⟩

theorem St.load_v (x : St) (n : Nat) (i : Int) : (x.load n i).v = x.loaded n i := by unfold St.load St.loaded St.kept St.out; split <;> rfl
theorem St.swap_ch (x : St) (n : Nat) (i o y : Int) : (x.swap n i o y).ch = x.swapped n i o := by
  unfold St.swap St.swapped St.kept St.out St.made
  by_cases h : inB n i = true
  · by_cases g : x.f i.toNat = o <;> simp [h, g]
  · simp [h]

theorem fld_i (a b v : Int) (d : Bool) (w : World) : (Instr.field 82 (.agg #[.int .i64 a, .int .i64 b, .int .u64 v, .bool d]) 1).run Tryd.prog w = .ok (.int .i64 b) w := by kernel_rfl
theorem fld_v (a b v : Int) (d : Bool) (w : World) : (Instr.field 82 (.agg #[.int .i64 a, .int .i64 b, .int .u64 v, .bool d]) 2).run Tryd.prog w = .ok (.int .u64 v) w := by kernel_rfl
theorem fld_ch (a b v : Int) (d : Bool) (w : World) : (Instr.field 82 (.agg #[.int .i64 a, .int .i64 b, .int .u64 v, .bool d]) 3).run Tryd.prog w = .ok (.bool d) w := by kernel_rfl
theorem fld_k (a b v : Int) (d : Bool) (w : World) : (Instr.field 82 (.agg #[.int .i64 a, .int .i64 b, .int .u64 v, .bool d]) 0).run Tryd.prog w = .ok (.int .i64 a) w := by kernel_rfl

set_option maxHeartbeats 400000 in
theorem load_any (w : World) (p c n : Nat) (x : St) (h : ArS w p c n x) (h0 : 0 ≤ x.s) (h1 : x.s < 1000000) (i : Int) :
    Calls Tryd.prog 145 #[.pointer (some ⟨p, 0, none⟩), .int .i64 i] w fun e w' => e = .returned (.int .u64 (x.loaded n i)) ∧ ArS w' p c n (x.load n i) ∧ Only p c w w' := by
  have H := Lib.hid (St.load_v x n i)
  have hfl := fld_v
  go_enter Tryd.func145, Tryd.ntmps145
  go_wp2_with fail
  refine (stepS_load w p c n x h h0 h1 i).mono ?_
  rintro e w' ⟨rfl, hA, hO⟩
  have HA := Lib.hid hA
  have HO := Lib.hid hO
  clear hA hO h
  go_wp2
  go_ret
  exact ⟨by rw [← H.out]; rfl, HA.out, HO.out⟩

set_option maxHeartbeats 400000 in
theorem store_any (w : World) (p c n : Nat) (x : St) (h : ArS w p c n x) (h0 : 0 ≤ x.s) (h1 : x.s < 1000000) (i y : Int) :
    Calls Tryd.prog 66 #[.pointer (some ⟨p, 0, none⟩), .int .i64 i, .int .u64 y] w fun e w' => e = .returned (.tuple #[]) ∧ ArS w' p c n (x.store n i y) ∧ Only p c w w' := by
  have hmf := mk_funcA
  have hp := h.obj.lt
  have hcl := h.row.lt
  go_enter Tryd.func66, Tryd.ntmps66
  go_wp2_with fail
  refine (stepS_store _ p c n x (Ar.alloc h _) h0 h1 i y w.heap.size (by simp) (by omega) (by omega) (by go_simp)).mono ?_
  rintro e w' ⟨rfl, hA, hO⟩
  have HA := Lib.hid hA
  have HO := Lib.hid (((Only.refl p c w).alloc _).trans hO)
  clear hA hO h
  go_wp2
  go_end0
  exact ⟨rfl, HA.out, HO.out⟩

set_option maxHeartbeats 400000 in
theorem swap_any (w : World) (p c n : Nat) (x : St) (h : ArS w p c n x) (h0 : 0 ≤ x.s) (h1 : x.s < 1000000) (i o y : Int) :
    Calls Tryd.prog 157 #[.pointer (some ⟨p, 0, none⟩), .int .i64 i, .int .u64 o, .int .u64 y] w fun e w' => e = .returned (.bool (x.swapped n i o)) ∧ ArS w' p c n (x.swap n i o y) ∧ Only p c w w' := by
  have hmf := mk_funcA
  have H := Lib.hid (St.swap_ch x n i o y)
  have hfl := fld_ch
  have hp := h.obj.lt
  have hcl := h.row.lt
  go_enter Tryd.func157, Tryd.ntmps157
  go_wp2_with fail
  refine (stepS_swap _ p c n x (Ar.alloc (Ar.alloc h _) _) h0 h1 i o y w.heap.size (w.heap.size + 1) (by simp; omega) (by omega) (by omega) (by go_simp) (by simp) (by omega) (by omega) (by go_simp)).mono ?_
  rintro e w' ⟨rfl, hA, hO⟩
  have HA := Lib.hid hA
  have HO := Lib.hid ((((Only.refl p c w).alloc _).alloc _).trans hO)
  clear hA hO h
  go_wp2
  go_ret
  exact ⟨by rw [← H.out]; rfl, HA.out, HO.out⟩

set_option maxHeartbeats 400000 in
theorem last_any (w : World) (p c n : Nat) (x : St) (h : ArS w p c n x) :
    Calls Tryd.prog 32 #[.pointer (some ⟨p, 0, none⟩)] w fun e w' => e = .returned (.agg #[.int .i64 x.k, .int .i64 x.i, .int .u64 x.v, .bool x.ch]) ∧ Below w.heap.size w w' := by
  have c2 := h.c2
  have c3 := h.c3
  have c4 := h.c4
  have c5 := h.c5
  have hp := h.obj.lt
  go_enter Tryd.func32, Tryd.ntmps32
  go_wp2
  exact bodyPost_ret (v := .agg #[.int .i64 x.k, .int .i64 x.i, .int .u64 x.v, .bool x.ch]) (by simp [results, Tryd.results32, go_sem]) rfl ⟨rfl, (Below.refl _ _).alloc (Nat.le_refl _) _⟩

theorem info_u64 : (Tryd.prog.info? 29).map (fun i => (i.zero, i.size, i.bytes)) = some (some (.int .u64 0), 1, 8) := by kernel_rfl

theorem new_row (w : World) (n : Nat) (o : Obj) : ((w.alloc (.cells (madeCells #[.int .u64 0] n) 29)).alloc o).rowIs w.heap.size 29 n (fun _ => .int .u64 0) := (World.rowIs_made w (.int .u64 0) n 29).alloc o

set_option maxHeartbeats 400000 in
theorem new_some (n : Nat) (h1 : 1 ≤ n) (h2 : n ≤ 4096) (w : World) : Calls Tryd.prog 63 #[.int .i64 n] w fun e w' => e = .returned (.pointer (some ⟨w.heap.size + 1, 0, none⟩)) ∧ ArS w' (w.heap.size + 1) w.heap.size n St.zero ∧ Below w.heap.size w w' := by
  have hmk := run_make_row' (P := Tryd.prog) 25 29 (.int .u64 0) 8 Tryd.underlying25 info_u64 rfl .i64 .i64 n (by omega) (by omega)
  go_enter Tryd.func63, Tryd.ntmps63
  go_wp2
  go_ret
  refine ⟨rfl, ⟨?_, new_row _ _ _, by omega⟩, ((Below.refl _ _).alloc (Nat.le_refl _) _).alloc (by simp) _⟩
  have h := World.rowIs_alloc (w.alloc (.cells (madeCells #[.int .u64 0] n) 29)) #[.slice (some ⟨w.heap.size, 0, none⟩) n n, .int .i64 0, .int .i64 0, .int .i64 0, .int .u64 0, .bool false, .nilIface] 156 (objC w.heap.size n 0 0 0 0 false .nilIface) (by intro j hj; match j, hj with | 0, _ => rfl | 1, _ => rfl | 2, _ => rfl | 3, _ => rfl | 4, _ => rfl | 5, _ => rfl | 6, _ => rfl)
  simp only [World.size_alloc] at h
  exact h

end Go.Proofs.YtkpffnihnhlghaaDoor
