/- An arena's state as a value; Load, Store, Swap, Last, New and Words by it. -/
import Derived.Test.YtkhbhkllnigbgaaDoorMeth
import Derived.OwnWalk
namespace Go.Proofs.YtkhbhkllnigbgaaDoor
open Go.RowKit
/-- What an arena is: its words; its steps; the last step's kind, word, value, change; where its first trouble was. -/
structure St where
  f : Nat → Int
  s : Int
  k : Int
  i : Int
  v : Int
  ch : Bool
  e : Option Int

def St.zero : St := ⟨fun _ => 0, 0, 0, 0, 0, false, none⟩
/-- There is an i-th word. -/
def inB (n : Nat) (i : Int) : Bool := decide (0 ≤ i) && decide (i < (n : Int))
def St.out (x : St) (k i : Int) : St := { x with s := x.s + 1, k := k, i := i, v := 0, ch := false, e := some (x.e.getD i) }
def St.kept (x : St) (k i : Int) : St := { x with s := x.s + 1, k := k, i := i, v := x.f i.toNat, ch := false }
def St.made (x : St) (k i y : Int) : St := { x with f := put x.f i.toNat y, s := x.s + 1, k := k, i := i, v := y, ch := true }
def St.load (x : St) (n : Nat) (i : Int) : St := if inB n i then x.kept 1 i else x.out 1 i
def St.loaded (x : St) (n : Nat) (i : Int) : Int := if inB n i then x.f i.toNat else 0
def St.store (x : St) (n : Nat) (i y : Int) : St := if inB n i then x.made 2 i y else x.out 2 i
def St.swapped (x : St) (n : Nat) (i o : Int) : Bool := inB n i && decide (x.f i.toNat = o)
def St.swap (x : St) (n : Nat) (i o y : Int) : St := if inB n i then (if x.f i.toNat = o then x.made 3 i y else x.kept 3 i) else x.out 3 i

theorem inB_true {n : Nat} {i : Int} (h : inB n i = true) : ∃ m : Nat, i = m ∧ m < n := by
  simp [inB] at h
  exact ⟨i.toNat, by omega, by omega⟩
theorem inB_false {n : Nat} {i : Int} (h : ¬ inB n i = true) : i < 0 ∨ (n : Int) ≤ i := by
  simp [inB] at h
  omega
theorem inB_nat {n m : Nat} (h : m < n) : inB n (m : Int) = true := by simp [inB, h]

theorem St.load_s (x : St) (n : Nat) (i : Int) : (x.load n i).s = x.s + 1 := by unfold St.load St.kept St.out; split <;> rfl
theorem St.store_s (x : St) (n : Nat) (i y : Int) : (x.store n i y).s = x.s + 1 := by unfold St.store St.made St.out; split <;> rfl
theorem St.swap_s (x : St) (n : Nat) (i o y : Int) : (x.swap n i o y).s = x.s + 1 := by unfold St.swap St.made St.kept St.out; split <;> (try split) <;> rfl

theorem St.load_v (x : St) (n : Nat) (i : Int) : (x.load n i).v = x.loaded n i := by unfold St.load St.loaded St.kept St.out; split <;> rfl
theorem St.swap_ch (x : St) (n : Nat) (i o y : Int) : (x.swap n i o y).ch = x.swapped n i o := by
  unfold St.swap St.swapped St.kept St.out St.made
  by_cases h : inB n i = true
  · by_cases g : x.f i.toNat = o <;> simp [h, g]
  · simp [h]

theorem fld_i (a b v : Int) (d : Bool) (w : World) : (Instr.field 88 (.agg #[.int .i64 a, .int .i64 b, .int .u64 v, .bool d]) 1).run Tryd.prog w = .ok (.int .i64 b) w := by kernel_rfl
theorem fld_v (a b v : Int) (d : Bool) (w : World) : (Instr.field 88 (.agg #[.int .i64 a, .int .i64 b, .int .u64 v, .bool d]) 2).run Tryd.prog w = .ok (.int .u64 v) w := by kernel_rfl
theorem fld_ch (a b v : Int) (d : Bool) (w : World) : (Instr.field 88 (.agg #[.int .i64 a, .int .i64 b, .int .u64 v, .bool d]) 3).run Tryd.prog w = .ok (.bool d) w := by kernel_rfl
theorem fld_k (a b v : Int) (d : Bool) (w : World) : (Instr.field 88 (.agg #[.int .i64 a, .int .i64 b, .int .u64 v, .bool d]) 0).run Tryd.prog w = .ok (.int .i64 a) w := by kernel_rfl

theorem info_u64 : (Tryd.prog.info? 26).map (fun i => (i.zero, i.size, i.bytes)) = some (some (.int .u64 0), 1, 8) := by kernel_rfl

theorem new_row (w : World) (n : Nat) (o : Obj) : ((w.alloc (.cells (madeCells #[.int .u64 0] n) 26)).alloc o).rowIs w.heap.size 26 n (fun _ => .int .u64 0) := (World.rowIs_made w (.int .u64 0) n 26).alloc o


end Go.Proofs.YtkhbhkllnigbgaaDoor
