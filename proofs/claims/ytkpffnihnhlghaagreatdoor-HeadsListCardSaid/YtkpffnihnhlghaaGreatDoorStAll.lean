/- An arena in memory; the counter; the closures; what a step does. -/
import Derived.Test.YtkpffnihnhlghaaGreatDoorRows
import Derived.WalkKit
import Derived.WalkSpells
import Derived.WalkLawsBesides
import Derived.Lib.Hide
import Derived.Laws.LoneSync
import Derived.Laws.Pointers
import Derived.Deep.OwnRows
import Derived.Deep.QuietTactic
import Derived.BigQuiet
import Derived.StillTailTactics
import Derived.Below
import Derived.IntWalk
import Derived.Deep.RegionWith
import Derived.BigRegion
import Derived.OwnWalk
import Derived.Lib.SliceRun
import Derived.ChangeMaps5
import Derived.LoopTactic
namespace Go.Proofs.YtkpffnihnhlghaaGreatDoor
open Go.RowKit
/-- An arena's seven cells: its words, its steps, the last step's kind, word, value and change, its trouble. -/
def objC (c n : Nat) (s k i v : Int) (ch : Bool) (E : Value) : Nat → Value
  | 0 => .slice (some ⟨c, 0, none⟩) n n
  | 1 => .int .i64 s
  | 2 => .int .i64 k
  | 3 => .int .i64 i
  | 4 => .int .u64 v
  | 5 => .bool ch
  | _ => E

theorem mk_funcA (fn : Fn) (first cap : Array Value) (w : World) : (Instr.makeFunc fn first cap).run Tryz.prog w = .ok (.func fn first cap) w := rfl

/-- f, but at m it is x. -/
def put (f : Nat → Int) (m : Nat) (x : Int) : Nat → Int := fun j => if j = m then x else f j
/-- Only blocks p and c of what was there have changed. -/
structure Only (p c : Nat) (w w' : World) : Prop where
  os : w'.os = w.os
  tape : w'.tape = w.tape
  output : w'.output = w.output
  size : w.heap.size ≤ w'.heap.size
  block : ∀ k, k < w.heap.size → k ≠ p → k ≠ c → w'.heap[k]? = w.heap[k]?

theorem Only.refl (p c : Nat) (w : World) : Only p c w w := ⟨rfl, rfl, rfl, Nat.le_refl _, fun _ _ _ _ => rfl⟩
theorem Only.trans {p c : Nat} {a b d : World} (h : Only p c a b) (k : Only p c b d) : Only p c a d :=
  ⟨k.os.trans h.os, k.tape.trans h.tape, k.output.trans h.output, Nat.le_trans h.size k.size, fun i hi h1 h2 => (k.block i (Nat.lt_of_lt_of_le hi h.size) h1 h2).trans (h.block i hi h1 h2)⟩
theorem Only.of_below {p c : Nat} {a b : World} (h : Below a.heap.size a b) : Only p c a b := ⟨h.os, h.tape, h.output, h.size, fun i hi _ _ => h.block i hi⟩
theorem Only.alloc {p c : Nat} {a b : World} (h : Only p c a b) (o : Obj) : Only p c a (b.alloc o) := h.trans (Only.of_below ((Below.refl _ _).alloc (Nat.le_refl _) o))
theorem Only.drew {p c : Nat} {a b : World} (h : Only p c a b) : Only p c a b.drew := ⟨h.os, h.tape, h.output, h.size, h.block⟩
theorem Only.set {p c : Nat} {a b : World} (h : Only p c a b) {q : Addr} (hq : q.block = p ∨ q.block = c ∨ a.heap.size ≤ q.block) (u : Value) : Only p c a (b.setCell q u) := by
  have h1 := (Below.refl 0 b).setCell (p := q) (Nat.zero_le _) u
  refine ⟨h1.os.trans h.os, h1.tape.trans h.tape, h1.output.trans h.output, Nat.le_trans h.size h1.size, fun i hi e1 e2 => ?_⟩
  rw [Below.heap_setCell b q u i (by rcases hq with e | e | e <;> omega)]
  exact h.block i hi e1 e2
theorem Only.below {p c B : Nat} {a b : World} (h : Only p c a b) (hB : B ≤ a.heap.size) (h1 : B ≤ p) (h2 : B ≤ c) : Below B a b := ⟨h.os, h.tape, h.output, h.size, fun i hi => h.block i (by omega) (by omega) (by omega)⟩
theorem Only.begun (w : World) (p c : Nat) (a b d e f : Value) (o : Obj) :
    Only p c w ((((((w.setCell ⟨p, 1, none⟩ a).setCell ⟨p, 2, none⟩ b).setCell ⟨p, 3, none⟩ d).setCell ⟨p, 4, none⟩ e).setCell ⟨p, 5, none⟩ f).alloc o) :=
  ((((((Only.refl p c w).set (.inl rfl) _).set (.inl rfl) _).set (.inl rfl) _).set (.inl rfl) _).set (.inl rfl) _).alloc o

theorem Only.cell {p c : Nat} {w w' : World} (h : Only p c w w') {q : Nat} (o : Nat) (hq : q < w.heap.size) (h1 : q ≠ p) (h2 : q ≠ c) : w'.cell? ⟨q, o, none⟩ = w.cell? ⟨q, o, none⟩ := World.cell?_of_block (w := w) (h.block q hq h1 h2)
theorem put_at (f : Nat → Int) (m : Nat) (x : Int) : put f m x m = x := by simp [put]
theorem put_same (f : Nat → Int) (m : Nat) : put f m (f m) = f := by
  funext j
  by_cases e : j = m
  · subst e; simp [put]
  · simp [put, e]

/-- A step's begin: what the walk makes of memory, ahead of the word. -/
theorem begun_row (w : World) (p : Nat) (a b d e g : Value) : ((((((w.setCell ⟨p, 1, none⟩ a).setCell ⟨p, 2, none⟩ b).setCell ⟨p, 3, none⟩ d).setCell ⟨p, 4, none⟩ e).setCell ⟨p, 5, none⟩ g).alloc (.cells #[.int .i64 0, .int .i64 0, .int .u64 0, .bool false] 39)).rowIs w.heap.size 39 4 (fun j => (#[.int .i64 0, .int .i64 0, .int .u64 0, .bool false] : Array Value)[j]?.getD default) := by
  have h := World.rowIs_alloc (((((w.setCell ⟨p, 1, none⟩ a).setCell ⟨p, 2, none⟩ b).setCell ⟨p, 3, none⟩ d).setCell ⟨p, 4, none⟩ e).setCell ⟨p, 5, none⟩ g) #[.int .i64 0, .int .i64 0, .int .u64 0, .bool false] 39 (fun j => (#[.int .i64 0, .int .i64 0, .int .u64 0, .bool false] : Array Value)[j]?.getD default) (by intro j hj; match j, hj with | 0, _ => rfl | 1, _ => rfl | 2, _ => rfl | 3, _ => rfl)
  simp only [World.size_setCell] at h
  exact h

end Go.Proofs.YtkpffnihnhlghaaGreatDoor

namespace Go.Proofs.YtkpffnihnhlghaaGreatDoor
open Go.RowKit

end Go.Proofs.YtkpffnihnhlghaaGreatDoor

namespace Go.Proofs.YtkpffnihnhlghaaGreatDoor
open Go.RowKit

end Go.Proofs.YtkpffnihnhlghaaGreatDoor

namespace Go.Proofs.YtkpffnihnhlghaaGreatDoor
open Go.RowKit

end Go.Proofs.YtkpffnihnhlghaaGreatDoor

namespace Go.Proofs.YtkpffnihnhlghaaGreatDoor
open Go.RowKit

end Go.Proofs.YtkpffnihnhlghaaGreatDoor

namespace Go.Proofs.YtkpffnihnhlghaaGreatDoor
open Go.RowKit
/-- The trouble of a step where there is no i-th word. -/
def trouble (i : Int) : Value := .iface 91 (.agg #[.iface 50 (.int .i64 23), .int .i64 i])
def errV : Option Int → Value
  | none => .nilIface
  | some i => trouble i

set_option maxHeartbeats 400000 in
theorem c_new (w : World) : Calls Tryz.prog 26 #[.int .i64 23] w fun e w' => e = .returned (.iface 50 (.int .i64 23)) ∧ w = w' := by
  go_enter Tryz.func26, Tryz.ntmps26
  go_wp2
  go_ret
  exact ⟨rfl, rfl⟩

set_option maxHeartbeats 400000 in
theorem c_at (n : Int) (t : TypeId) (u : Value) (w : World) : Calls Tryz.prog 30 #[.iface t u, .int .i64 n] w fun e w' => e = .returned (.iface 91 (.agg #[.iface t u, .int .i64 n])) ∧ w = w' := by
  go_enter Tryz.func30, Tryz.ntmps30
  go_wp2
  go_ret
  exact ⟨rfl, rfl⟩


end Go.Proofs.YtkpffnihnhlghaaGreatDoor

namespace Go.Proofs.YtkpffnihnhlghaaGreatDoor
open Go.RowKit
/-- What an arena is: its words; its steps; the last step's kind, word, value, change; where its first trouble was. -/
structure St where
  f : Nat → Int
  s : Int
  k : Int
  i : Int
  v : Int
  ch : Bool
  e : Option Int

def St.zero : St := ⟨fun _ => 0, 0, 0, 0, 0, false, none⟩
/-- There is an i-th word. -/
def inB (n : Nat) (i : Int) : Bool := decide (0 ≤ i) && decide (i < (n : Int))
def St.out (x : St) (k i : Int) : St := { x with s := x.s + 1, k := k, i := i, v := 0, ch := false, e := some (x.e.getD i) }
def St.kept (x : St) (k i : Int) : St := { x with s := x.s + 1, k := k, i := i, v := x.f i.toNat, ch := false }
def St.made (x : St) (k i y : Int) : St := { x with f := put x.f i.toNat y, s := x.s + 1, k := k, i := i, v := y, ch := true }
def St.load (x : St) (n : Nat) (i : Int) : St := if inB n i then x.kept 1 i else x.out 1 i
def St.loaded (x : St) (n : Nat) (i : Int) : Int := if inB n i then x.f i.toNat else 0
def St.store (x : St) (n : Nat) (i y : Int) : St := if inB n i then x.made 2 i y else x.out 2 i
def St.swapped (x : St) (n : Nat) (i o : Int) : Bool := inB n i && decide (x.f i.toNat = o)
def St.swap (x : St) (n : Nat) (i o y : Int) : St := if inB n i then (if x.f i.toNat = o then x.made 3 i y else x.kept 3 i) else x.out 3 i

theorem inB_true {n : Nat} {i : Int} (h : inB n i = true) : ∃ m : Nat, i = m ∧ m < n := by
  simp [inB] at h
  exact ⟨i.toNat, by omega, by omega⟩
theorem inB_false {n : Nat} {i : Int} (h : ¬ inB n i = true) : i < 0 ∨ (n : Int) ≤ i := by
  simp [inB] at h
  omega
theorem inB_nat {n m : Nat} (h : m < n) : inB n (m : Int) = true := by simp [inB, h]

theorem St.load_s (x : St) (n : Nat) (i : Int) : (x.load n i).s = x.s + 1 := by unfold St.load St.kept St.out; split <;> rfl
theorem St.store_s (x : St) (n : Nat) (i y : Int) : (x.store n i y).s = x.s + 1 := by unfold St.store St.made St.out; split <;> rfl
theorem St.swap_s (x : St) (n : Nat) (i o y : Int) : (x.swap n i o y).s = x.s + 1 := by unfold St.swap St.made St.kept St.out; split <;> (try split) <;> rfl

theorem St.load_v (x : St) (n : Nat) (i : Int) : (x.load n i).v = x.loaded n i := by unfold St.load St.loaded St.kept St.out; split <;> rfl
theorem St.swap_ch (x : St) (n : Nat) (i o y : Int) : (x.swap n i o y).ch = x.swapped n i o := by
  unfold St.swap St.swapped St.kept St.out St.made
  by_cases h : inB n i = true
  · by_cases g : x.f i.toNat = o <;> simp [h, g]
  · simp [h]

theorem fld_i (a b v : Int) (d : Bool) (w : World) : (Instr.field 39 (.agg #[.int .i64 a, .int .i64 b, .int .u64 v, .bool d]) 1).run Tryz.prog w = .ok (.int .i64 b) w := by kernel_rfl
theorem fld_v (a b v : Int) (d : Bool) (w : World) : (Instr.field 39 (.agg #[.int .i64 a, .int .i64 b, .int .u64 v, .bool d]) 2).run Tryz.prog w = .ok (.int .u64 v) w := by kernel_rfl
theorem fld_ch (a b v : Int) (d : Bool) (w : World) : (Instr.field 39 (.agg #[.int .i64 a, .int .i64 b, .int .u64 v, .bool d]) 3).run Tryz.prog w = .ok (.bool d) w := by kernel_rfl
theorem fld_k (a b v : Int) (d : Bool) (w : World) : (Instr.field 39 (.agg #[.int .i64 a, .int .i64 b, .int .u64 v, .bool d]) 0).run Tryz.prog w = .ok (.int .i64 a) w := by kernel_rfl

theorem info_u64 : (Tryz.prog.info? 34).map (fun i => (i.zero, i.size, i.bytes)) = some (some (.int .u64 0), 1, 8) := by kernel_rfl

theorem new_row (w : World) (n : Nat) (o : Obj) : ((w.alloc (.cells (madeCells #[.int .u64 0] n) 34)).alloc o).rowIs w.heap.size 34 n (fun _ => .int .u64 0) := (World.rowIs_made w (.int .u64 0) n 34).alloc o


end Go.Proofs.YtkpffnihnhlghaaGreatDoor

namespace Go.Proofs.YtkpffnihnhlghaaGreatDoor
open Go.RowKit
def cellsI (f : Nat → Int) (n : Nat) : List Value := (List.range n).map fun j => .int .u64 (f j)
theorem cellsI_length (f : Nat → Int) (n : Nat) : (cellsI f n).length = n := by simp [cellsI]
theorem addr_add (g i j : Nat) : (⟨g, i, none⟩ : Addr).add j = ⟨g, i + j, none⟩ := by simp [Addr.add]
theorem cells_lie {W : World} {g n : Nat} {f : Nat → Int} (h : W.rowIs g 34 n (fun j => .int .u64 (f j))) : ∀ j u, (cellsI f n)[j]? = some u → W.cell? ((⟨g, 0, none⟩ : Addr).add j) = some u := by
  intro j u hj
  have hl : j < n := by
    have := (List.getElem?_eq_some_iff.1 hj).1
    simpa [cellsI] using this
  rw [addr_add, Nat.zero_add, h.cell hl]
  simp [cellsI, hl] at hj
  rw [hj]

/-- A copy of n words has been made; nothing else. -/
def Copied (w : World) (n : Nat) (f : Nat → Int) (e : Ending) (w' : World) : Prop :=
  ∃ (g cap : Nat) (F : Nat → Value), e = .returned (.slice (some ⟨g, 0, none⟩) n cap) ∧ w.heap.size ≤ g ∧ n ≤ cap ∧ w'.rowIs g 34 cap F ∧ (∀ j, j < n → F j = .int .u64 (f j)) ∧ Below w.heap.size w w'

theorem info_u64' : ∃ i : TypeInfo, Tryz.prog.info? 34 = some i ∧ i.zero = some (.int .u64 0) ∧ i.size = 1 ∧ i.bytes = 8 := by
  obtain ⟨i, h, h'⟩ := Option.map_eq_some_iff.1 info_u64
  simp only [Prod.mk.injEq] at h'
  exact ⟨i, h, h'⟩

theorem own_row {W : World} {B n : Nat} {v : Value} {f : Nat → Int} (h : W.ownsRow B 34 1 v n (cellsI f n)) (hn : 1 ≤ n) : ∃ (g cap : Nat) (F : Nat → Value), v = .slice (some ⟨g, 0, none⟩) n cap ∧ B ≤ g ∧ n ≤ cap ∧ W.rowIs g 34 cap F ∧ (∀ j, j < n → F j = .int .u64 (f j)) := by
  rcases h.2 with ⟨_, h2⟩ | ⟨g, cap, cur, h1, h2, h3, h4, _, h6, h7⟩
  · omega
  · refine ⟨g, cap, fun j => cur[j]?.getD default, h1, h2, h4, ⟨cur, h3, by omega, fun j hj => ?_⟩, fun j hj => ?_⟩
    · show cur[j]? = some (cur[j]?.getD default)
      rw [Array.getElem?_eq_getElem (by omega), Option.getD_some]
    · have e : (cur.toList.take (n * 1))[j]? = (cellsI f n)[j]? := by rw [h7]
      rw [List.getElem?_take_of_lt (by omega)] at e
      simp [cellsI, hj] at e
      simp [e]


end Go.Proofs.YtkpffnihnhlghaaGreatDoor

namespace Go.Proofs.YtkpffnihnhlghaaGreatDoor
open Go.RowKit
/-- The cells of the document's own arena. -/
def objR (c n : Nat) (x : St) : Nat → Value
  | 0 => .slice (some ⟨c, 0, none⟩) n n
  | 1 => .int .i64 x.s
  | 2 => .int .i64 x.k
  | 3 => .int .i64 x.i
  | 4 => .int .u64 x.v
  | 5 => .bool x.ch
  | 6 => .bool x.e.isSome
  | _ => .int .i64 (x.e.getD 0)

structure RS (w : World) (p c n : Nat) (x : St) : Prop where
  obj : w.rowIs p 41 8 (objR c n x)
  row : w.rowIs c 34 n (fun j => .int .u64 (x.f j))
  ne : p ≠ c

theorem RS.c (j : Nat) {w : World} {p c n : Nat} {x : St} (h : RS w p c n x) (hj : j < 8) : w.cell? ⟨p, j, none⟩ = some (objR c n x j) := h.obj.cell hj

theorem RS.below {w w' : World} {p c n B : Nat} {x : St} (h : RS w p c n x) (hb : Below B w w') (h1 : p < B) (h2 : c < B) : RS w' p c n x := ⟨h.obj.of_block (hb.block _ h1), h.row.of_block (hb.block _ h2), h.ne⟩
/-- It stands where another arena has changed. -/
theorem RS.only {w w' : World} {p c n p' c' : Nat} {x : St} (h : RS w p c n x) (b : Only p' c' w w') (h1 : p ≠ p') (h2 : p ≠ c') (h3 : c ≠ p') (h4 : c ≠ c') : RS w' p c n x :=
  ⟨h.obj.of_block (b.block _ h.obj.lt h1 h2), h.row.of_block (b.block _ h.row.lt h3 h4), h.ne⟩
def St.begun (x : St) (k i : Int) : St := { x with s := x.s + 1, k := k, i := i, v := 0, ch := false }

set_option maxHeartbeats 400000 in
theorem r_new (n : Nat) (h1 : 1 ≤ n) (h2 : n ≤ 4096) (w : World) : Calls Tryz.prog 21 #[.int .i64 n] w fun e w' => e = .returned (.pointer (some ⟨w.heap.size + 1, 0, none⟩)) ∧ RS w' (w.heap.size + 1) w.heap.size n St.zero ∧ Below w.heap.size w w' := by
  have hmk := run_make_row' (P := Tryz.prog) 32 34 (.int .u64 0) 8 Tryz.underlying32 info_u64 rfl .i64 .i64 n (by omega) (by omega)
  go_enter Tryz.func21, Tryz.ntmps21
  go_wp2
  go_ret
  refine ⟨rfl, ⟨?_, new_row _ _ _, by omega⟩, ((Below.refl _ _).alloc (Nat.le_refl _) _).alloc (by simp) _⟩
  have h := World.rowIs_alloc (w.alloc (.cells (madeCells #[.int .u64 0] n) 34)) #[.slice (some ⟨w.heap.size, 0, none⟩) n n, .int .i64 0, .int .i64 0, .int .i64 0, .int .u64 0, .bool false, .bool false, .int .i64 0] 41 (objR w.heap.size n St.zero) (by intro j hj; match j, hj with | 0, _ => rfl | 1, _ => rfl | 2, _ => rfl | 3, _ => rfl | 4, _ => rfl | 5, _ => rfl | 6, _ => rfl | 7, _ => rfl)
  simp only [World.size_alloc] at h
  exact h

theorem Only.s1 {p c : Nat} {a b : World} (h : Only p c a b) (j : Nat) (u : Value) : Only p c a (b.setCell ⟨p, j, none⟩ u) := h.set (q := ⟨p, j, none⟩) (.inl rfl) u


end Go.Proofs.YtkpffnihnhlghaaGreatDoor
