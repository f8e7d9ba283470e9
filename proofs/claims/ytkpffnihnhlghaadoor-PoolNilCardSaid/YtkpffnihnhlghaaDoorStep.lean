/- An arena in memory; the counter; the closures; what a step does. -/
import Derived.Test.YtkpffnihnhlghaaDoorRows
import Derived.WalkKit
import Derived.WalkSpells
import Derived.WalkLawsBesides
import Derived.Lib.Hide
import Derived.Laws.LoneSync
import Derived.Laws.Pointers
import Derived.Deep.OwnRows
import Derived.Deep.QuietTactic
import Derived.BigQuiet
import Derived.StillTailTactics
import Derived.Below
import Derived.IntWalk
import Derived.Deep.RegionWith
import Derived.BigRegion
namespace Go.Proofs.YtkpffnihnhlghaaDoor
open Go.RowKit
/-- An arena's seven cells: its words, its steps, the last step's kind, word, value and change, its trouble. -/
def objC (c n : Nat) (s k i v : Int) (ch : Bool) (E : Value) : Nat → Value
  | 0 => .slice (some ⟨c, 0, none⟩) n n
  | 1 => .int .i64 s
  | 2 => .int .i64 k
  | 3 => .int .i64 i
  | 4 => .int .u64 v
  | 5 => .bool ch
  | _ => E

/-- At block p lies an arena, its n words in block c. -/
structure Ar (w : World) (p c n : Nat) (f : Nat → Int) (s k i v : Int) (ch : Bool) (E : Value) : Prop where
  obj : w.rowIs p 156 7 (objC c n s k i v ch E)
  row : w.rowIs c 29 n (fun j => .int .u64 (f j))
  ne : p ≠ c

theorem mk_funcA (fn : Fn) (first cap : Array Value) (w : World) : (Instr.makeFunc fn first cap).run Tryd.prog w = .ok (.func fn first cap) w := rfl

set_option maxHeartbeats 400000 in
theorem add_one (p : Nat) (s : Int) (w : World) (h0 : 0 ≤ s) (h1 : s < 1000000) (hc : w.cell? ⟨p, 1, none⟩ = some (.int .i64 s)) (hf : w.frozen? ⟨p, 1, none⟩ = false) :
    Calls Tryd.prog 143 #[.pointer (some ⟨p, 1, none⟩), .int .i64 1] w fun e w' => e = .returned (.int .i64 (s + 1)) ∧ w' = w.setCell ⟨p, 1, none⟩ (.int .i64 (s + 1)) := by
  have hs : (Op.intArith .add .i64 s 1).run Tryd.prog w = .ok (.int .i64 (s + 1)) w := by
    go_simp
    exact IntWalk.i64_in _ (by omega)
  have hadd := run_call_add (P := Tryd.prog) Tryd.func153 (by kernel_rfl) (by kernel_rfl) (by kernel_rfl) .i64 (by kernel_rfl) (y := 1) hc hf hs
  go_enter Tryd.func143, Tryd.ntmps143
  go_wp2
  go_ret
  exact ⟨rfl, rfl⟩

set_option maxHeartbeats 400000 in
theorem do_load (x : Int) (w : World) : Calls Tryd.prog 155 #[.int .u64 x] w fun e w' => e = .returned (.tuple #[.int .u64 x, .bool false]) ∧ w = w' := by
  go_enter Tryd.func155, Tryd.ntmps155
  go_wp2
  go_ret2
  exact ⟨rfl, rfl⟩

set_option maxHeartbeats 400000 in
theorem do_store (x v : Int) (q : Nat) (w : World) (hq : w.cell? ⟨q, 0, none⟩ = some (.int .u64 v)) : Calls Tryd.prog 115 #[.int .u64 x, .pointer (some ⟨q, 0, none⟩)] w fun e w' => e = .returned (.tuple #[.int .u64 v, .bool true]) ∧ w = w' := by
  go_enter Tryd.func115, Tryd.ntmps115
  go_wp2
  go_ret2
  exact ⟨rfl, rfl⟩

set_option maxHeartbeats 400000 in
theorem do_hit (x v : Int) (q r : Nat) (w : World) (hq : w.cell? ⟨q, 0, none⟩ = some (.int .u64 x)) (hr : w.cell? ⟨r, 0, none⟩ = some (.int .u64 v)) : Calls Tryd.prog 159 #[.int .u64 x, .pointer (some ⟨q, 0, none⟩), .pointer (some ⟨r, 0, none⟩)] w fun e w' => e = .returned (.tuple #[.int .u64 v, .bool true]) ∧ w = w' := by
  go_enter Tryd.func159, Tryd.ntmps159
  go_wp2
  go_ret2
  exact ⟨rfl, rfl⟩

set_option maxHeartbeats 400000 in
theorem do_miss (x o : Int) (q : Nat) (r : Value) (w : World) (hne : (x != o) = true) (hq : w.cell? ⟨q, 0, none⟩ = some (.int .u64 o)) : Calls Tryd.prog 159 #[.int .u64 x, .pointer (some ⟨q, 0, none⟩), r] w fun e w' => e = .returned (.tuple #[.int .u64 x, .bool false]) ∧ w = w' := by
  go_enter Tryd.func159, Tryd.ntmps159
  go_wp2
  go_ret2
  exact ⟨rfl, rfl⟩
/-- The object's cells, one by one. -/
theorem Ar.c0 {w : World} {p c n : Nat} {f : Nat → Int} {s k i v : Int} {ch : Bool} {E : Value} (h : Ar w p c n f s k i v ch E) : w.cell? ⟨p, 0, none⟩ = some (.slice (some ⟨c, 0, none⟩) n n) := h.obj.cell (i := 0) (by omega)
theorem Ar.c1 {w : World} {p c n : Nat} {f : Nat → Int} {s k i v : Int} {ch : Bool} {E : Value} (h : Ar w p c n f s k i v ch E) : w.cell? ⟨p, 1, none⟩ = some (.int .i64 s) := h.obj.cell (i := 1) (by omega)
theorem Ar.c2 {w : World} {p c n : Nat} {f : Nat → Int} {s k i v : Int} {ch : Bool} {E : Value} (h : Ar w p c n f s k i v ch E) : w.cell? ⟨p, 2, none⟩ = some (.int .i64 k) := h.obj.cell (i := 2) (by omega)
theorem Ar.c3 {w : World} {p c n : Nat} {f : Nat → Int} {s k i v : Int} {ch : Bool} {E : Value} (h : Ar w p c n f s k i v ch E) : w.cell? ⟨p, 3, none⟩ = some (.int .i64 i) := h.obj.cell (i := 3) (by omega)
theorem Ar.c4 {w : World} {p c n : Nat} {f : Nat → Int} {s k i v : Int} {ch : Bool} {E : Value} (h : Ar w p c n f s k i v ch E) : w.cell? ⟨p, 4, none⟩ = some (.int .u64 v) := h.obj.cell (i := 4) (by omega)
theorem Ar.c5 {w : World} {p c n : Nat} {f : Nat → Int} {s k i v : Int} {ch : Bool} {E : Value} (h : Ar w p c n f s k i v ch E) : w.cell? ⟨p, 5, none⟩ = some (.bool ch) := h.obj.cell (i := 5) (by omega)
theorem Ar.c6 {w : World} {p c n : Nat} {f : Nat → Int} {s k i v : Int} {ch : Bool} {E : Value} (h : Ar w p c n f s k i v ch E) : w.cell? ⟨p, 6, none⟩ = some E := h.obj.cell (i := 6) (by omega)

theorem Ar.alloc {w : World} {p c n : Nat} {f : Nat → Int} {s k i v : Int} {ch : Bool} {E : Value} (h : Ar w p c n f s k i v ch E) (o : Obj) : Ar (w.alloc o) p c n f s k i v ch E := ⟨h.obj.alloc o, h.row.alloc o, h.ne⟩
theorem Ar.setS {w : World} {p c n : Nat} {f : Nat → Int} {s k i v : Int} {ch : Bool} {E : Value} (h : Ar w p c n f s k i v ch E) (s' : Int) : Ar (w.setCell ⟨p, 1, none⟩ (.int .i64 s')) p c n f s' k i v ch E :=
  ⟨(h.obj.set 1 _).congr (by intro j hj; match j, hj with | 0, _ => rfl | 1, _ => rfl | 2, _ => rfl | 3, _ => rfl | 4, _ => rfl | 5, _ => rfl | 6, _ => rfl), h.row.setOther (fun e => h.ne e.symm) _, h.ne⟩
theorem Ar.setK {w : World} {p c n : Nat} {f : Nat → Int} {s k i v : Int} {ch : Bool} {E : Value} (h : Ar w p c n f s k i v ch E) (s' : Int) : Ar (w.setCell ⟨p, 2, none⟩ (.int .i64 s')) p c n f s s' i v ch E :=
  ⟨(h.obj.set 2 _).congr (by intro j hj; match j, hj with | 0, _ => rfl | 1, _ => rfl | 2, _ => rfl | 3, _ => rfl | 4, _ => rfl | 5, _ => rfl | 6, _ => rfl), h.row.setOther (fun e => h.ne e.symm) _, h.ne⟩
theorem Ar.setI {w : World} {p c n : Nat} {f : Nat → Int} {s k i v : Int} {ch : Bool} {E : Value} (h : Ar w p c n f s k i v ch E) (s' : Int) : Ar (w.setCell ⟨p, 3, none⟩ (.int .i64 s')) p c n f s k s' v ch E :=
  ⟨(h.obj.set 3 _).congr (by intro j hj; match j, hj with | 0, _ => rfl | 1, _ => rfl | 2, _ => rfl | 3, _ => rfl | 4, _ => rfl | 5, _ => rfl | 6, _ => rfl), h.row.setOther (fun e => h.ne e.symm) _, h.ne⟩
theorem Ar.setV {w : World} {p c n : Nat} {f : Nat → Int} {s k i v : Int} {ch : Bool} {E : Value} (h : Ar w p c n f s k i v ch E) (s' : Int) : Ar (w.setCell ⟨p, 4, none⟩ (.int .u64 s')) p c n f s k i s' ch E :=
  ⟨(h.obj.set 4 _).congr (by intro j hj; match j, hj with | 0, _ => rfl | 1, _ => rfl | 2, _ => rfl | 3, _ => rfl | 4, _ => rfl | 5, _ => rfl | 6, _ => rfl), h.row.setOther (fun e => h.ne e.symm) _, h.ne⟩
theorem Ar.setC {w : World} {p c n : Nat} {f : Nat → Int} {s k i v : Int} {ch : Bool} {E : Value} (h : Ar w p c n f s k i v ch E) (s' : Bool) : Ar (w.setCell ⟨p, 5, none⟩ (.bool s')) p c n f s k i v s' E :=
  ⟨(h.obj.set 5 _).congr (by intro j hj; match j, hj with | 0, _ => rfl | 1, _ => rfl | 2, _ => rfl | 3, _ => rfl | 4, _ => rfl | 5, _ => rfl | 6, _ => rfl), h.row.setOther (fun e => h.ne e.symm) _, h.ne⟩
theorem Ar.setE {w : World} {p c n : Nat} {f : Nat → Int} {s k i v : Int} {ch : Bool} {E : Value} (h : Ar w p c n f s k i v ch E) (s' : Value) : Ar (w.setCell ⟨p, 6, none⟩ s') p c n f s k i v ch s' :=
  ⟨(h.obj.set 6 _).congr (by intro j hj; match j, hj with | 0, _ => rfl | 1, _ => rfl | 2, _ => rfl | 3, _ => rfl | 4, _ => rfl | 5, _ => rfl | 6, _ => rfl), h.row.setOther (fun e => h.ne e.symm) _, h.ne⟩
/-- f, but at m it is x. -/
def put (f : Nat → Int) (m : Nat) (x : Int) : Nat → Int := fun j => if j = m then x else f j
theorem Ar.setW {w : World} {p c n : Nat} {f : Nat → Int} {s k i v : Int} {ch : Bool} {E : Value} (h : Ar w p c n f s k i v ch E) (m : Nat) (x : Int) : Ar (w.setCell ⟨c, m, none⟩ (.int .u64 x)) p c n (put f m x) s k i v ch E :=
  ⟨h.obj.setOther h.ne _, (h.row.set m _).congr (by intro j _; unfold put; by_cases e : j = m <;> simp [e]), h.ne⟩
theorem Ar.setOther {w : World} {p c n : Nat} {f : Nat → Int} {s k i v : Int} {ch : Bool} {E : Value} (h : Ar w p c n f s k i v ch E) {a : Addr} (h1 : p ≠ a.block) (h2 : c ≠ a.block) (x : Value) : Ar (w.setCell a x) p c n f s k i v ch E :=
  ⟨h.obj.setOther h1 _, h.row.setOther h2 _, h.ne⟩

/-- Only blocks p and c of what was there have changed. -/
structure Only (p c : Nat) (w w' : World) : Prop where
  os : w'.os = w.os
  tape : w'.tape = w.tape
  output : w'.output = w.output
  size : w.heap.size ≤ w'.heap.size
  block : ∀ k, k < w.heap.size → k ≠ p → k ≠ c → w'.heap[k]? = w.heap[k]?

theorem Only.refl (p c : Nat) (w : World) : Only p c w w := ⟨rfl, rfl, rfl, Nat.le_refl _, fun _ _ _ _ => rfl⟩
theorem Only.trans {p c : Nat} {a b d : World} (h : Only p c a b) (k : Only p c b d) : Only p c a d :=
  ⟨k.os.trans h.os, k.tape.trans h.tape, k.output.trans h.output, Nat.le_trans h.size k.size, fun i hi h1 h2 => (k.block i (Nat.lt_of_lt_of_le hi h.size) h1 h2).trans (h.block i hi h1 h2)⟩
theorem Only.of_below {p c : Nat} {a b : World} (h : Below a.heap.size a b) : Only p c a b := ⟨h.os, h.tape, h.output, h.size, fun i hi _ _ => h.block i hi⟩
theorem Only.alloc {p c : Nat} {a b : World} (h : Only p c a b) (o : Obj) : Only p c a (b.alloc o) := h.trans (Only.of_below ((Below.refl _ _).alloc (Nat.le_refl _) o))
theorem Only.drew {p c : Nat} {a b : World} (h : Only p c a b) : Only p c a b.drew := ⟨h.os, h.tape, h.output, h.size, h.block⟩
theorem Only.set {p c : Nat} {a b : World} (h : Only p c a b) {q : Addr} (hq : q.block = p ∨ q.block = c ∨ a.heap.size ≤ q.block) (u : Value) : Only p c a (b.setCell q u) := by
  have h1 := (Below.refl 0 b).setCell (p := q) (Nat.zero_le _) u
  refine ⟨h1.os.trans h.os, h1.tape.trans h.tape, h1.output.trans h.output, Nat.le_trans h.size h1.size, fun i hi e1 e2 => ?_⟩
  rw [Below.heap_setCell b q u i (by rcases hq with e | e | e <;> omega)]
  exact h.block i hi e1 e2
theorem Only.below {p c B : Nat} {a b : World} (h : Only p c a b) (hB : B ≤ a.heap.size) (h1 : B ≤ p) (h2 : B ≤ c) : Below B a b := ⟨h.os, h.tape, h.output, h.size, fun i hi => h.block i (by omega) (by omega) (by omega)⟩
/-- The arena stands where other blocks have changed. -/
theorem Ar.below {w w' : World} {p c n B : Nat} {f : Nat → Int} {s k i v : Int} {ch : Bool} {E : Value} (h : Ar w p c n f s k i v ch E) (hb : Below B w w') (h1 : p < B) (h2 : c < B) : Ar w' p c n f s k i v ch E :=
  ⟨h.obj.of_block (hb.block _ h1), h.row.of_block (hb.block _ h2), h.ne⟩

theorem Ar.begun {w : World} {p c n : Nat} {f : Nat → Int} {s k i v : Int} {ch : Bool} {E : Value} (h : Ar w p c n f s k i v ch E) (s' K m : Int) (o : Obj) :
    Ar ((((((w.setCell ⟨p, 1, none⟩ (.int .i64 s')).setCell ⟨p, 2, none⟩ (.int .i64 K)).setCell ⟨p, 3, none⟩ (.int .i64 m)).setCell ⟨p, 4, none⟩ (.int .u64 0)).setCell ⟨p, 5, none⟩ (.bool false)).alloc o) p c n f s' K m 0 false E :=
  (((((h.setS s').setK K).setI m).setV 0).setC false).alloc o
theorem Only.begun (w : World) (p c : Nat) (a b d e f : Value) (o : Obj) :
    Only p c w ((((((w.setCell ⟨p, 1, none⟩ a).setCell ⟨p, 2, none⟩ b).setCell ⟨p, 3, none⟩ d).setCell ⟨p, 4, none⟩ e).setCell ⟨p, 5, none⟩ f).alloc o) :=
  ((((((Only.refl p c w).set (.inl rfl) _).set (.inl rfl) _).set (.inl rfl) _).set (.inl rfl) _).set (.inl rfl) _).alloc o

theorem Ar.drew {w : World} {p c n : Nat} {f : Nat → Int} {s k i v : Int} {ch : Bool} {E : Value} (h : Ar w p c n f s k i v ch E) : Ar w.drew p c n f s k i v ch E := ⟨h.obj.drew, h.row.drew, h.ne⟩
theorem Only.cell {p c : Nat} {w w' : World} (h : Only p c w w') {q : Nat} (o : Nat) (hq : q < w.heap.size) (h1 : q ≠ p) (h2 : q ≠ c) : w'.cell? ⟨q, o, none⟩ = w.cell? ⟨q, o, none⟩ := World.cell?_of_block (w := w) (h.block q hq h1 h2)
theorem Ar.cw {w : World} {p c n : Nat} {f : Nat → Int} {s k i v : Int} {ch : Bool} {E : Value} (h : Ar w p c n f s k i v ch E) {m : Nat} (hm : m < n) : w.cell? ⟨c, m, none⟩ = some (.int .u64 (f m)) := h.row.cell hm
theorem put_at (f : Nat → Int) (m : Nat) (x : Int) : put f m x m = x := by simp [put]
theorem put_same (f : Nat → Int) (m : Nat) : put f m (f m) = f := by
  funext j
  by_cases e : j = m
  · subst e; simp [put]
  · simp [put, e]

/-- A step's begin: what the walk makes of memory, ahead of the word. -/
theorem begun_row (w : World) (p : Nat) (a b d e g : Value) : ((((((w.setCell ⟨p, 1, none⟩ a).setCell ⟨p, 2, none⟩ b).setCell ⟨p, 3, none⟩ d).setCell ⟨p, 4, none⟩ e).setCell ⟨p, 5, none⟩ g).alloc (.cells #[.int .i64 0, .int .i64 0, .int .u64 0, .bool false] 82)).rowIs w.heap.size 82 4 (fun j => (#[.int .i64 0, .int .i64 0, .int .u64 0, .bool false] : Array Value)[j]?.getD default) := by
  have h := World.rowIs_alloc (((((w.setCell ⟨p, 1, none⟩ a).setCell ⟨p, 2, none⟩ b).setCell ⟨p, 3, none⟩ d).setCell ⟨p, 4, none⟩ e).setCell ⟨p, 5, none⟩ g) #[.int .i64 0, .int .i64 0, .int .u64 0, .bool false] 82 (fun j => (#[.int .i64 0, .int .i64 0, .int .u64 0, .bool false] : Array Value)[j]?.getD default) (by intro j hj; match j, hj with | 0, _ => rfl | 1, _ => rfl | 2, _ => rfl | 3, _ => rfl)
  simp only [World.size_setCell] at h
  exact h

end Go.Proofs.YtkpffnihnhlghaaDoor
