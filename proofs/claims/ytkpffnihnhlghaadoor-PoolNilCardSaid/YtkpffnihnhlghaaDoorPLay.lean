/- Where things lie: the closures, lay, Size. -/
import Derived.Test.YtkpffnihnhlghaaDoorPPack
import Derived.Laws.EntriesVeiled
namespace Go.Proofs.YtkpffnihnhlghaaDoor
open Go.RowKit
/-- No block of what was there has changed, but q. -/
structure But (q : Nat) (w w' : World) : Prop where
  os : w'.os = w.os
  tape : w'.tape = w.tape
  output : w'.output = w.output
  size : w.heap.size ≤ w'.heap.size
  block : ∀ k, k < w.heap.size → k ≠ q → w'.heap[k]? = w.heap[k]?
theorem But.refl (q : Nat) (w : World) : But q w w := ⟨rfl, rfl, rfl, Nat.le_refl _, fun _ _ _ => rfl⟩
theorem But.trans {q : Nat} {a b d : World} (h : But q a b) (k : But q b d) : But q a d :=
  ⟨k.os.trans h.os, k.tape.trans h.tape, k.output.trans h.output, Nat.le_trans h.size k.size, fun i hi h1 => (k.block i (Nat.lt_of_lt_of_le hi h.size) h1).trans (h.block i hi h1)⟩
theorem But.of_below {q : Nat} {a b : World} (h : Below a.heap.size a b) : But q a b := ⟨h.os, h.tape, h.output, h.size, fun i hi _ => h.block i hi⟩
theorem But.alloc {q : Nat} {a b : World} (h : But q a b) (o : Obj) : But q a (b.alloc o) := h.trans (But.of_below ((Below.refl _ _).alloc (Nat.le_refl _) o))
theorem But.set {q : Nat} {a b : World} (h : But q a b) {p : Addr} (hp : p.block = q ∨ a.heap.size ≤ p.block) (u : Value) : But q a (b.setCell p u) := by
  have h1 := (Below.refl 0 b).setCell (p := p) (Nat.zero_le _) u
  refine ⟨h1.os.trans h.os, h1.tape.trans h.tape, h1.output.trans h.output, Nat.le_trans h.size h1.size, fun i hi e1 => ?_⟩
  rw [Below.heap_setCell b p u i (by rcases hp with e | e <;> omega)]
  exact h.block i hi e1
theorem But.below {q B : Nat} {a b : World} (h : But q a b) (hB : B ≤ a.heap.size) (h1 : B ≤ q) : Below B a b := ⟨h.os, h.tape, h.output, h.size, fun i hi => h.block i (by omega) (by omega)⟩

/-- A function that tells the i-th of count things of size words each, from first on; its variables lie in blocks from B on. -/
def Rowf (B : Nat) (w : World) (v : Value) (first count size : Int) : Prop :=
  ∃ a b c : Nat, v = .func (.func 141) #[] #[.pointer (some ⟨a, 0, none⟩), .pointer (some ⟨b, 0, none⟩), .pointer (some ⟨c, 0, none⟩)] ∧ B ≤ a ∧ B ≤ b ∧ B ≤ c ∧
    w.cell? ⟨a, 0, none⟩ = some (.int .i64 count) ∧ w.cell? ⟨b, 0, none⟩ = some (.int .i64 first) ∧ w.cell? ⟨c, 0, none⟩ = some (.int .i64 size)
theorem Rowf.mono {B B' : Nat} {w : World} {v : Value} {f n s : Int} (h : Rowf B w v f n s) (hB : B' ≤ B) : Rowf B' w v f n s := by
  obtain ⟨a, b, c, e, h1, h2, h3, h4⟩ := h
  exact ⟨a, b, c, e, by omega, by omega, by omega, h4⟩
theorem Rowf.but {B q : Nat} {w w' : World} {v : Value} {f n s : Int} (h : Rowf B w v f n s) (hb : But q w w') (hq : q < B) : Rowf B w' v f n s := by
  obtain ⟨a, b, c, e, h1, h2, h3, h4, h5, h6⟩ := h
  exact ⟨a, b, c, e, h1, h2, h3, (World.cell?_of_block (w := w) (hb.block a (World.block_lt_of_cell? w _ h4) (by omega))).trans h4, (World.cell?_of_block (w := w) (hb.block b (World.block_lt_of_cell? w _ h5) (by omega))).trans h5, (World.cell?_of_block (w := w) (hb.block c (World.block_lt_of_cell? w _ h6) (by omega))).trans h6⟩
theorem Rowf.below {B : Nat} {w w' : World} {v : Value} {f n s : Int} (h : Rowf (B + 1) w v f n s) (hb : Below w.heap.size w w') : Rowf (B + 1) w' v f n s := h.but (But.of_below (q := B) hb) (by omega)
theorem Rowf.set {B : Nat} {w : World} {v : Value} {f n s : Int} (h : Rowf B w v f n s) {p : Addr} (hp : p.block < B) (u : Value) : Rowf B (w.setCell p u) v f n s := h.but ((But.refl p.block w).set (.inl rfl) u) hp
theorem Rowf.alloc {B : Nat} {w : World} {v : Value} {f n s : Int} (h : Rowf (B + 1) w v f n s) (o : Obj) : Rowf (B + 1) (w.alloc o) v f n s := h.below ((Below.refl _ _).alloc (Nat.le_refl _) o)

/-- What such a function tells. -/
def place (first count size i : Int) : Int := if i < 0 ∨ count ≤ i then -1 else first + i * size

set_option maxHeartbeats 400000 in
theorem row_in (w : World) (f n s : Int) (a b c : Nat) (h4 : w.cell? ⟨a, 0, none⟩ = some (.int .i64 n)) (h5 : w.cell? ⟨b, 0, none⟩ = some (.int .i64 f)) (h6 : w.cell? ⟨c, 0, none⟩ = some (.int .i64 s)) (i : Int) (h0 : 0 ≤ i) (h1 : i < n) (hn : n ≤ 100) (hs0 : 0 ≤ s) (hs : s ≤ 100) (hf0 : 0 ≤ f) (hf : f ≤ 10000) :
    Calls Tryd.prog 141 #[.int .i64 i, .pointer (some ⟨a, 0, none⟩), .pointer (some ⟨b, 0, none⟩), .pointer (some ⟨c, 0, none⟩)] w fun e w' => e = .returned (.int .i64 (f + i * s)) ∧ w = w' := by
  have hm0 : 0 ≤ i * s := Int.mul_nonneg h0 hs0
  have hm1 : i * s ≤ 100 * 100 := Int.mul_le_mul (by omega) (by omega) hs0 (by omega)
  have d1 : decide (i < 0) = false := by simp; omega
  have d2 : decide (n ≤ i) = false := by simp; omega
  go_enter Tryd.func141, Tryd.ntmps141
  go_wp2
  go_ret
  exact ⟨rfl, rfl⟩
set_option maxHeartbeats 400000 in
theorem row_out (w : World) (n : Int) (a : Nat) (b c : Value) (h4 : w.cell? ⟨a, 0, none⟩ = some (.int .i64 n)) (i : Int) (h : i < 0 ∨ n ≤ i) :
    Calls Tryd.prog 141 #[.int .i64 i, .pointer (some ⟨a, 0, none⟩), b, c] w fun e w' => e = .returned (.int .i64 (-1)) ∧ w = w' := by
  by_cases h1 : i < 0
  · have d1 : decide (i < 0) = true := by simpa using h1
    clear h
    go_enter Tryd.func141, Tryd.ntmps141
    go_wp2
    go_ret
    exact ⟨rfl, rfl⟩
  · have d1 : decide (i < 0) = false := by simpa using h1
    have d2 : decide (n ≤ i) = true := by simp; omega
    clear h
    go_enter Tryd.func141, Tryd.ntmps141
    go_wp2
    go_ret
    exact ⟨rfl, rfl⟩
theorem row_any (w : World) (f n s : Int) (a b c : Nat) (h4 : w.cell? ⟨a, 0, none⟩ = some (.int .i64 n)) (h5 : w.cell? ⟨b, 0, none⟩ = some (.int .i64 f)) (h6 : w.cell? ⟨c, 0, none⟩ = some (.int .i64 s)) (i : Int) (hn : n ≤ 100) (hs0 : 0 ≤ s) (hs : s ≤ 100) (hf0 : 0 ≤ f) (hf : f ≤ 10000) :
    Calls Tryd.prog 141 #[.int .i64 i, .pointer (some ⟨a, 0, none⟩), .pointer (some ⟨b, 0, none⟩), .pointer (some ⟨c, 0, none⟩)] w fun e w' => e = .returned (.int .i64 (place f n s i)) ∧ w = w' := by
  by_cases h : i < 0 ∨ n ≤ i
  · rw [place, if_pos h]; exact row_out w n a _ _ h4 i h
  · rw [place, if_neg h]; exact row_in w f n s a b c h4 h5 h6 i (by omega) (by omega) hn hs0 hs hf0 hf

theorem mk_func (fn : Fn) (first cap : Array Value) (w : World) : (Instr.makeFunc fn first cap).run Tryd.prog w = .ok (.func fn first cap) w := rfl

set_option maxHeartbeats 400000 in
theorem lay1_any (n count size : Int) (q : Nat) (w : World) (hq : w.rowIs q 3 1 (fun _ => .int .i64 n)) (c0 : 0 ≤ count) (c1 : count ≤ 100) (s0 : 0 ≤ size) (s1 : size ≤ 100) (n0 : 0 ≤ n) (n1 : n ≤ 10000) :
    Calls Tryd.prog 140 #[.int .i64 count, .int .i64 size, .pointer (some ⟨q, 0, none⟩)] w fun e w' => ∃ v, e = .returned v ∧ Rowf w.heap.size w' v n count size ∧ w'.rowIs q 3 1 (fun _ => .int .i64 (n + count * size)) ∧ But q w w' := by
  have hm0 : 0 ≤ count * size := Int.mul_nonneg c0 s0
  have hm1 : count * size ≤ 100 * 100 := Int.mul_le_mul (by omega) (by omega) s0 (by omega)
  have cq := hq.cell (i := 0) (by omega)
  have fq := hq.frozen
  have lq := hq.lt
  have d0 : w.heap.size ≠ q := by omega
  have d1 : w.heap.size + 1 ≠ q := by omega
  have d2 : w.heap.size + 1 + 1 ≠ q := by omega
  have e0 : q ≠ w.heap.size := by omega
  have e1 : q ≠ w.heap.size + 1 := by omega
  have e2 : q ≠ w.heap.size + 1 + 1 := by omega
  have hmf := mk_func
  have q3 := (((hq.alloc (.cells #[.int .i64 count] 3)).alloc (.cells #[.int .i64 size] 3)).alloc (.cells #[.int .i64 n] 3)).cell (i := 0) (by omega)
  have f3 := (((hq.alloc (.cells #[.int .i64 count] 3)).alloc (.cells #[.int .i64 size] 3)).alloc (.cells #[.int .i64 n] 3)).frozen
  go_enter Tryd.func140, Tryd.ntmps140
  go_wp2
  go_ret
  refine ⟨_, rfl, ⟨_, _, _, rfl, by omega, by omega, by omega, by go_simp, by go_simp, by go_simp⟩, ?_, ?_⟩
  · exact ((((hq.alloc _).alloc _).alloc _).set 0 _).congr (by intro j hj; match j, hj with | 0, _ => rfl)
  · exact (((((But.refl q w).alloc _).alloc _).alloc _).set (p := ⟨q, 0, none⟩) (.inl rfl) _)

/-- Where entries, controls, blocks of the first class, of the second one begin; how many words there are. -/
def bE (x : Cfg) : Int := 5 + x.l
def bC (x : Cfg) : Int := bE x + x.t
def bB (x : Cfg) : Int := bC x + x.t * (1 + 2 * x.s)
def bB1 (x : Cfg) : Int := bB x + x.n0 * (1 + x.s0)
def sizeC (x : Cfg) : Int := bB1 x + x.n1 * (1 + x.s1)
theorem Right.sizes {x : Cfg} (h : Right x) : 6 ≤ bE x ∧ bE x ≤ 13 ∧ 7 ≤ bC x ∧ bC x ≤ 21 ∧ bC x ≤ bB x ∧ bB x ≤ 541 ∧ bB x ≤ bB1 x ∧ bB1 x ≤ 1705 ∧ bB1 x ≤ sizeC x ∧ sizeC x ≤ 2869 := by
  have hb := h.b
  have a1 : 0 ≤ x.t * (1 + 2 * x.s) := Int.mul_nonneg (by omega) (by omega)
  have a2 : x.t * (1 + 2 * x.s) ≤ 8 * 65 := Int.mul_le_mul (by omega) (by omega) (by omega) (by omega)
  have a3 : 0 ≤ x.n0 * (1 + x.s0) := Int.mul_nonneg (by omega) (by omega)
  have a4 : x.n0 * (1 + x.s0) ≤ 12 * 97 := Int.mul_le_mul (by omega) (by omega) (by omega) (by omega)
  have a5 : 0 ≤ x.n1 * (1 + x.s1) := Int.mul_nonneg (by omega) (by omega)
  have a6 : x.n1 * (1 + x.s1) ≤ 12 * 97 := Int.mul_le_mul (by omega) (by omega) (by omega) (by omega)
  unfold sizeC bB1 bB bC bE
  omega

/-- What lay answers. -/
def Laid (x : Cfg) (w : World) (e : Ending) (w' : World) : Prop := ∃ v0 v1 v2 v3 v4, e = .returned (.agg #[v0, v1, v2, v3, v4, .int .i64 (sizeC x)]) ∧ Rowf (w.heap.size + 1) w' v0 5 x.l 1 ∧ Rowf (w.heap.size + 1) w' v1 (bE x) x.t 1 ∧ Rowf (w.heap.size + 1) w' v2 (bC x) x.t (1 + 2 * x.s) ∧ Rowf (w.heap.size + 1) w' v3 (bB x) x.n0 (1 + x.s0) ∧ Rowf (w.heap.size + 1) w' v4 (bB1 x) x.n1 (1 + x.s1) ∧ Below w.heap.size w w'
/-- A layout's cells. -/
def lay6 (a b c d e f : Value) (j : Nat) : Value := (#[a, b, c, d, e, f] : Array Value)[j]?.getD default
theorem lay6_0 (a b c d e f v : Value) (j : Nat) (hj : j < 6) : (if j = 0 then v else lay6 a b c d e f j) = lay6 v b c d e f j := by match j, hj with | 0, _ => rfl | 1, _ => rfl | 2, _ => rfl | 3, _ => rfl | 4, _ => rfl | 5, _ => rfl
theorem lay6_1 (a b c d e f v : Value) (j : Nat) (hj : j < 6) : (if j = 1 then v else lay6 a b c d e f j) = lay6 a v c d e f j := by match j, hj with | 0, _ => rfl | 1, _ => rfl | 2, _ => rfl | 3, _ => rfl | 4, _ => rfl | 5, _ => rfl
theorem lay6_2 (a b c d e f v : Value) (j : Nat) (hj : j < 6) : (if j = 2 then v else lay6 a b c d e f j) = lay6 a b v d e f j := by match j, hj with | 0, _ => rfl | 1, _ => rfl | 2, _ => rfl | 3, _ => rfl | 4, _ => rfl | 5, _ => rfl
theorem lay6_3 (a b c d e f v : Value) (j : Nat) (hj : j < 6) : (if j = 3 then v else lay6 a b c d e f j) = lay6 a b c v e f j := by match j, hj with | 0, _ => rfl | 1, _ => rfl | 2, _ => rfl | 3, _ => rfl | 4, _ => rfl | 5, _ => rfl
theorem lay6_4 (a b c d e f v : Value) (j : Nat) (hj : j < 6) : (if j = 4 then v else lay6 a b c d e f j) = lay6 a b c d v f j := by match j, hj with | 0, _ => rfl | 1, _ => rfl | 2, _ => rfl | 3, _ => rfl | 4, _ => rfl | 5, _ => rfl
theorem lay6_5 (a b c d e f v : Value) (j : Nat) (hj : j < 6) : (if j = 5 then v else lay6 a b c d e f j) = lay6 a b c d e v j := by match j, hj with | 0, _ => rfl | 1, _ => rfl | 2, _ => rfl | 3, _ => rfl | 4, _ => rfl | 5, _ => rfl

/-- How far lay has come: next lies at q, the layout at q + 1. -/
structure LayS (x : Cfg) (w : World) (q : Nat) (n : Int) (v0 v1 v2 v3 v4 : Value) (wr : World) : Prop where
  bel : Below w.heap.size w wr
  hq : w.heap.size + 2 ≤ q
  res : wr.rowIs (w.heap.size + 1) 198 6 (lay6 .nilFunc .nilFunc .nilFunc .nilFunc .nilFunc (.int .i64 0))
  next : wr.rowIs q 3 1 (fun _ => .int .i64 n)
  lay : wr.rowIs (q + 1) 198 6 (lay6 v0 v1 v2 v3 v4 (.int .i64 0))
theorem LayS.alloc {x : Cfg} {w : World} {q : Nat} {n : Int} {v0 v1 v2 v3 v4 : Value} {wr : World} (h : LayS x w q n v0 v1 v2 v3 v4 wr) (o : Obj) : LayS x w q n v0 v1 v2 v3 v4 (wr.alloc o) :=
  ⟨h.bel.alloc h.bel.size o, h.hq, h.res.alloc o, h.next.alloc o, h.lay.alloc o⟩
theorem LayS.row {x : Cfg} {w : World} {q : Nat} {n m : Int} {v0 v1 v2 v3 v4 : Value} {wr w' : World} (h : LayS x w q n v0 v1 v2 v3 v4 wr) (hb : But q wr w') (hn : w'.rowIs q 3 1 (fun _ => .int .i64 m)) : LayS x w q m v0 v1 v2 v3 v4 w' :=
  have := h.hq
  ⟨h.bel.trans (hb.below h.bel.size (by omega)), h.hq, h.res.of_block (hb.block _ h.res.lt (by omega)), hn, h.lay.of_block (hb.block _ h.lay.lt (by omega))⟩
theorem LayS.put {x : Cfg} {w : World} {q : Nat} {n : Int} {v0 v1 v2 v3 v4 : Value} {wr : World} (h : LayS x w q n v0 v1 v2 v3 v4 wr) (j : Nat) (v : Value) {u0 u1 u2 u3 u4 : Value}
    (hj : ∀ i, i < 6 → (if i = j then v else lay6 v0 v1 v2 v3 v4 (.int .i64 0) i) = lay6 u0 u1 u2 u3 u4 (.int .i64 0) i) : LayS x w q n u0 u1 u2 u3 u4 (wr.setCell ⟨q + 1, j, none⟩ v) :=
  have := h.hq
  ⟨h.bel.setCell (p := ⟨q + 1, j, none⟩) (by simp; omega) v, h.hq, h.res.setOther (a := ⟨q + 1, j, none⟩) (by simp; omega) v, h.next.setOther (a := ⟨q + 1, j, none⟩) (by simp) v, (h.lay.set j v).congr hj⟩

/-- What next is, ahead of each class, and behind both. -/
def nx (x : Cfg) : Nat → Int
  | 0 => bB x
  | 1 => bB1 x
  | _ => sizeC x
def LayR (x : Cfg) (w : World) (q : Nat) (v0 v1 v2 : Value) (k : Nat) (wr : World) : Prop :=
  ∃ v3 v4, LayS x w q (nx x k) v0 v1 v2 v3 v4 wr ∧ Rowf (q + 2) wr v0 5 x.l 1 ∧ Rowf (q + 2) wr v1 (bE x) x.t 1 ∧ Rowf (q + 2) wr v2 (bC x) x.t (1 + 2 * x.s) ∧ (1 ≤ k → Rowf (q + 2) wr v3 (bB x) x.n0 (1 + x.s0)) ∧ (2 ≤ k → Rowf (q + 2) wr v4 (bB1 x) x.n1 (1 + x.s1))
theorem cls_0 (a b c d : Int) (w : World) : (Instr.index 58 (.agg #[.int .i64 a, .int .i64 b, .int .i64 c, .int .i64 d]) (.int .i64 0)).run Tryd.prog w = .ok (.agg #[.int .i64 a, .int .i64 b]) w := by kernel_rfl
theorem cls_1 (a b c d : Int) (w : World) : (Instr.index 58 (.agg #[.int .i64 a, .int .i64 b, .int .i64 c, .int .i64 d]) (.int .i64 1)).run Tryd.prog w = .ok (.agg #[.int .i64 c, .int .i64 d]) w := by kernel_rfl

set_option maxRecDepth 100000 in
set_option maxHeartbeats 4000000 in
theorem lay_any (x : Cfg) (w : World) (hL : Lim w) (hr : Right x) : Calls Tryd.prog 111 #[(.agg #[.int .i64 x.t, .int .i64 x.s, .int .i64 x.l, .int .i64 x.c, .int .i64 x.s0, .int .i64 x.n0, .int .i64 x.s1, .int .i64 x.n1, .int .i64 x.r])] w (Laid x w) := by
  have HL := Lib.hid hL
  have HR := Lib.hid hr
  have hmf := mk_func
  have hcb := hr.b
  obtain ⟨s1, s2, s3, s4, s5, s6, s7, s8, s9, s10⟩ := hr.sizes
  clear hL hr
  go_enter Tryd.func111, Tryd.ntmps111
  go_wp2_with fail
  refine (check_yes x _ (HL.out.below (by (repeat (first | with_reducible exact Below.refl _ _ | with_reducible refine Below.drew ?_ | (with_reducible refine Below.setCell ?_ ?side _; case side => exact (by first | (simp; done) | (simp; omega) | omega)) | (with_reducible refine Below.alloc ?_ ?side _; case side => exact (by first | (simp; done) | (simp; omega) | omega)))))) (rightB_true HR.out)).mono ?_
  rintro e w1 ⟨rfl, hb⟩
  have hB1 := Below.step (B := w.heap.size) (a := w) (by (repeat (first | with_reducible exact Below.refl _ _ | with_reducible refine Below.drew ?_ | (with_reducible refine Below.setCell ?_ ?side _; case side => exact (by first | (simp; done) | (simp; omega) | omega)) | (with_reducible refine Below.alloc ?_ ?side _; case side => exact (by first | (simp; done) | (simp; omega) | omega))))) hb (by first | (simp; done) | (simp; omega) | omega)
  have hC1 := CfgAt.below ((cfgAt_box w x).alloc _) hb
  have hR0 := World.rowIs_alloc (w.alloc (.cells #[.int .i64 x.t, .int .i64 x.s, .int .i64 x.l, .int .i64 x.c, .int .i64 x.s0, .int .i64 x.n0, .int .i64 x.s1, .int .i64 x.n1, .int .i64 x.r] 60)) #[.nilFunc, .nilFunc, .nilFunc, .nilFunc, .nilFunc, .int .i64 0] 198 (lay6 .nilFunc .nilFunc .nilFunc .nilFunc .nilFunc (.int .i64 0)) (by intro j hj; match j, hj with | 0, _ => rfl | 1, _ => rfl | 2, _ => rfl | 3, _ => rfl | 4, _ => rfl | 5, _ => rfl)
  simp only [World.size_alloc] at hR0
  have hR1 := hR0.of_block (hb.block _ hR0.lt)
  have hq : w.heap.size + 2 ≤ w1.heap.size := by have := hb.size; simp at this; omega
  have ne0 : w.heap.size ≠ w1.heap.size := by omega
  have ne1 : w.heap.size ≠ w1.heap.size + 1 := by omega
  clear hb hR0
  obtain ⟨c0, c1, c2, c3, c4, c5, c6, c7, c8⟩ := hC1.cells
  have HS : Hid (LayS x w w1.heap.size 5 .nilFunc .nilFunc .nilFunc .nilFunc .nilFunc ((w1.alloc (.cells #[.int .i64 5] 3)).alloc (.cells #[.nilFunc, .nilFunc, .nilFunc, .nilFunc, .nilFunc, .int .i64 0] 198))) := by
    refine Lib.hid ⟨by (repeat (first | with_reducible exact Below.refl _ _ | with_reducible exact hB1 | with_reducible refine Below.drew ?_ | (with_reducible refine Below.setCell ?_ ?side _; case side => exact (by have := (hB1).size; first | (simp; done) | (simp; omega) | omega)) | (with_reducible refine Below.alloc ?_ ?side _; case side => exact (by have := (hB1).size; first | (simp; done) | (simp; omega) | omega)))), hq, (hR1.alloc _).alloc _, World.rowIs.alloc (World.rowIs_alloc w1 #[.int .i64 5] 3 _ (by intro j hj; match j, hj with | 0, _ => rfl)) _, ?_⟩
    have h := World.rowIs_alloc (w1.alloc (.cells #[.int .i64 5] 3)) #[.nilFunc, .nilFunc, .nilFunc, .nilFunc, .nilFunc, .int .i64 0] 198 (lay6 .nilFunc .nilFunc .nilFunc .nilFunc .nilFunc (.int .i64 0)) (by intro j hj; match j, hj with | 0, _ => rfl | 1, _ => rfl | 2, _ => rfl | 3, _ => rfl | 4, _ => rfl | 5, _ => rfl)
    simp only [World.size_alloc] at h
    exact h
  have HC : Hid (CfgAt ((w1.alloc (.cells #[.int .i64 5] 3)).alloc (.cells #[.nilFunc, .nilFunc, .nilFunc, .nilFunc, .nilFunc, .int .i64 0] 198)) w.heap.size x) := Lib.hid ((hC1.alloc _).alloc _)
  clear hR1 hB1 hC1 c0 c1 c2 c3 c4 c5 c6 c7 c8
  obtain ⟨c0, c1, c2, c3, c4, c5, c6, c7, c8⟩ := HC.out.cells
  go_wp2_with fail
  clear c0 c1 c2 c3 c4 c5 c6 c7 c8 ne0 ne1
  generalize ((w1.alloc (.cells #[.int .i64 5] 3)).alloc (.cells #[.nilFunc, .nilFunc, .nilFunc, .nilFunc, .nilFunc, .int .i64 0] 198)) = W0 at HS HC ⊢
  generalize w1.heap.size = q at HS hq ⊢
  have ne : w.heap.size ≠ q := by omega
  have ne1 : w.heap.size ≠ q + 1 := by omega
  have ne2 : q + 1 ≠ w.heap.size := by omega
  have hz : q + 2 ≤ W0.heap.size := by have := HS.out.lay.lt; omega
  refine (lay1_any 5 x.l 1 q W0 HS.out.next (by omega) (by omega) (by omega) (by omega) (by omega) (by omega)).mono ?_
  rintro e V0 ⟨v0, rfl, hf, hn, hb⟩
  obtain ⟨a0, b0, d0, rfl, -⟩ := id hf
  simp only [Int.mul_one] at hn
  have HN := Lib.hid (LayS.row (m := bE x) HS.out hb hn)
  have HCN := Lib.hid (show CfgAt V0 w.heap.size x from HC.out.of_block (hb.block _ HC.out.lt ne))
  have HF0 := Lib.hid (hf.mono hz)
  clear HS HC hb hn hf hz
  have l0 : V0.cell? ⟨q + 1, 0, none⟩ = some .nilFunc := HN.out.lay.cell (i := 0) (by omega)
  have lf := HN.out.lay.frozen
  obtain ⟨c0, c1, c2, c3, c4, c5, c6, c7, c8⟩ := HCN.out.cells
  go_wp2_with fail
  have HS := Lib.hid (HN.out.put 0 (.func (.func 141) #[] #[.pointer (some ⟨a0, 0, none⟩), .pointer (some ⟨b0, 0, none⟩), .pointer (some ⟨d0, 0, none⟩)]) (lay6_0 _ _ _ _ _ _ _))
  have HC := Lib.hid (show CfgAt (V0.setCell ⟨q + 1, 0, none⟩ (.func (.func 141) #[] #[.pointer (some ⟨a0, 0, none⟩), .pointer (some ⟨b0, 0, none⟩), .pointer (some ⟨d0, 0, none⟩)])) w.heap.size x from HCN.out.setOther (a := ⟨q + 1, 0, none⟩) ne1 _)
  have HE0 := Lib.hid (HF0.out.set (p := ⟨q + 1, 0, none⟩) (by simp) (.func (.func 141) #[] #[.pointer (some ⟨a0, 0, none⟩), .pointer (some ⟨b0, 0, none⟩), .pointer (some ⟨d0, 0, none⟩)]))
  clear HN HCN HF0 l0 lf c0 c1 c2 c3 c4 c5 c6 c7 c8
  generalize V0.setCell ⟨q + 1, 0, none⟩ (.func (.func 141) #[] #[.pointer (some ⟨a0, 0, none⟩), .pointer (some ⟨b0, 0, none⟩), .pointer (some ⟨d0, 0, none⟩)]) = W1 at HS HC HE0 ⊢
  have HF0 := Lib.hid HE0.out
  clear HE0
  have hz : q + 2 ≤ W1.heap.size := by have := HS.out.lay.lt; omega
  refine (lay1_any (bE x) x.t 1 q W1 HS.out.next (by omega) (by omega) (by omega) (by omega) (by omega) (by omega)).mono ?_
  rintro e V1 ⟨v1, rfl, hf, hn, hb⟩
  obtain ⟨a1, b1, d1, rfl, -⟩ := id hf
  simp only [Int.mul_one] at hn
  have HN := Lib.hid (LayS.row (m := bC x) HS.out hb hn)
  have HCN := Lib.hid (show CfgAt V1 w.heap.size x from HC.out.of_block (hb.block _ HC.out.lt ne))
  have HF1 := Lib.hid (hf.mono hz)
  have HG0 := Lib.hid (HF0.out.but hb (by omega))
  clear HS HC hb hn hf hz HF0
  have l1 : V1.cell? ⟨q + 1, 1, none⟩ = some .nilFunc := HN.out.lay.cell (i := 1) (by omega)
  have lf := HN.out.lay.frozen
  obtain ⟨c0, c1, c2, c3, c4, c5, c6, c7, c8⟩ := HCN.out.cells
  go_wp2_with fail
  have HS := Lib.hid (HN.out.put 1 (.func (.func 141) #[] #[.pointer (some ⟨a1, 0, none⟩), .pointer (some ⟨b1, 0, none⟩), .pointer (some ⟨d1, 0, none⟩)]) (lay6_1 _ _ _ _ _ _ _))
  have HC := Lib.hid (show CfgAt (V1.setCell ⟨q + 1, 1, none⟩ (.func (.func 141) #[] #[.pointer (some ⟨a1, 0, none⟩), .pointer (some ⟨b1, 0, none⟩), .pointer (some ⟨d1, 0, none⟩)])) w.heap.size x from HCN.out.setOther (a := ⟨q + 1, 1, none⟩) ne1 _)
  have HE1 := Lib.hid (HF1.out.set (p := ⟨q + 1, 1, none⟩) (by simp) (.func (.func 141) #[] #[.pointer (some ⟨a1, 0, none⟩), .pointer (some ⟨b1, 0, none⟩), .pointer (some ⟨d1, 0, none⟩)]))
  have HE0 := Lib.hid (HG0.out.set (p := ⟨q + 1, 1, none⟩) (by simp) (.func (.func 141) #[] #[.pointer (some ⟨a1, 0, none⟩), .pointer (some ⟨b1, 0, none⟩), .pointer (some ⟨d1, 0, none⟩)]))
  clear HN HCN HF1 HG0 l1 lf c0 c1 c2 c3 c4 c5 c6 c7 c8
  generalize V1.setCell ⟨q + 1, 1, none⟩ (.func (.func 141) #[] #[.pointer (some ⟨a1, 0, none⟩), .pointer (some ⟨b1, 0, none⟩), .pointer (some ⟨d1, 0, none⟩)]) = W2 at HS HC HE0 HE1 ⊢
  have HF0 := Lib.hid HE0.out
  have HF1 := Lib.hid HE1.out
  clear HE0 HE1
  have hz : q + 2 ≤ W2.heap.size := by have := HS.out.lay.lt; omega
  refine (lay1_any (bC x) x.t (1 + 2 * x.s) q W2 HS.out.next (by omega) (by omega) (by omega) (by omega) (by omega) (by omega)).mono ?_
  rintro e V2 ⟨v2, rfl, hf, hn, hb⟩
  obtain ⟨a2, b2, d2, rfl, -⟩ := id hf
  have HN := Lib.hid (LayS.row (m := bB x) HS.out hb hn)
  have HCN := Lib.hid (show CfgAt V2 w.heap.size x from HC.out.of_block (hb.block _ HC.out.lt ne))
  have HF2 := Lib.hid (hf.mono hz)
  have HG0 := Lib.hid (HF0.out.but hb (by omega))
  have HG1 := Lib.hid (HF1.out.but hb (by omega))
  clear HS HC hb hn hf hz HF0 HF1
  have l2 : V2.cell? ⟨q + 1, 2, none⟩ = some .nilFunc := HN.out.lay.cell (i := 2) (by omega)
  have lf := HN.out.lay.frozen
  obtain ⟨c0, c1, c2, c3, c4, c5, c6, c7, c8⟩ := HCN.out.cells
  go_wp2_with fail
  have HS := Lib.hid (HN.out.put 2 (.func (.func 141) #[] #[.pointer (some ⟨a2, 0, none⟩), .pointer (some ⟨b2, 0, none⟩), .pointer (some ⟨d2, 0, none⟩)]) (lay6_2 _ _ _ _ _ _ _))
  have HC := Lib.hid (show CfgAt (V2.setCell ⟨q + 1, 2, none⟩ (.func (.func 141) #[] #[.pointer (some ⟨a2, 0, none⟩), .pointer (some ⟨b2, 0, none⟩), .pointer (some ⟨d2, 0, none⟩)])) w.heap.size x from HCN.out.setOther (a := ⟨q + 1, 2, none⟩) ne1 _)
  have HE2 := Lib.hid (HF2.out.set (p := ⟨q + 1, 2, none⟩) (by simp) (.func (.func 141) #[] #[.pointer (some ⟨a2, 0, none⟩), .pointer (some ⟨b2, 0, none⟩), .pointer (some ⟨d2, 0, none⟩)]))
  have HE0 := Lib.hid (HG0.out.set (p := ⟨q + 1, 2, none⟩) (by simp) (.func (.func 141) #[] #[.pointer (some ⟨a2, 0, none⟩), .pointer (some ⟨b2, 0, none⟩), .pointer (some ⟨d2, 0, none⟩)]))
  have HE1 := Lib.hid (HG1.out.set (p := ⟨q + 1, 2, none⟩) (by simp) (.func (.func 141) #[] #[.pointer (some ⟨a2, 0, none⟩), .pointer (some ⟨b2, 0, none⟩), .pointer (some ⟨d2, 0, none⟩)]))
  clear HN HCN HF2 HG0 HG1 l2 lf c0 c1 c2 c3 c4 c5 c6 c7 c8
  generalize V2.setCell ⟨q + 1, 2, none⟩ (.func (.func 141) #[] #[.pointer (some ⟨a2, 0, none⟩), .pointer (some ⟨b2, 0, none⟩), .pointer (some ⟨d2, 0, none⟩)]) = W3 at HS HC HE0 HE1 HE2 ⊢
  have HF0 := Lib.hid HE0.out
  have HF1 := Lib.hid HE1.out
  have HF2 := Lib.hid HE2.out
  clear HE0 HE1 HE2
  have HQ := Lib.hid (show LayR x w q (.func (.func 141) #[] #[.pointer (some ⟨a0, 0, none⟩), .pointer (some ⟨b0, 0, none⟩), .pointer (some ⟨d0, 0, none⟩)]) (.func (.func 141) #[] #[.pointer (some ⟨a1, 0, none⟩), .pointer (some ⟨b1, 0, none⟩), .pointer (some ⟨d1, 0, none⟩)]) (.func (.func 141) #[] #[.pointer (some ⟨a2, 0, none⟩), .pointer (some ⟨b2, 0, none⟩), .pointer (some ⟨d2, 0, none⟩)]) 0 W3 from ⟨.nilFunc, .nilFunc, HS.out, HF0.out, HF1.out, HF2.out, fun h => absurd h (by omega), fun h => absurd h (by omega)⟩)
  obtain ⟨c0, c1, c2, c3, c4, c5, c6, c7, c8⟩ := HC.out.cells
  clear HS HF0 HF1 HF2
  go_wp2_with fail
  clear c0 c1 c2 c3 c4 c5 c6 c7 c8 HC
  go_loopw [34] (fun i wr => ∃ k : Nat, k ≤ 2 ∧ i = .int .i64 k ∧ LayR x w q (.func (.func 141) #[] #[.pointer (some ⟨a0, 0, none⟩), .pointer (some ⟨b0, 0, none⟩), .pointer (some ⟨d0, 0, none⟩)]) (.func (.func 141) #[] #[.pointer (some ⟨a1, 0, none⟩), .pointer (some ⟨b1, 0, none⟩), .pointer (some ⟨d1, 0, none⟩)]) (.func (.func 141) #[] #[.pointer (some ⟨a2, 0, none⟩), .pointer (some ⟨b2, 0, none⟩), .pointer (some ⟨d2, 0, none⟩)]) k wr) (fun i _ => 2 - (intOf i).toNat)
  case atStart => exact ⟨0, by omega, rfl, HQ.out⟩
  case round =>
    clear HQ
    obtain ⟨k, hk, rfl, v3, v4, hS, hF0, hF1, hF2, hF3, hF4⟩ := hrel
    have HS := Lib.hid hS
    have HF0 := Lib.hid hF0
    have HF1 := Lib.hid hF1
    have HF2 := Lib.hid hF2
    have HF3 := Lib.hid hF3
    have HF4 := Lib.hid hF4
    clear hS hF0 hF1 hF2 hF3 hF4
    have hz : q + 2 ≤ wr.heap.size := by have := HS.out.lay.lt; omega
    by_cases hlt : k < 2
    · obtain rfl | rfl : k = 0 ∨ k = 1 := by omega
      · have hc := cls_0 x.s0 x.n0 x.s1 x.n1
        go_wp2_with fail
        refine (lay1_any (bB x) x.n0 (1 + x.s0) q (wr.alloc (.cells #[.int .i64 x.s0, .int .i64 x.n0] 57)) (HS.out.next.alloc _) (by omega) (by omega) (by omega) (by omega) (by omega) (by omega)).mono ?_
        rintro e V ⟨v, rfl, hf, hn, hb⟩
        obtain ⟨a3, b3, d3, rfl, -⟩ := id hf
        have HN := Lib.hid (LayS.row (m := bB1 x) (HS.out.alloc _) hb hn)
        have HG3 := Lib.hid (hf.mono (show q + 2 ≤ _ by simp; omega))
        have HG0 := Lib.hid ((HF0.out.alloc _).but hb (by omega))
        have HG1 := Lib.hid ((HF1.out.alloc _).but hb (by omega))
        have HG2 := Lib.hid ((HF2.out.alloc _).but hb (by omega))
        clear HS HF0 HF1 HF2 HF3 HF4 hf hn hb hz
        have l3 : V.cell? ⟨q + 1, 3, none⟩ = some _ := HN.out.lay.cell (i := 3) (by omega)
        have lf := HN.out.lay.frozen
        go_wp2
        go_roundw
        case rel =>
          refine ⟨1, by omega, rfl, _, v4, HN.out.put 3 (.func (.func 141) #[] #[.pointer (some ⟨a3, 0, none⟩), .pointer (some ⟨b3, 0, none⟩), .pointer (some ⟨d3, 0, none⟩)]) (lay6_3 _ _ _ _ _ _ _), HG0.out.set (p := ⟨q + 1, 3, none⟩) (by simp) _, HG1.out.set (p := ⟨q + 1, 3, none⟩) (by simp) _, HG2.out.set (p := ⟨q + 1, 3, none⟩) (by simp) _, fun _ => HG3.out.set (p := ⟨q + 1, 3, none⟩) (by simp) _, fun h => absurd h (by omega)⟩
        case measure => simp [intOf]
      · have hc := cls_1 x.s0 x.n0 x.s1 x.n1
        go_wp2_with fail
        refine (lay1_any (bB1 x) x.n1 (1 + x.s1) q (wr.alloc (.cells #[.int .i64 x.s1, .int .i64 x.n1] 57)) (HS.out.next.alloc _) (by omega) (by omega) (by omega) (by omega) (by omega) (by omega)).mono ?_
        rintro e V ⟨v, rfl, hf, hn, hb⟩
        obtain ⟨a4, b4, d4, rfl, -⟩ := id hf
        have HN := Lib.hid (LayS.row (m := sizeC x) (HS.out.alloc _) hb hn)
        have HG4 := Lib.hid (hf.mono (show q + 2 ≤ _ by simp; omega))
        have HG0 := Lib.hid ((HF0.out.alloc _).but hb (by omega))
        have HG1 := Lib.hid ((HF1.out.alloc _).but hb (by omega))
        have HG2 := Lib.hid ((HF2.out.alloc _).but hb (by omega))
        have HG3 := Lib.hid (((HF3.out (by omega)).alloc _).but hb (by omega))
        clear HS HF0 HF1 HF2 HF3 HF4 hf hn hb hz
        have l3 : V.cell? ⟨q + 1, 4, none⟩ = some _ := HN.out.lay.cell (i := 4) (by omega)
        have lf := HN.out.lay.frozen
        go_wp2
        go_roundw
        case rel =>
          refine ⟨2, by omega, rfl, v3, _, HN.out.put 4 (.func (.func 141) #[] #[.pointer (some ⟨a4, 0, none⟩), .pointer (some ⟨b4, 0, none⟩), .pointer (some ⟨d4, 0, none⟩)]) (lay6_4 _ _ _ _ _ _ _), HG0.out.set (p := ⟨q + 1, 4, none⟩) (by simp) _, HG1.out.set (p := ⟨q + 1, 4, none⟩) (by simp) _, HG2.out.set (p := ⟨q + 1, 4, none⟩) (by simp) _, fun _ => HG3.out.set (p := ⟨q + 1, 4, none⟩) (by simp) _, fun _ => HG4.out.set (p := ⟨q + 1, 4, none⟩) (by simp) _⟩
        case measure => simp [intOf]
    · obtain rfl : k = 2 := by omega
      have hF3 := HF3.out (by omega)
      have hF4 := HF4.out (by omega)
      obtain ⟨a3, b3, d3, rfl, -⟩ := id hF3
      obtain ⟨a4, b4, d4, rfl, -⟩ := id hF4
      have HH3 := Lib.hid hF3
      have HH4 := Lib.hid hF4
      clear hF3 hF4 HF3 HF4 hz hk hlt
      have hn : wr.cell? ⟨q, 0, none⟩ = some (.int .i64 (sizeC x)) := HS.out.next.cell (i := 0) (by omega)
      have l0 : wr.cell? ⟨q + 1, 0, none⟩ = some _ := HS.out.lay.cell (i := 0) (by omega)
      have l1 : wr.cell? ⟨q + 1, 1, none⟩ = some _ := HS.out.lay.cell (i := 1) (by omega)
      have l2 : wr.cell? ⟨q + 1, 2, none⟩ = some _ := HS.out.lay.cell (i := 2) (by omega)
      have l3 : wr.cell? ⟨q + 1, 3, none⟩ = some _ := HS.out.lay.cell (i := 3) (by omega)
      have l4 : wr.cell? ⟨q + 1, 4, none⟩ = some _ := HS.out.lay.cell (i := 4) (by omega)
      have l5 : wr.cell? ⟨q + 1, 5, none⟩ = some _ := HS.out.lay.cell (i := 5) (by omega)
      have lf := HS.out.lay.frozen
      have r0 : wr.cell? ⟨w.heap.size + 1, 0, none⟩ = some .nilFunc := HS.out.res.cell (i := 0) (by omega)
      have r1 : wr.cell? ⟨w.heap.size + 1, 1, none⟩ = some .nilFunc := HS.out.res.cell (i := 1) (by omega)
      have r2 : wr.cell? ⟨w.heap.size + 1, 2, none⟩ = some .nilFunc := HS.out.res.cell (i := 2) (by omega)
      have r3 : wr.cell? ⟨w.heap.size + 1, 3, none⟩ = some .nilFunc := HS.out.res.cell (i := 3) (by omega)
      have r4 : wr.cell? ⟨w.heap.size + 1, 4, none⟩ = some .nilFunc := HS.out.res.cell (i := 4) (by omega)
      have r5 : wr.cell? ⟨w.heap.size + 1, 5, none⟩ = some (.int .i64 0) := HS.out.res.cell (i := 5) (by omega)
      have rf := HS.out.res.frozen
      simp only [lay6, List.getElem?_toArray, List.getElem?_cons_zero, List.getElem?_cons_succ, Option.getD_some] at l0 l1 l2 l3 l4 l5
      have nr : w.heap.size + 1 ≠ q := by omega
      have nr1 : w.heap.size + 1 ≠ q + 1 := by omega
      have nr2 : w.heap.size ≠ q := by omega
      go_wp2
      refine bodyPost_ret (v := .agg #[(.func (.func 141) #[] #[.pointer (some ⟨a0, 0, none⟩), .pointer (some ⟨b0, 0, none⟩), .pointer (some ⟨d0, 0, none⟩)]), (.func (.func 141) #[] #[.pointer (some ⟨a1, 0, none⟩), .pointer (some ⟨b1, 0, none⟩), .pointer (some ⟨d1, 0, none⟩)]), (.func (.func 141) #[] #[.pointer (some ⟨a2, 0, none⟩), .pointer (some ⟨b2, 0, none⟩), .pointer (some ⟨d2, 0, none⟩)]), (.func (.func 141) #[] #[.pointer (some ⟨a3, 0, none⟩), .pointer (some ⟨b3, 0, none⟩), .pointer (some ⟨d3, 0, none⟩)]), (.func (.func 141) #[] #[.pointer (some ⟨a4, 0, none⟩), .pointer (some ⟨b4, 0, none⟩), .pointer (some ⟨d4, 0, none⟩)]), .int .i64 (sizeC x)]) (by simp [results, Tryd.results111, go_sem, r0, r1, r2, r3, r4, r5]) rfl ?_
      have hB := HS.out.bel
      refine ⟨_, _, _, _, _, rfl, ?_, ?_, ?_, ?_, ?_, ?_⟩
      rotate_left 5
      · (repeat (first | with_reducible exact Below.refl _ _ | with_reducible exact hB | with_reducible refine Below.drew ?_ | (with_reducible refine Below.setCell ?_ ?side _; case side => exact (by have := (hB).size; first | (simp; done) | (simp; omega) | omega)) | (with_reducible refine Below.alloc ?_ ?side _; case side => exact (by have := (hB).size; first | (simp; done) | (simp; omega) | omega))))
      all_goals
        refine Rowf.mono (B := q + 2) ?_ (by omega)
        repeat (first | with_reducible exact HF0.out | with_reducible exact HF1.out | with_reducible exact HF2.out | with_reducible exact HH3.out | with_reducible exact HH4.out | (with_reducible refine Rowf.set ?_ ?side _; case side => simp; try omega))

end Go.Proofs.YtkpffnihnhlghaaDoor
