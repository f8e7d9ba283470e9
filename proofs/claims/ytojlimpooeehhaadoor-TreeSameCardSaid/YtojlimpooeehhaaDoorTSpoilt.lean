/- A struct that is spoilt: the law's own helper. -/
import Derived.Test.YtojlimpooeehhaaDoorTSpM
import Derived.Deep.DeepCutAuto
import Derived.Deep.CutBlock
import Derived.Deep.AppendLies
import Derived.Deep.Upon
import Derived.Deep.RegionHeld3
import Derived.Deep.RegionLaw
namespace Go.Proofs.YtojlimpooeehhaaDoor
open Go.ChangeShapes Go.WideShapes Go.ChangeAt Go.RowKit
def turnF (how at_ n : Int) (str : ByteArray) (dn : Bool) (j : Nat) : Value := if j = 0 then .int .i64 how else if j = 1 then .int .i64 at_ else if j = 2 then .int .i64 n else if j = 3 then .string str else .bool dn
/-- Within spoilt: the struct's box, the turn's, the result's; its row of fields, at g. -/
structure SP (W0 : World) (num : Nat) (bs : ByteArray) (nl : Nat) (An : Option Addr) (cn : Nat) (tq : Nat → Value) (P : Nat → Prop) (f : Nat → Tr) (a1 : Nat → Option Addr) (k1 : Nat → Nat) (a2 : Nat → Option Addr) (k2 : Nat → Nat) (m g cap : Nat) (W : World) : Prop where
  vb : W.rowIs W0.heap.size 34 4 (fun j => if j = 0 then .int .u64 (num : Nat) else if j = 1 then .string bs else if j = 2 then .slice An nl cn else .slice (some ⟨g, 0, none⟩) m cap)
  qb : W.rowIs (W0.heap.size + 1) 26 5 tq
  rb : W.rowIs (W0.heap.size + 2) 34 4 zeroT
  ka : KA P (W0.heap.size + 3) f a1 k1 a2 k2 m (.slice (some ⟨g, 0, none⟩) m cap) W
  be : Below W0.heap.size W0 W
theorem SP.below {W0 : World} {num : Nat} {bs : ByteArray} {nl : Nat} {An : Option Addr} {cn : Nat} {tq : Nat → Value} {P : Nat → Prop} {f : Nat → Tr} {a1 : Nat → Option Addr} {k1 : Nat → Nat} {a2 : Nat → Option Addr} {k2 : Nat → Nat} {m g cap : Nat} {W W' : World} (h : SP W0 num bs nl An cn tq P f a1 k1 a2 k2 m g cap W) (hb : Below W.heap.size W W') : SP W0 num bs nl An cn tq P f a1 k1 a2 k2 m g cap W' :=
  ⟨h.vb.of_block (hb.block _ h.vb.lt), h.qb.of_block (hb.block _ h.qb.lt), h.rb.of_block (hb.block _ h.rb.lt), h.ka.below hb, Below.step h.be hb h.be.size⟩
theorem turn_row (w : World) (how at_ n : Int) (str : ByteArray) (dn : Bool) : (w.alloc (.cells #[.int .i64 how, .int .i64 at_, .int .i64 n, .string str, .bool dn] 26)).rowIs w.heap.size 26 5 (turnF how at_ n str dn) := World.rowIs_alloc w #[.int .i64 how, .int .i64 at_, .int .i64 n, .string str, .bool dn] 26 _ (by intro j hj; match j, hj with | 0, _ => rfl | 1, _ => rfl | 2, _ => rfl | 3, _ => rfl | 4, _ => rfl)
theorem tree_row (w : World) (y : Tr) (A1 : Option Addr) (k1 : Nat) (A2 : Option Addr) (k2 : Nat) : (w.alloc (.cells #[.int .u64 ((y).num : Nat), .string (y).bs, .slice A1 (y).nl k1, .slice A2 (y).kl k2] 34)).rowIs w.heap.size 34 4 (boxT y A1 k1 A2 k2) := World.rowIs_alloc w #[.int .u64 ((y).num : Nat), .string (y).bs, .slice A1 (y).nl k1, .slice A2 (y).kl k2] 34 _ (by intro j hj; match j, hj with | 0, _ => rfl | 1, _ => rfl | 2, _ => rfl | 3, _ => rfl)

theorem own_lit (w : World) (base q : Nat) (hb : base ≤ w.heap.size) (hq : q = w.heap.size) : (w.alloc (.cells #[] 34)).ownsRow base 34 4 (.slice (some ⟨q, 0, none⟩) 0 0) 0 [] := by
  subst hq
  exact World.ownsRow_lit w #[] 0 hb (Nat.zero_le _) rfl
/-- A row that was copied. -/
theorem KA.copy {P : Nat → Prop} {W w1 : World} {base q K : Nat} {f : Nat → Tr} {a1 : Nat → Option Addr} {k1 : Nat → Nat} {a2 : Nat → Option Addr} {k2 : Nat → Nat} {v' : Value} {o : Obj} (hk : ∀ j, j < K → TAt W P (f j) (a1 j) (a2 j)) (hP : ∀ b, P b → b < base) (ho : w1.ownsRow base 34 4 v' (0 + K) ([] ++ cells4 f a1 k1 a2 k2 K)) (hg : (W.alloc o).grownBy w1 (some q)) (hq : base ≤ q) : KA P base f a1 k1 a2 k2 K v' w1 := by
  rw [Nat.zero_add, List.nil_append] at ho
  refine ⟨ho, fun j hj => (hk j hj).keep (fun b hb hl => ?_) (fun b hb hl => ⟨hb, fun e => by have := (ho.lt b e).1; have := hP b hb; omega⟩) (by have := hg.size; simp at this; omega)⟩
  exact (hg.block b (by simp; omega) (fun e => by have e' := Option.some.inj e; have := hP b hb; omega)).trans (((Below.refl W.heap.size W).alloc (Nat.le_refl _) o).block b hl)
theorem own_slice {w : World} {base K : Nat} {v : Value} {xs : List Value} (h : w.ownsRow base 34 4 v K xs) (hK : 0 < K) : ∃ g cap, v = .slice (some ⟨g, 0, none⟩) K cap ∧ base ≤ g := by
  rcases h.2 with ⟨_, e⟩ | ⟨g, cap, cur, e, h1, _⟩
  · omega
  · exact ⟨g, cap, e, h1⟩
theorem SP.start {W0 w1 : World} {num : Nat} {bs : ByteArray} {nl : Nat} {An : Option Addr} {cn : Nat} {v3 : Value} {how at_ n : Int} {str : ByteArray} {dn : Bool} {P : Nat → Prop} {f : Nat → Tr} {a1 : Nat → Option Addr} {k1 : Nat → Nat} {a2 : Nat → Option Addr} {k2 : Nat → Nat} {m g cap q : Nat} (hq : W0.heap.size + 3 ≤ q) (hP : ∀ b, P b → b < W0.heap.size) {o : Obj}
    (hg : ((((W0.alloc (.cells #[.int .u64 (num : Nat), .string bs, .slice An nl cn, v3] 34)).alloc (.cells #[.int .i64 how, .int .i64 at_, .int .i64 n, .string str, .bool dn] 26)).alloc (.cells #[.int .u64 0, .string ⟨#[]⟩, .slice none 0 0, .slice none 0 0] 34)).alloc o).grownBy w1 (some q)) (hk : KA P (W0.heap.size + 3) f a1 k1 a2 k2 m (.slice (some ⟨g, 0, none⟩) m cap) w1) :
    SP W0 num bs nl An cn (turnF how at_ n str dn) P f a1 k1 a2 k2 m g cap (w1.setCell ⟨W0.heap.size, 3, none⟩ (.slice (some ⟨g, 0, none⟩) m cap)) ∧ w1.cell? ⟨W0.heap.size, 3, none⟩ = some v3 ∧ w1.frozen? ⟨W0.heap.size, 3, none⟩ = false := by
  have r1 := (((World.rowIs_alloc W0 #[.int .u64 (num : Nat), .string bs, .slice An nl cn, v3] 34 (fun j => if j = 0 then .int .u64 (num : Nat) else if j = 1 then .string bs else if j = 2 then .slice An nl cn else v3) (by intro j hj; match j, hj with | 0, _ => rfl | 1, _ => rfl | 2, _ => rfl | 3, _ => rfl)).alloc (.cells #[.int .i64 how, .int .i64 at_, .int .i64 n, .string str, .bool dn] 26)).alloc (.cells #[.int .u64 0, .string ⟨#[]⟩, .slice none 0 0, .slice none 0 0] 34)).alloc o
  have r2 := ((turn_row (W0.alloc (.cells #[.int .u64 (num : Nat), .string bs, .slice An nl cn, v3] 34)) how at_ n str dn).alloc (.cells #[.int .u64 0, .string ⟨#[]⟩, .slice none 0 0, .slice none 0 0] 34)).alloc o
  have r3 := (zero_row ((W0.alloc (.cells #[.int .u64 (num : Nat), .string bs, .slice An nl cn, v3] 34)).alloc (.cells #[.int .i64 how, .int .i64 at_, .int .i64 n, .string str, .bool dn] 26))).alloc o
  simp only [World.size_alloc] at r1 r2 r3
  have hblk : ∀ k, k < W0.heap.size + 3 → w1.heap[k]? = ((((W0.alloc (.cells #[.int .u64 (num : Nat), .string bs, .slice An nl cn, v3] 34)).alloc (.cells #[.int .i64 how, .int .i64 at_, .int .i64 n, .string str, .bool dn] 26)).alloc (.cells #[.int .u64 0, .string ⟨#[]⟩, .slice none 0 0, .slice none 0 0] 34)).alloc o).heap[k]? := fun k hk => hg.block k (by simp; omega) (fun e => by have := Option.some.inj e; omega)
  have s1 := r1.of_block (hblk _ (by omega))
  have s2 := r2.of_block (hblk _ (by omega))
  have s3 := r3.of_block (hblk _ (by omega))
  have hB : Below W0.heap.size W0 w1 := by
    have h4 : Below W0.heap.size W0 ((((W0.alloc (.cells #[.int .u64 (num : Nat), .string bs, .slice An nl cn, v3] 34)).alloc (.cells #[.int .i64 how, .int .i64 at_, .int .i64 n, .string str, .bool dn] 26)).alloc (.cells #[.int .u64 0, .string ⟨#[]⟩, .slice none 0 0, .slice none 0 0] 34)).alloc o) := by (repeat (first | with_reducible exact Below.refl _ _ | with_reducible refine Below.drew ?_ | (with_reducible refine Below.setCell ?_ ?side _; case side => exact (by first | (simp; done) | (simp; omega) | omega)) | (with_reducible refine Below.alloc ?_ ?side _; case side => exact (by first | (simp; done) | (simp; omega) | omega))))
    exact h4.trans ⟨hg.os, hg.tape, hg.output, hg.size, fun k hk => hblk k (by omega)⟩
  refine ⟨⟨(s1.set 3 _).congr fun j hj => ?_, s2.setOther (a := ⟨W0.heap.size, 3, none⟩) (by show W0.heap.size + 1 ≠ W0.heap.size; omega) _, s3.setOther (a := ⟨W0.heap.size, 3, none⟩) (by show W0.heap.size + 2 ≠ W0.heap.size; omega) _, hk.set (p := ⟨W0.heap.size, 3, none⟩) (by show W0.heap.size < W0.heap.size + 3; omega) (fun e => by have e : P W0.heap.size := e; have := hP _ e; omega) _, hB.setCell (p := ⟨W0.heap.size, 3, none⟩) (Nat.le_refl _) _⟩, s1.cell (i := 3) (by simp), s1.frozen 3⟩
  match j, hj with
  | 0, _ => rfl
  | 1, _ => rfl
  | 2, _ => rfl
  | 3, _ => rfl

/-- Numbers and bytes are no matter of memory. -/
theorem TAt.congr {W : World} {P : Nat → Prop} {y : Tr} {A1 A2 : Option Addr} (h : TAt W P y A1 A2) (num : Nat) (bs : ByteArray) : TAt W P (.mk num bs y.nl y.nf y.kl y.kf) A1 A2 := (TAt_eq _ _ _ _ _).1 h
theorem TAt.nums' {W : World} {P : Nat → Prop} {y : Tr} {A1 A2 : Option Addr} (h : TAt W P y A1 A2) (num : Nat) (bs : ByteArray) {nl : Nat} {nf : Nat → Nat} {A1' : Option Addr} (hn : NRow W P A1' nl nf) : TAt W P (.mk num bs nl nf y.kl y.kf) A1' A2 := ⟨hn, ((TAt_eq _ _ _ _ _).1 h).2⟩
theorem TAt.noKids {W : World} {P : Nat → Prop} {y : Tr} {A1 A2 : Option Addr} (h : TAt W P y A1 A2) (num : Nat) (bs : ByteArray) (kf : Nat → Tr) : TAt W P (.mk num bs y.nl y.nf 0 kf) A1 none := ⟨((TAt_eq _ _ _ _ _).1 h).1, fun h => absurd h (Nat.lt_irrefl 0)⟩
theorem KA.mono {P Q : Nat → Prop} {base : Nat} {f : Nat → Tr} {a1 : Nat → Option Addr} {k1 : Nat → Nat} {a2 : Nat → Option Addr} {k2 : Nat → Nat} {m : Nat} {v : Value} {W : World} (h : KA P base f a1 k1 a2 k2 m v W) (hQ : ∀ b, P b → Q b) : KA Q base f a1 k1 a2 k2 m v W := ⟨h.own, fun i hi => (h.kids i hi).mono fun b hb _ => ⟨hQ b hb.1, hb.2⟩⟩
theorem SP.mono {W0 : World} {num : Nat} {bs : ByteArray} {nl : Nat} {An : Option Addr} {cn : Nat} {tq : Nat → Value} {P Q : Nat → Prop} {f : Nat → Tr} {a1 : Nat → Option Addr} {k1 : Nat → Nat} {a2 : Nat → Option Addr} {k2 : Nat → Nat} {m g cap : Nat} {W : World} (h : SP W0 num bs nl An cn tq P f a1 k1 a2 k2 m g cap W) (hQ : ∀ b, P b → Q b) : SP W0 num bs nl An cn tq Q f a1 k1 a2 k2 m g cap W := ⟨h.vb, h.qb, h.rb, h.ka.mono hQ, h.be⟩
/-- Another block, of nobody here, is stored into. -/
theorem SP.set {W0 : World} {num : Nat} {bs : ByteArray} {nl : Nat} {An : Option Addr} {cn : Nat} {tq : Nat → Value} {P : Nat → Prop} {f : Nat → Tr} {a1 : Nat → Option Addr} {k1 : Nat → Nat} {a2 : Nat → Option Addr} {k2 : Nat → Nat} {m g cap : Nat} {W : World} (h : SP W0 num bs nl An cn tq P f a1 k1 a2 k2 m g cap W) {p : Addr} (h3 : W0.heap.size + 3 ≤ p.block) (hg : p.block ≠ g) (hP : ¬ P p.block) (u : Value) : SP W0 num bs nl An cn tq P f a1 k1 a2 k2 m g cap (W.setCell p u) := by
  have hsz := ((Below.refl 0 W).setCell (p := p) (Nat.zero_le _) u).size
  refine ⟨h.vb.setOther (by omega) u, h.qb.setOther (by omega) u, h.rb.setOther (by omega) u, ⟨own_of h.ka.own fun k hk => Below.heap_setCell W p u k (by have e : g = k := Option.some.inj hk; omega), fun i hi => (h.ka.kids i hi).keep (fun b hb _ => Below.heap_setCell W p u b (fun e => hP (e ▸ hb.1))) (fun _ h _ => h) hsz⟩, h.be.setCell (by omega) u⟩
/-- The field k in its box, which is changed. -/
structure KB (kq g : Nat) (P : Nat → Prop) (y : Tr) (A1 : Option Addr) (k1 : Nat) (A2 : Option Addr) (k2 : Nat) (W : World) : Prop where
  box : W.rowIs kq 34 4 (boxT y A1 k1 A2 k2)
  tat : TAt W (fun b => P b ∧ b ≠ g) y A1 A2
theorem KB.put {kq g : Nat} {P : Nat → Prop} {y y' : Tr} {A1 A1' : Option Addr} {k1 k1' : Nat} {A2 A2' : Option Addr} {k2 k2' : Nat} {W : World} (h : KB kq g P y A1 k1 A2 k2 W) (j : Nat) (u : Value) (hb : ∀ q, q < 4 → (if q = j then u else boxT y A1 k1 A2 k2 q) = boxT y' A1' k1' A2' k2' q) (ht : TAt W (fun b => P b ∧ b ≠ g) y' A1' A2') (hP : ¬ P kq) : KB kq g P y' A1' k1' A2' k2' (W.setCell ⟨kq, j, none⟩ u) :=
  ⟨(h.box.set j u).congr hb, ht.keep (fun b hb _ => Below.heap_setCell W ⟨kq, j, none⟩ u b (fun e => hP (by have e : b = kq := e; rw [← e]; exact hb.1))) (fun _ h _ => h) ((Below.refl 0 W).setCell (Nat.zero_le _) u).size⟩
theorem KB.below {kq g : Nat} {P : Nat → Prop} {y : Tr} {A1 : Option Addr} {k1 : Nat} {A2 : Option Addr} {k2 : Nat} {W W' : World} (h : KB kq g P y A1 k1 A2 k2 W) (hb : Below W.heap.size W W') : KB kq g P y A1 k1 A2 k2 W' := ⟨h.box.of_block (hb.block _ h.box.lt), h.tat.below hb⟩

theorem KB.setOther {kq g : Nat} {P : Nat → Prop} {y : Tr} {A1 : Option Addr} {k1 : Nat} {A2 : Option Addr} {k2 : Nat} {W : World} (h : KB kq g P y A1 k1 A2 k2 W) {p : Addr} (hk : kq ≠ p.block) (hP : ¬ P p.block) (u : Value) : KB kq g P y A1 k1 A2 k2 (W.setCell p u) :=
  ⟨h.box.setOther hk u, h.tat.keep (fun b hb _ => Below.heap_setCell W p u b (fun e => hP (by rw [← e]; exact hb.1))) (fun _ h _ => h) ((Below.refl 0 W).setCell (Nat.zero_le _) u).size⟩
theorem SP.num {W0 : World} {num : Nat} {bs : ByteArray} {nl : Nat} {An : Option Addr} {cn : Nat} {tq : Nat → Value} {P : Nat → Prop} {f : Nat → Tr} {a1 : Nat → Option Addr} {k1 : Nat → Nat} {a2 : Nat → Option Addr} {k2 : Nat → Nat} {m g cap : Nat} {W : World} (h : SP W0 num bs nl An cn tq P f a1 k1 a2 k2 m g cap W) (hP : ¬ P W0.heap.size) (N : Nat) : SP W0 N bs nl An cn tq P f a1 k1 a2 k2 m g cap (W.setCell ⟨W0.heap.size, 0, none⟩ (.int .u64 (N : Nat))) := by
  refine ⟨(h.vb.set 0 _).congr fun j hj => ?_, h.qb.setOther (a := ⟨W0.heap.size, 0, none⟩) (by show W0.heap.size + 1 ≠ W0.heap.size; omega) _, h.rb.setOther (a := ⟨W0.heap.size, 0, none⟩) (by show W0.heap.size + 2 ≠ W0.heap.size; omega) _, h.ka.set (p := ⟨W0.heap.size, 0, none⟩) (by show W0.heap.size < W0.heap.size + 3; omega) hP _, h.be.setCell (p := ⟨W0.heap.size, 0, none⟩) (Nat.le_refl _) _⟩
  match j, hj with
  | 0, _ => rfl
  | 1, _ => rfl
  | 2, _ => rfl
  | 3, _ => rfl
/-- A tree more in the row; the field's box stays. -/
theorem SP.next {W0 : World} {num : Nat} {bs : ByteArray} {nl : Nat} {An : Option Addr} {cn : Nat} {tq : Nat → Value} {P : Nat → Prop} {f : Nat → Tr} {a1 : Nat → Option Addr} {k1 : Nat → Nat} {a2 : Nat → Option Addr} {k2 : Nat → Nat} {m g cap : Nat} {W w1 : World} (h : SP W0 num bs nl An cn tq P f a1 k1 a2 k2 m g cap W) (hP : ∀ b, b < W0.heap.size + 3 → W0.heap.size ≤ b → ¬ P b) {kq : Nat} (hkq : W0.heap.size + 3 ≤ kq) (hkg : kq ≠ g) (_hkP : ¬ P kq) {y : Tr} {A1 : Option Addr} {K1 : Nat} {A2 : Option Addr} {K2 : Nat} (hk : KB kq g P y A1 K1 A2 K2 W) {o : Obj} {g' cap' : Nat}
    (ho : w1.ownsRow (W0.heap.size + 3) 34 4 (.slice (some ⟨g', 0, none⟩) (m + 1) cap') (m + 1) (cells4 f a1 k1 a2 k2 m ++ [.int .u64 ((Tr.leaf.num : Nat) : Int), .string Tr.leaf.bs, .slice none Tr.leaf.nl 0, .slice none Tr.leaf.kl 0])) (hg : (W.alloc o).grownBy w1 (Value.slice (some ⟨g, 0, none⟩) m cap).ownBlock) (hv : (Value.slice (some ⟨g', 0, none⟩) (m + 1) cap').ownBlock = (Value.slice (some ⟨g, 0, none⟩) m cap).ownBlock ∨ (Value.slice (some ⟨g', 0, none⟩) (m + 1) cap').ownBlock = some (W.alloc o).heap.size) :
    SP W0 num bs nl An cn tq P (adPut f m .leaf) (adPut a1 m none) (adPut k1 m 0) (adPut a2 m none) (adPut k2 m 0) (m + 1) g' cap' (w1.setCell ⟨W0.heap.size, 3, none⟩ (.slice (some ⟨g', 0, none⟩) (m + 1) cap')) ∧ KB kq g' P y A1 K1 A2 K2 (w1.setCell ⟨W0.heap.size, 3, none⟩ (.slice (some ⟨g', 0, none⟩) (m + 1) cap')) ∧ kq ≠ g' ∧ w1.cell? ⟨W0.heap.size, 3, none⟩ = some (.slice (some ⟨g, 0, none⟩) m cap) ∧ w1.frozen? ⟨W0.heap.size, 3, none⟩ = false := by
  have hgl := (h.ka.own.lt g rfl)
  have hkl := hk.box.lt
  have hlr := h.rb.lt
  have hblk : ∀ b, b < W.heap.size → b ≠ g → w1.heap[b]? = W.heap[b]? := fun b hb hne => (hg.block b (by simp; omega) (fun e => hne (Option.some.inj e))).trans (((Below.refl W.heap.size W).alloc (Nat.le_refl _) o).block b hb)
  have hsz : W.heap.size ≤ w1.heap.size := by have := hg.size; simp at this; omega
  have hg' : g' = g ∨ g' = W.heap.size + 1 := by
    rcases hv with e | e
    · exact .inl (Option.some.inj e)
    · exact .inr (by have := Option.some.inj e; simpa using this)
  have hn := h.ka.next (K1 := 0) (K2 := 0) (y := .leaf) (A1 := none) (A2 := none) trivial ho hg hv
  have s1 := h.vb.of_block (hblk _ (by omega) (by omega))
  have s2 := h.qb.of_block (hblk _ (by omega) (by omega))
  have s3 := h.rb.of_block (hblk _ (by omega) (by omega))
  have hB : Below W0.heap.size W0 w1 := h.be.trans ⟨hg.os, hg.tape, hg.output, hsz, fun k hk => hblk k (by omega) (by omega)⟩
  refine ⟨⟨(s1.set 3 _).congr fun j hj => ?_, s2.setOther (a := ⟨W0.heap.size, 3, none⟩) (by show W0.heap.size + 1 ≠ W0.heap.size; omega) _, s3.setOther (a := ⟨W0.heap.size, 3, none⟩) (by show W0.heap.size + 2 ≠ W0.heap.size; omega) _, hn.set (p := ⟨W0.heap.size, 3, none⟩) (by show W0.heap.size < W0.heap.size + 3; omega) (hP W0.heap.size (by omega) (Nat.le_refl _)) _, hB.setCell (p := ⟨W0.heap.size, 3, none⟩) (Nat.le_refl _) _⟩, ⟨(hk.box.of_block (hblk _ hkl hkg)).setOther (a := ⟨W0.heap.size, 3, none⟩) (by show kq ≠ W0.heap.size; omega) _, ?_⟩, by omega, s1.cell (i := 3) (by omega), s1.frozen 3⟩
  · match j, hj with
    | 0, _ => rfl
    | 1, _ => rfl
    | 2, _ => rfl
    | 3, _ => rfl
  · refine hk.tat.keep (fun b hb hl => ?_) (fun b hb hl => ⟨hb.1, by omega⟩) (Nat.le_trans hsz ((Below.refl 0 w1).setCell (Nat.zero_le _) _).size)
    rw [Below.heap_setCell w1 ⟨W0.heap.size, 3, none⟩ _ b (fun e => hP W0.heap.size (by omega) (Nat.le_refl _) (by have e : b = W0.heap.size := e; rw [← e]; exact hb.1))]
    exact hblk b hl hb.2


/-- The field is stored into the row. -/
theorem SP.fin1 {W0 : World} {num : Nat} {bs : ByteArray} {nl : Nat} {An : Option Addr} {cn : Nat} {tq : Nat → Value} {P : Nat → Prop} {f : Nat → Tr} {a1 : Nat → Option Addr} {k1 : Nat → Nat} {a2 : Nat → Option Addr} {k2 : Nat → Nat} {m g cap : Nat} {W : World} (h : SP W0 num bs nl An cn tq P f a1 k1 a2 k2 m g cap W) {kq : Nat} {y : Tr} {A1 : Option Addr} {K1 : Nat} {A2 : Option Addr} {K2 : Nat} (hk : KB kq g P y A1 K1 A2 K2 W) {i : Nat} (hi : i < m) :
    KR P (adPut f i y) (adPut a1 i A1) (adPut k1 i K1) (adPut a2 i A2) (adPut k2 i K2) m g ((((W.setCell ⟨g, i * 4, none⟩ (.int .u64 (y.num : Nat))).setCell ⟨g, i * 4 + 1, none⟩ (.string y.bs)).setCell ⟨g, i * 4 + 2, none⟩ (.slice A1 y.nl K1)).setCell ⟨g, i * 4 + 3, none⟩ (.slice A2 y.kl K2)) ∧ ((((W.setCell ⟨g, i * 4, none⟩ (.int .u64 (y.num : Nat))).setCell ⟨g, i * 4 + 1, none⟩ (.string y.bs)).setCell ⟨g, i * 4 + 2, none⟩ (.slice A1 y.nl K1)).setCell ⟨g, i * 4 + 3, none⟩ (.slice A2 y.kl K2)).rowIs W0.heap.size 34 4 (fun j => if j = 0 then .int .u64 (num : Nat) else if j = 1 then .string bs else if j = 2 then .slice An nl cn else .slice (some ⟨g, 0, none⟩) m cap) ∧ ((((W.setCell ⟨g, i * 4, none⟩ (.int .u64 (y.num : Nat))).setCell ⟨g, i * 4 + 1, none⟩ (.string y.bs)).setCell ⟨g, i * 4 + 2, none⟩ (.slice A1 y.nl K1)).setCell ⟨g, i * 4 + 3, none⟩ (.slice A2 y.kl K2)).rowIs (W0.heap.size + 1 + 1) 34 4 zeroT ∧ Below W0.heap.size W0 ((((W.setCell ⟨g, i * 4, none⟩ (.int .u64 (y.num : Nat))).setCell ⟨g, i * 4 + 1, none⟩ (.string y.bs)).setCell ⟨g, i * 4 + 2, none⟩ (.slice A1 y.nl K1)).setCell ⟨g, i * 4 + 3, none⟩ (.slice A2 y.kl K2)) ∧ W0.heap.size + 3 ≤ g := by
  have hg := h.ka.own.lt g rfl
  have hgb : ∀ o, W0.heap.size ≤ (⟨g, o, none⟩ : Addr).block := fun o => by show W0.heap.size ≤ g; omega
  refine ⟨h.ka.kr.put hi hk.tat, ?_, ?_, (((h.be.setCell (hgb _) _).setCell (hgb _) _).setCell (hgb _) _).setCell (hgb _) _, hg.1⟩
  · exact (((h.vb.setOther (a := ⟨g, i * 4, none⟩) (by show W0.heap.size ≠ g; omega) _).setOther (a := ⟨g, i * 4 + 1, none⟩) (by show W0.heap.size ≠ g; omega) _).setOther (a := ⟨g, i * 4 + 2, none⟩) (by show W0.heap.size ≠ g; omega) _).setOther (a := ⟨g, i * 4 + 3, none⟩) (by show W0.heap.size ≠ g; omega) _
  · exact (((h.rb.setOther (a := ⟨g, i * 4, none⟩) (by show W0.heap.size + 2 ≠ g; omega) _).setOther (a := ⟨g, i * 4 + 1, none⟩) (by show W0.heap.size + 2 ≠ g; omega) _).setOther (a := ⟨g, i * 4 + 2, none⟩) (by show W0.heap.size + 2 ≠ g; omega) _).setOther (a := ⟨g, i * 4 + 3, none⟩) (by show W0.heap.size + 2 ≠ g; omega) _
/-- The struct is stored into its result. -/
theorem fin2 {W0 : World} {num : Nat} {bs : ByteArray} {nl : Nat} {nf : Nat → Nat} {An : Option Addr} {cn : Nat} {P Q : Nat → Prop} {f : Nat → Tr} {a1 : Nat → Option Addr} {k1 : Nat → Nat} {a2 : Nat → Option Addr} {k2 : Nat → Nat} {m g cap : Nat} {W : World} (hkr : KR P f a1 k1 a2 k2 m g W) (hr : W.rowIs (W0.heap.size + 1 + 1) 34 4 zeroT) (hb : Below W0.heap.size W0 W) (hg : W0.heap.size + 3 ≤ g) (hP : ¬ P (W0.heap.size + 1 + 1)) (hn : NRow W0 Q An nl nf) (hPQ : ∀ b, P b → Q b) (hgQ : Q g) :
    TAt ((((W.setCell ⟨W0.heap.size + 1 + 1, 0, none⟩ (.int .u64 (num : Nat))).setCell ⟨W0.heap.size + 1 + 1, 1, none⟩ (.string bs)).setCell ⟨W0.heap.size + 1 + 1, 2, none⟩ (.slice An nl cn)).setCell ⟨W0.heap.size + 1 + 1, 3, none⟩ (.slice (some ⟨g, 0, none⟩) m cap)) Q (.mk num bs nl nf m f) An (some ⟨g, 0, none⟩) ∧ ((((W.setCell ⟨W0.heap.size + 1 + 1, 0, none⟩ (.int .u64 (num : Nat))).setCell ⟨W0.heap.size + 1 + 1, 1, none⟩ (.string bs)).setCell ⟨W0.heap.size + 1 + 1, 2, none⟩ (.slice An nl cn)).setCell ⟨W0.heap.size + 1 + 1, 3, none⟩ (.slice (some ⟨g, 0, none⟩) m cap)).rowIs (W0.heap.size + 1 + 1) 34 4 (fun j => if j = 0 then .int .u64 (num : Nat) else if j = 1 then .string bs else if j = 2 then .slice An nl cn else .slice (some ⟨g, 0, none⟩) m cap) ∧ Below W0.heap.size W0 ((((W.setCell ⟨W0.heap.size + 1 + 1, 0, none⟩ (.int .u64 (num : Nat))).setCell ⟨W0.heap.size + 1 + 1, 1, none⟩ (.string bs)).setCell ⟨W0.heap.size + 1 + 1, 2, none⟩ (.slice An nl cn)).setCell ⟨W0.heap.size + 1 + 1, 3, none⟩ (.slice (some ⟨g, 0, none⟩) m cap)) := by
  have hle : ∀ o, W0.heap.size ≤ (⟨W0.heap.size + 1 + 1, o, none⟩ : Addr).block := fun o => by show W0.heap.size ≤ W0.heap.size + 1 + 1; omega
  have hB2 : Below W0.heap.size W0 ((((W.setCell ⟨W0.heap.size + 1 + 1, 0, none⟩ (.int .u64 (num : Nat))).setCell ⟨W0.heap.size + 1 + 1, 1, none⟩ (.string bs)).setCell ⟨W0.heap.size + 1 + 1, 2, none⟩ (.slice An nl cn)).setCell ⟨W0.heap.size + 1 + 1, 3, none⟩ (.slice (some ⟨g, 0, none⟩) m cap)) := (((hb.setCell (hle _) _).setCell (hle _) _).setCell (hle _) _).setCell (hle _) _
  have hblk : ∀ b, b ≠ W0.heap.size + 1 + 1 → ((((W.setCell ⟨W0.heap.size + 1 + 1, 0, none⟩ (.int .u64 (num : Nat))).setCell ⟨W0.heap.size + 1 + 1, 1, none⟩ (.string bs)).setCell ⟨W0.heap.size + 1 + 1, 2, none⟩ (.slice An nl cn)).setCell ⟨W0.heap.size + 1 + 1, 3, none⟩ (.slice (some ⟨g, 0, none⟩) m cap)).heap[b]? = W.heap[b]? := fun b hne => by
    rw [Below.heap_setCell _ ⟨W0.heap.size + 1 + 1, 3, none⟩ _ b hne, Below.heap_setCell _ ⟨W0.heap.size + 1 + 1, 2, none⟩ _ b hne, Below.heap_setCell _ ⟨W0.heap.size + 1 + 1, 1, none⟩ _ b hne, Below.heap_setCell _ ⟨W0.heap.size + 1 + 1, 0, none⟩ _ b hne]
  have hsz : W.heap.size ≤ ((((W.setCell ⟨W0.heap.size + 1 + 1, 0, none⟩ (.int .u64 (num : Nat))).setCell ⟨W0.heap.size + 1 + 1, 1, none⟩ (.string bs)).setCell ⟨W0.heap.size + 1 + 1, 2, none⟩ (.slice An nl cn)).setCell ⟨W0.heap.size + 1 + 1, 3, none⟩ (.slice (some ⟨g, 0, none⟩) m cap)).heap.size := (((((Below.refl 0 W).setCell (Nat.zero_le _) _).setCell (Nat.zero_le _) _).setCell (Nat.zero_le _) _).setCell (Nat.zero_le _) _).size
  have hkr2 := hkr.keep (Q := P) (fun b hb _ => hblk b (by
    rcases hb with h | h
    · exact fun e => hP (e ▸ h)
    · omega)) hsz (fun _ h _ => h)
  refine ⟨hkr2.tat ⟨hn.1.below hB2, hn.2⟩ hPQ hgQ, ((((hr.set 0 _).set 1 _).set 2 _).set 3 _).congr fun j hj => ?_, hB2⟩
  match j, hj with
  | 0, _ => rfl
  | 1, _ => rfl
  | 2, _ => rfl
  | 3, _ => rfl

theorem SP.down {W0 : World} {num : Nat} {bs : ByteArray} {nl : Nat} {An : Option Addr} {cn : Nat} {how at_ n : Int} {str : ByteArray} {dn : Bool} {P : Nat → Prop} {f : Nat → Tr} {a1 : Nat → Option Addr} {k1 : Nat → Nat} {a2 : Nat → Option Addr} {k2 : Nat → Nat} {m g cap : Nat} {W : World} (h : SP W0 num bs nl An cn (turnF how at_ n str dn) P f a1 k1 a2 k2 m g cap W) (hP : ¬ P (W0.heap.size + 1)) : SP W0 num bs nl An cn (turnF how at_ n str false) P f a1 k1 a2 k2 m g cap (W.setCell ⟨W0.heap.size + 1, 4, none⟩ (.bool false)) := by
  refine ⟨h.vb.setOther (a := ⟨W0.heap.size + 1, 4, none⟩) (by show W0.heap.size ≠ W0.heap.size + 1; omega) _, (h.qb.set 4 _).congr fun j hj => ?_, h.rb.setOther (a := ⟨W0.heap.size + 1, 4, none⟩) (by show W0.heap.size + 2 ≠ W0.heap.size + 1; omega) _, h.ka.set (p := ⟨W0.heap.size + 1, 4, none⟩) (by show W0.heap.size + 1 < W0.heap.size + 3; omega) hP _, h.be.setCell (p := ⟨W0.heap.size + 1, 4, none⟩) (by show W0.heap.size ≤ W0.heap.size + 1; omega) _⟩
  match j, hj with
  | 0, _ => rfl
  | 1, _ => rfl
  | 2, _ => rfl
  | 3, _ => rfl
  | 4, _ => rfl

theorem down_fin {w : World} {num : Nat} {bs : ByteArray} {nl : Nat} {An : Option Addr} {cn : Nat} {tq : Nat → Value} {P : Nat → Prop} {f : Nat → Tr} {a1 : Nat → Option Addr} {k1 : Nat → Nat} {a2 : Nat → Option Addr} {k2 : Nat → Nat} {m g cap : Nat} {W : World} {kq g2 cap2 S : Nat} {y x2 : Tr} {A1 : Option Addr} {K1 : Nat} {f1 : Nat → Option Addr} {j1 : Nat → Nat} {f2 : Nat → Option Addr} {j2 : Nat → Nat} {An2 : Option Addr} {cn2 : Nat} {Ak2 : Option Addr} {ck2 : Nat}
    (hsp : SP w num bs nl An cn tq (fun b => P b ∧ b < w.heap.size) f a1 k1 a2 k2 m g cap W) (hbx : W.rowIs kq 34 4 (boxT y A1 K1 (some ⟨g2, 0, none⟩) cap2)) (hkr : KR (fun b => (P b ∧ b < w.heap.size) ∧ b ≠ g) y.kf f1 j1 f2 j2 y.kl g2 W) (hn : NRow W (fun b => (P b ∧ b < w.heap.size) ∧ b ≠ g) A1 y.nl y.nf) (hx2 : TAt W (fun b => (P b ∧ b < w.heap.size) ∨ S ≤ b) x2 An2 Ak2) (_h1 : w.heap.size + 3 ≤ kq) (h2 : g < kq) (h3 : kq < g2) (h4 : g2 < S) (h0 : w.heap.size + 3 ≤ g) (hy : 0 < y.kl) :
    SP w num bs nl An cn tq (fun b => (P b ∧ b < w.heap.size) ∨ kq < b) f a1 k1 a2 k2 m g cap ((((W.setCell ⟨g2, 0, none⟩ (.int .u64 (x2.num : Nat))).setCell ⟨g2, 1, none⟩ (.string x2.bs)).setCell ⟨g2, 2, none⟩ (.slice An2 x2.nl cn2)).setCell ⟨g2, 3, none⟩ (.slice Ak2 x2.kl ck2)) ∧ KB kq g (fun b => (P b ∧ b < w.heap.size) ∨ kq < b) (.mk y.num y.bs y.nl y.nf y.kl (adPut y.kf 0 x2)) A1 K1 (some ⟨g2, 0, none⟩) cap2 ((((W.setCell ⟨g2, 0, none⟩ (.int .u64 (x2.num : Nat))).setCell ⟨g2, 1, none⟩ (.string x2.bs)).setCell ⟨g2, 2, none⟩ (.slice An2 x2.nl cn2)).setCell ⟨g2, 3, none⟩ (.slice Ak2 x2.kl ck2)) := by
  have hQ : ∀ b, ((P b ∧ b < w.heap.size) ∧ b ≠ g) → b < W.heap.size → (((P b ∧ b < w.heap.size) ∨ kq < b) ∧ b ≠ g) := fun b hb _ => ⟨.inl hb.1, hb.2⟩
  have hk2 := (hkr.keep (Q := fun b => ((P b ∧ b < w.heap.size) ∨ kq < b) ∧ b ≠ g) (fun _ _ _ => rfl) (Nat.le_refl _) hQ).put (i := 0) hy (K1 := cn2) (K2 := ck2) (hx2.mono fun b hb _ => hb.elim (fun h => ⟨⟨.inl h, by have := h.2; omega⟩, by have := h.2; omega⟩) (fun h => ⟨⟨.inr (by omega), by omega⟩, by omega⟩))
  have hp : ∀ o, w.heap.size + 3 ≤ (⟨g2, o, none⟩ : Addr).block := fun o => by show w.heap.size + 3 ≤ g2; omega
  have hg : ∀ o, (⟨g2, o, none⟩ : Addr).block ≠ g := fun o => by show g2 ≠ g; omega
  have hP : ∀ o, ¬ (P (⟨g2, o, none⟩ : Addr).block ∧ (⟨g2, o, none⟩ : Addr).block < w.heap.size) := fun o h => by have : g2 < w.heap.size := h.2; omega
  have hsp2 := (((hsp.set (hp 0) (hg 0) (hP 0) (.int .u64 (x2.num : Nat))).set (hp 1) (hg 1) (hP 1) (.string x2.bs)).set (hp 2) (hg 2) (hP 2) (.slice An2 x2.nl cn2)).set (hp 3) (hg 3) (hP 3) (.slice Ak2 x2.kl ck2)
  have hkn : ∀ o, kq ≠ (⟨g2, o, none⟩ : Addr).block := fun o => by show kq ≠ g2; omega
  have hsz : W.heap.size ≤ ((((W.setCell ⟨g2, 0, none⟩ (.int .u64 (x2.num : Nat))).setCell ⟨g2, 1, none⟩ (.string x2.bs)).setCell ⟨g2, 2, none⟩ (.slice An2 x2.nl cn2)).setCell ⟨g2, 3, none⟩ (.slice Ak2 x2.kl ck2)).heap.size := (((((Below.refl 0 W).setCell (Nat.zero_le _) _).setCell (Nat.zero_le _) _).setCell (Nat.zero_le _) _).setCell (Nat.zero_le _) _).size
  have hblk : ∀ b, b ≠ g2 → ((((W.setCell ⟨g2, 0, none⟩ (.int .u64 (x2.num : Nat))).setCell ⟨g2, 1, none⟩ (.string x2.bs)).setCell ⟨g2, 2, none⟩ (.slice An2 x2.nl cn2)).setCell ⟨g2, 3, none⟩ (.slice Ak2 x2.kl ck2)).heap[b]? = W.heap[b]? := fun b hne => by
    rw [Below.heap_setCell _ ⟨g2, 3, none⟩ _ b hne, Below.heap_setCell _ ⟨g2, 2, none⟩ _ b hne, Below.heap_setCell _ ⟨g2, 1, none⟩ _ b hne, Below.heap_setCell _ ⟨g2, 0, none⟩ _ b hne]
  refine ⟨hsp2.mono fun b hb => .inl hb, ⟨(((hbx.setOther (hkn 0) _).setOther (hkn 1) _).setOther (hkn 2) _).setOther (hkn 3) _, ?_⟩⟩
  refine KR.tat (Q := fun b => ((P b ∧ b < w.heap.size) ∨ kq < b) ∧ b ≠ g) hk2 ⟨hn.1.of_block (fun h0 a e hl => hblk _ (by have := (hn.2 h0 a e).1.2; omega)) hsz, fun h0 a e => ⟨.inl (hn.2 h0 a e).1, (hn.2 h0 a e).2⟩⟩ (fun _ h => h) ⟨.inr h3, by omega⟩

/-- A row, twice. -/
def dbl {α : Type} (K : Nat) (f : Nat → α) (j : Nat) : α := f (if j < K then j else j - K)
theorem dbl_lt {α : Type} {K : Nat} {f : Nat → α} {j : Nat} (h : j < K) : dbl K f j = f j := by unfold dbl; rw [if_pos h]
theorem dbl_ge {α : Type} {K : Nat} {f : Nat → α} {j : Nat} : dbl K f (K + j) = f j := by unfold dbl; rw [if_neg (by omega)]; congr 1; omega
theorem cells4_add (f : Nat → Tr) (a1 : Nat → Option Addr) (k1 : Nat → Nat) (a2 : Nat → Option Addr) (k2 : Nat → Nat) (m n : Nat) : cells4 f a1 k1 a2 k2 (m + n) = cells4 f a1 k1 a2 k2 m ++ cells4 (fun j => f (m + j)) (fun j => a1 (m + j)) (fun j => k1 (m + j)) (fun j => a2 (m + j)) (fun j => k2 (m + j)) n := by
  induction n with
  | zero => rw [Nat.add_zero]; exact (List.append_nil _).symm
  | succ n ih => rw [← Nat.add_assoc, cells4, ih, cells4, List.append_assoc]
theorem cells4_dbl (f : Nat → Tr) (a1 : Nat → Option Addr) (k1 : Nat → Nat) (a2 : Nat → Option Addr) (k2 : Nat → Nat) (K : Nat) : cells4 (dbl K f) (dbl K a1) (dbl K k1) (dbl K a2) (dbl K k2) (K + K) = cells4 f a1 k1 a2 k2 K ++ cells4 f a1 k1 a2 k2 K := by
  rw [cells4_add, cells4_congr (f' := f) (a1' := a1) (k1' := k1) (a2' := a2) (k2' := k2) fun j hj => ⟨dbl_lt hj, dbl_lt hj, dbl_lt hj, dbl_lt hj, dbl_lt hj⟩, cells4_congr (m := K) (f := fun j => dbl K f (K + j)) (f' := f) (a1' := a1) (k1' := k1) (a2' := a2) (k2' := k2) fun j hj => ⟨dbl_ge, dbl_ge, dbl_ge, dbl_ge, dbl_ge⟩]
theorem KA.twice {P : Nat → Prop} {W w2 : World} {base K : Nat} {f : Nat → Tr} {a1 : Nat → Option Addr} {k1 : Nat → Nat} {a2 : Nat → Option Addr} {k2 : Nat → Nat} {v : Value} (hk : ∀ j, j < K → TAt W P (f j) (a1 j) (a2 j)) (hP : ∀ b, P b → b < base) (hb : Below base W w2) (ho : w2.ownsRow base 34 4 v (K + K) (cells4 f a1 k1 a2 k2 K ++ cells4 f a1 k1 a2 k2 K)) : KA P base (dbl K f) (dbl K a1) (dbl K k1) (dbl K a2) (dbl K k2) (K + K) v w2 := by
  refine ⟨by rw [cells4_dbl]; exact ho, fun i hi => ?_⟩
  have hk' : TAt W P (dbl K f i) (dbl K a1 i) (dbl K a2 i) := by
    unfold dbl
    exact hk _ (by split <;> omega)
  exact hk'.keep (fun b hb' _ => hb.block b (hP b hb')) (fun b hb' _ => ⟨hb', fun e => by have := (ho.lt b e).1; have := hP b hb'; omega⟩) hb.size
/-- A field's kids, doubled. -/
theorem twice_fin {W0 : World} {num : Nat} {bs : ByteArray} {nl : Nat} {An : Option Addr} {cn : Nat} {tq : Nat → Value} {P : Nat → Prop} {f : Nat → Tr} {a1 : Nat → Option Addr} {k1 : Nat → Nat} {a2 : Nat → Option Addr} {k2 : Nat → Nat} {m g cap : Nat} {W w2 : World} {kq : Nat} {y : Tr} {A1 : Option Addr} {K1 : Nat} {A2 : Option Addr} {K2 : Nat} {f1 : Nat → Option Addr} {j1 : Nat → Nat} {f2 : Nat → Option Addr} {j2 : Nat → Nat} {g2 cap2 : Nat}
    (hsp : SP W0 num bs nl An cn tq P f a1 k1 a2 k2 m g cap W) (hkb : KB kq g P y A1 K1 A2 K2 W) (hk : ∀ j, j < y.kl → TAt W (fun b => P b ∧ b ≠ g) (y.kf j) (f1 j) (f2 j)) (hb : Below W.heap.size W w2) (ho : w2.ownsRow W.heap.size 34 4 (.slice (some ⟨g2, 0, none⟩) (y.kl + y.kl) cap2) (y.kl + y.kl) (cells4 y.kf f1 j1 f2 j2 y.kl ++ cells4 y.kf f1 j1 f2 j2 y.kl)) (h3 : W0.heap.size + 3 ≤ kq) (hkg : kq ≠ g) (hgl : g < W.heap.size) (hkP : ¬ P kq) (hP : ∀ b, W.heap.size ≤ b → P b) :
    SP W0 num bs nl An cn tq P f a1 k1 a2 k2 m g cap (w2.setCell ⟨kq, 3, none⟩ (.slice (some ⟨g2, 0, none⟩) (y.kl + y.kl) cap2)) ∧ KB kq g P (.mk y.num y.bs y.nl y.nf (y.kl + y.kl) (dbl y.kl y.kf)) A1 K1 (some ⟨g2, 0, none⟩) cap2 (w2.setCell ⟨kq, 3, none⟩ (.slice (some ⟨g2, 0, none⟩) (y.kl + y.kl) cap2)) := by
  have hkl := hkb.box.lt
  have hg2 := ho.lt g2 rfl
  have hka := KA.twice (P := fun b => (P b ∧ b ≠ g) ∧ b < W.heap.size) (fun j hj => (hk j hj).mono fun b h hl => ⟨h, hl⟩) (fun b h => h.2) hb ho
  have hsz : (w2.setCell ⟨kq, 3, none⟩ (.slice (some ⟨g2, 0, none⟩) (y.kl + y.kl) cap2)).heap.size = w2.heap.size := by simp
  have hkr := hka.kr.keep (W' := w2.setCell ⟨kq, 3, none⟩ (.slice (some ⟨g2, 0, none⟩) (y.kl + y.kl) cap2)) (Q := fun b => P b ∧ b ≠ g) (fun b h _ => Below.heap_setCell w2 ⟨kq, 3, none⟩ _ b (show b ≠ kq by
    rcases h with h | h
    · exact fun e => hkP (by rw [← e]; exact h.1.1)
    · omega)) (Nat.le_of_eq hsz.symm) (fun _ h _ => h.1)
  have hN := ((TAt_eq _ _ _ _ _).1 hkb.tat).1
  have hN2 : NRow (w2.setCell ⟨kq, 3, none⟩ (.slice (some ⟨g2, 0, none⟩) (y.kl + y.kl) cap2)) (fun b => P b ∧ b ≠ g) A1 y.nl y.nf := ⟨(hN.1.below hb).of_block (fun h0 a e hl => Below.heap_setCell w2 ⟨kq, 3, none⟩ _ a.block (show a.block ≠ kq from fun e' => hkP (by rw [← e']; exact (hN.2 h0 a e).1))) (Nat.le_of_eq hsz.symm), hN.2⟩
  refine ⟨(hsp.below hb).set (p := ⟨kq, 3, none⟩) h3 hkg hkP _, ⟨((hkb.box.of_block (hb.block _ hkl)).set 3 _).congr fun q hq => by match q, hq with | 0, _ => rfl | 1, _ => rfl | 2, _ => rfl | 3, _ => rfl, hkr.tat hN2 (fun b h => h) ⟨hP g2 hg2.1, by omega⟩⟩⟩

/-- A field with no kids, whatever their address. -/
theorem none_fin {W0 : World} {num : Nat} {bs : ByteArray} {nl : Nat} {An : Option Addr} {cn : Nat} {tq : Nat → Value} {P : Nat → Prop} {f : Nat → Tr} {a1 : Nat → Option Addr} {k1 : Nat → Nat} {a2 : Nat → Option Addr} {k2 : Nat → Nat} {m g cap : Nat} {W w2 : World} {kq : Nat} {y : Tr} {A1 : Option Addr} {K1 : Nat} {A2 : Option Addr} {K2 : Nat}
    (hsp : SP W0 num bs nl An cn tq P f a1 k1 a2 k2 m g cap W) (hkb : KB kq g P y A1 K1 A2 K2 W) (hb : Below W.heap.size W w2) (h3 : W0.heap.size + 3 ≤ kq) (hkg : kq ≠ g) (hkP : ¬ P kq) (g2 : Option Addr) (cap2 : Nat) :
    SP W0 num bs nl An cn tq P f a1 k1 a2 k2 m g cap (w2.setCell ⟨kq, 3, none⟩ (.slice g2 0 cap2)) ∧ KB kq g P (.mk y.num y.bs y.nl y.nf 0 y.kf) A1 K1 g2 cap2 (w2.setCell ⟨kq, 3, none⟩ (.slice g2 0 cap2)) := by
  have hkl := hkb.box.lt
  have hsz : (w2.setCell ⟨kq, 3, none⟩ (.slice g2 0 cap2)).heap.size = w2.heap.size := by simp
  have hN := ((TAt_eq _ _ _ _ _).1 hkb.tat).1
  have hN2 : NRow (w2.setCell ⟨kq, 3, none⟩ (.slice g2 0 cap2)) (fun b => P b ∧ b ≠ g) A1 y.nl y.nf := ⟨(hN.1.below hb).of_block (fun h0 a e hl => Below.heap_setCell w2 ⟨kq, 3, none⟩ _ a.block (show a.block ≠ kq from fun e' => hkP (by rw [← e']; exact (hN.2 h0 a e).1))) (Nat.le_of_eq hsz.symm), hN.2⟩
  exact ⟨(hsp.below hb).set (p := ⟨kq, 3, none⟩) h3 hkg hkP _, ⟨((hkb.box.of_block (hb.block _ hkl)).set 3 _).congr fun q hq => by match q, hq with | 0, _ => rfl | 1, _ => rfl | 2, _ => rfl | 3, _ => rfl, hN2, fun h => absurd h (Nat.lt_irrefl 0)⟩⟩
/-- A row that grows behind wc. -/
structure TW (wc : World) (n : Nat) (v : Value) (xs : List Value) (W : World) : Prop where
  be : Below wc.heap.size wc W
  own : W.ownsRow wc.heap.size 34 4 v n xs
theorem TW.grow {wc W w1 : World} {n n' : Nat} {v v' : Value} {xs xs' : List Value} (h : TW wc n v xs W) (hg : W.grownBy w1 v.ownBlock) (ho : w1.ownsRow wc.heap.size 34 4 v' n' xs') : TW wc n' v' xs' w1 :=
  ⟨h.be.trans ⟨hg.os, hg.tape, hg.output, hg.size, fun k hk => hg.block k (Nat.lt_of_lt_of_le hk h.be.size) (fun e => by have := (h.own.lt k e.symm).1; omega)⟩, ho⟩
theorem step_append_none {P : Program} (w : World) {ops : Array Oper} {o : Oper} {a : Act} {K : Act → World → Prop} {Q : Exit → Act → World → Prop} {E : Prop} (hgd : o.guard = none) (s x : Operand) (t : TypeId) (ho : o.op = .call { callee := .builtin .append, args := #[s, x], argTypes := #[t, t] }) (e : TypeId) (i : TypeInfo) (ht : P.underlying t = some (.slice e)) (hi : P.info? e = some i) (base : Option Addr) (n c : Nat) (hle : n ≤ c) (hs : a.eval s = .slice base n c) (A : Option Addr) (cc : Nat) (hx : a.eval x = .slice A 0 cc) (h : K (a.put o.dst (.slice base n c)) w) :
    if Region.wanted o (yielded ops a.tmps) = true then Oper.wp P o a w K Q else E := by
  have hw : Region.wanted o (yielded ops a.tmps) = true := by simp [Region.wanted, hgd]
  rw [if_pos hw]
  have src : Src P i.size t (.slice A 0 cc) 0 [] w := ⟨.inl ⟨e, ht⟩, fun w' => rfl, by cases A <;> simp [Builtin.firstCells, loadCells, loadCellsFrom], by cases A <;> simp [Builtin.firstCells, loadCells, loadCellsFrom], by simp, fun _ h => by cases h⟩
  have hr := run_append_nothing w t t o.type e i ht hi base n c hle _ src
  unfold Oper.wp execOp
  simp only [ho, resolve, invoke, builtin, Sem.run_bind, Sem.run_pure, Result.andThen_ok, List.map_toArray, List.map_cons, List.map_nil, hs, hx, hr]
  exact h

set_option maxRecDepth 100000 in
set_option maxHeartbeats 8000000 in
theorem spoilt_core (how at_ n : Int) (str : ByteArray) (dn : Bool) (hstr : str.size ≤ 9223372036854775807) (hih : dn = true → ∀ (d : Nat) (x : Tr) (An Ak : Option Addr) (cn ck : Nat) (P : Nat → Prop) (w : World), Lo d x → TAt w P x An Ak → Calls Tryd.prog 14 #[(.agg #[.int .u64 ((x).num : Nat), .string (x).bs, .slice An (x).nl cn, .slice Ak (x).kl ck]), .agg #[.int .i64 how, .int .i64 at_, .int .i64 n, .string str, .bool false]] w fun e w' => ∃ (x' : Tr) (An' : Option Addr) (cn' : Nat) (Ak' : Option Addr) (ck' : Nat), e = .returned (.agg #[.int .u64 ((x').num : Nat), .string (x').bs, .slice An' (x').nl cn', .slice Ak' (x').kl ck']) ∧ Sm (2 * d) x' ∧ (x'.bs = x.bs ∧ x'.nl = x.nl ∧ ∀ i, x'.nf i = x.nf i) ∧ TAt w' (fun b => (P b ∧ b < w.heap.size) ∨ w.heap.size ≤ b) x' An' Ak' ∧ Below w.heap.size w w') (d : Nat) (x : Tr) (An Ak : Option Addr) (cn ck : Nat) (P : Nat → Prop) (w : World) (hL : Lo d x) (hT : TAt w P x An Ak) :
    Calls Tryd.prog 14 #[(.agg #[.int .u64 ((x).num : Nat), .string (x).bs, .slice An (x).nl cn, .slice Ak (x).kl ck]), .agg #[.int .i64 how, .int .i64 at_, .int .i64 n, .string str, .bool dn]] w fun e w' => ∃ (x' : Tr) (An' : Option Addr) (cn' : Nat) (Ak' : Option Addr) (ck' : Nat), e = .returned (.agg #[.int .u64 ((x').num : Nat), .string (x').bs, .slice An' (x').nl cn', .slice Ak' (x').kl ck']) ∧ Sm (2 * d) x' ∧ (x'.bs = x.bs ∧ x'.nl = x.nl ∧ ∀ i, x'.nf i = x.nf i) ∧ TAt w' (fun b => (P b ∧ b < w.heap.size) ∨ w.heap.size ≤ b) x' An' Ak' ∧ Below w.heap.size w w' := by
  obtain ⟨i0, hi0, hz1, hz2, hz3⟩ := info_parts info_tree
  have HIH := Lib.hid hih
  clear hih
  have HL := Lib.hid hL
  have HSX := Lib.hid hL.sm
  have HT := Lib.hid (hT.mono (Q := fun b => P b ∧ b < w.heap.size) fun b hb hl => ⟨hb, hl⟩)
  have hx := hL.sm.le
  clear hL hT
  by_cases h0 : x.kl = 0
  · have hk0 : ((x.kl : Int) == 0) = true := by simp [h0]
    have HK0 := Lib.hid h0
    go_enter Tryd.func14, Tryd.ntmps14
    go_wp2
    have hB : Below w.heap.size w (((w.alloc (.cells #[.int .u64 (x.num : Nat), .string x.bs, .slice An x.nl cn, .slice Ak 0 ck] 34)).alloc (.cells #[.int .i64 how, .int .i64 at_, .int .i64 n, .string str, .bool dn] 26)).alloc (.cells #[.int .u64 (x.num : Nat), .string x.bs, .slice An x.nl cn, .slice Ak 0 ck] 34)) := by (repeat (first | with_reducible exact Below.refl _ _ | with_reducible refine Below.drew ?_ | (with_reducible refine Below.setCell ?_ ?side _; case side => exact (by first | (simp; done) | (simp; omega) | omega)) | (with_reducible refine Below.alloc ?_ ?side _; case side => exact (by first | (simp; done) | (simp; omega) | omega))))
    exact bodyPost_ret (v := .agg #[.int .u64 (x.num : Nat), .string x.bs, .slice An x.nl cn, .slice Ak 0 ck]) (by simp [results, Tryd.results14, go_sem]) rfl ⟨x, An, cn, Ak, ck, by rw [HK0.out], HSX.out, ⟨rfl, rfl, fun _ => rfl⟩, (HT.out.below hB).mono fun b hb _ => .inl hb, hB⟩
  · obtain ⟨b, off, a1, k1, a2, k2, rfl, hPb, hlt, hc⟩ := HT.out.kidsF (by omega)
    have hx4 : x.kl ≤ 4 := by obtain ⟨e, rfl⟩ := HL.out.pos; exact HL.out.2.1
    have HC := Lib.hid hc
    clear hc
    have z0 : ((x.kl : Int) == 0) = false := by simp; omega
    have z0' : ((x.kl : Int) = 0) = False := by simp; omega
    obtain ⟨K, HK⟩ : ∃ K, Hid (x.kl = K) := ⟨_, Lib.hid rfl⟩
    rw [HK.out] at h0 hx4 z0 z0' ⊢
    have hB3 : Below w.heap.size w (((w.alloc (.cells #[.int .u64 (x.num : Nat), .string x.bs, .slice An x.nl cn, .slice (some ⟨b, off, none⟩) K ck] 34)).alloc (.cells #[.int .i64 how, .int .i64 at_, .int .i64 n, .string str, .bool dn] 26)).alloc (.cells #[.int .u64 0, .string ⟨#[]⟩, .slice none 0 0, .slice none 0 0] 34)) := by (repeat (first | with_reducible exact Below.refl _ _ | with_reducible refine Below.drew ?_ | (with_reducible refine Below.setCell ?_ ?side _; case side => exact (by first | (simp; done) | (simp; omega) | omega)) | (with_reducible refine Below.alloc ?_ ?side _; case side => exact (by first | (simp; done) | (simp; omega) | omega))))
    have hB4 : Below w.heap.size w ((((w.alloc (.cells #[.int .u64 (x.num : Nat), .string x.bs, .slice An x.nl cn, .slice (some ⟨b, off, none⟩) K ck] 34)).alloc (.cells #[.int .i64 how, .int .i64 at_, .int .i64 n, .string str, .bool dn] 26)).alloc (.cells #[.int .u64 0, .string ⟨#[]⟩, .slice none 0 0, .slice none 0 0] 34)).alloc (.cells #[] 34)) := by (repeat (first | with_reducible exact Below.refl _ _ | with_reducible refine Below.drew ?_ | (with_reducible refine Below.setCell ?_ ?side _; case side => exact (by first | (simp; done) | (simp; omega) | omega)) | (with_reducible refine Below.alloc ?_ ?side _; case side => exact (by first | (simp; done) | (simp; omega) | omega))))
    have HN4 : Hid (∀ i u, (cells4 x.kf a1 k1 a2 k2 K)[i]? = some u → ((((w.alloc (.cells #[.int .u64 (x.num : Nat), .string x.bs, .slice An x.nl cn, .slice (some ⟨b, off, none⟩) K ck] 34)).alloc (.cells #[.int .i64 how, .int .i64 at_, .int .i64 n, .string str, .bool dn] 26)).alloc (.cells #[.int .u64 0, .string ⟨#[]⟩, .slice none 0 0, .slice none 0 0] 34)).alloc (.cells #[] 34)).cell? ((⟨b, off, none⟩ : Addr).add i) = some u) := Lib.hid (cells4_cell fun j hj => (HC.out j (by rw [HK.out]; exact hj)).1.of_block (hB4.block b hlt))
    have HO4 : Hid (((((w.alloc (.cells #[.int .u64 (x.num : Nat), .string x.bs, .slice An x.nl cn, .slice (some ⟨b, off, none⟩) K ck] 34)).alloc (.cells #[.int .i64 how, .int .i64 at_, .int .i64 n, .string str, .bool dn] 26)).alloc (.cells #[.int .u64 0, .string ⟨#[]⟩, .slice none 0 0, .slice none 0 0] 34)).alloc (.cells #[] 34)).ownsRow (w.heap.size + 3) 34 4 (.slice (some ⟨w.heap.size + 1 + 1 + 1, 0, none⟩) 0 0) 0 []) := Lib.hid (own_lit _ _ _ (by simp) (by simp))
    have HK3 : Hid (∀ j, j < K → TAt (((w.alloc (.cells #[.int .u64 (x.num : Nat), .string x.bs, .slice An x.nl cn, .slice (some ⟨b, off, none⟩) K ck] 34)).alloc (.cells #[.int .i64 how, .int .i64 at_, .int .i64 n, .string str, .bool dn] 26)).alloc (.cells #[.int .u64 0, .string ⟨#[]⟩, .slice none 0 0, .slice none 0 0] 34)) (fun b => P b ∧ b < w.heap.size) (x.kf j) (a1 j) (a2 j)) := Lib.hid fun j hj => (HC.out j (by rw [HK.out]; exact hj)).2.below hB3
    clear hB3 hB4
    go_enter Tryd.func14, Tryd.ntmps14
    go_wp2_with (at_builtin; (refine wpList_append_own_at _ rfl _ _ 32 rfl (w.heap.size + 3) 34 i0 (.agg #[.int .u64 0, .string ⟨#[]⟩, .slice none 0 0, .slice none 0 0]) 4 72 Tryd.underlying32 hi0 hz1 hz2 hz3 rfl (by decide) _ _ _ rfl HO4.out ⟨b, off, none⟩ K ck (cells4 x.kf a1 k1 a2 k2 K) rfl (by rw [cells4_length]) HN4.out (cells4_one _) (by unfold maxLen; omega) (by omega) (by simp) ?_); intro v' w1 hown' hgrow _ hblk; (have hka := KA.copy (q := w.heap.size + 1 + 1 + 1) HK3.out (fun b hb => Nat.lt_of_lt_of_le hb.2 (by omega)) hown' hgrow (by omega)); obtain ⟨g, cap, rfl, hgl⟩ := own_slice hka.own (by omega); obtain ⟨hsp, x3, xf⟩ := SP.start (q := w.heap.size + 1 + 1 + 1) (by omega) (fun b hb => hb.2) hgrow hka; have HSP := Lib.hid hsp; clear hown' hgrow hblk hka hsp)
    generalize (w1.setCell ⟨w.heap.size, 3, none⟩ (.slice (some ⟨g, 0, none⟩) K cap)) = W4 at HSP ⊢
    clear x3 xf HO4 HN4 HK3
    have q1 : W4.cell? ⟨w.heap.size + 1, 1, none⟩ = some (.int .i64 at_) := HSP.out.qb.cell (i := 1) (by omega)
    have v3 : W4.cell? ⟨w.heap.size, 3, none⟩ = some (.slice (some ⟨g, 0, none⟩) K cap) := HSP.out.vb.cell (i := 3) (by omega)
    obtain ⟨i, hi, hie⟩ := rest at_ K (by omega) (by omega)
    go_quiet (fail)
    clear hie q1 v3 z0 z0'
    have HSP4 := Lib.hid (HSP.out.below (below_drewN (Below.refl _ _) nq))
    generalize W4.drewN nq = W5 at HSP4 ⊢
    clear HSP
    have HKR := Lib.hid HSP4.out.ka.kr
    obtain ⟨c0, c1, c2, c3⟩ := HKR.out.cell4 hi
    have hxi : i < x.kl := by rw [HK.out]; exact hi
    obtain ⟨d, rfl⟩ := HL.out.pos
    have HLF := Lib.hid (HL.out.2.2 i hxi)
    have HSY := Lib.hid (Sm.kid (n := 2 * d + 1) HSX.out hxi)
    have HTY := Lib.hid (HKR.out.kids i hi)
    obtain ⟨y, HY⟩ : ∃ y, Hid (x.kf i = y) := ⟨_, Lib.hid rfl⟩
    obtain ⟨A1, HA1⟩ : ∃ A1, Hid (a1 i = A1) := ⟨_, Lib.hid rfl⟩
    obtain ⟨K1, HK1⟩ : ∃ K1, Hid (k1 i = K1) := ⟨_, Lib.hid rfl⟩
    obtain ⟨A2, HA2⟩ : ∃ A2, Hid (a2 i = A2) := ⟨_, Lib.hid rfl⟩
    obtain ⟨K2, HK2⟩ : ∃ K2, Hid (k2 i = K2) := ⟨_, Lib.hid rfl⟩
    simp only [HY.out, HA1.out, HK1.out, HA2.out, HK2.out] at c0 c1 c2 c3
    rw [HY.out, HA1.out, HA2.out] at HTY
    rw [HY.out] at HLF HSY
    have v3 : W5.cell? ⟨w.heap.size, 3, none⟩ = some (.slice (some ⟨g, 0, none⟩) K cap) := HSP4.out.vb.cell (i := 3) (by omega)
    have q4 : W5.cell? ⟨w.heap.size + 1, 4, none⟩ = some (.bool dn) := HSP4.out.qb.cell (i := 4) (by omega)
    have q3 : W5.cell? ⟨w.heap.size + 1, 3, none⟩ = some (.string str) := HSP4.out.qb.cell (i := 3) (by omega)
    have l1 := HSP4.out.qb.lt
    have l2 := HSP4.out.rb.lt
    have l3 := HKR.out.lt
    have hi00 : (0 : Int) ≤ (i : Int) := by omega
    by_cases hgo : dn = true ∧ 0 < y.kl
    · obtain ⟨rfl, hyp⟩ := hgo
      obtain ⟨b2, o2, f1, j1, f2, j2, hA2e, hPb2, hlt2, hc2⟩ := HTY.out.kidsF hyp
      subst hA2e
      have hy2 := HLF.out.2.1
      have q4f := HSP4.out.qb.frozen
      have dk : decide ((0 : Int) < (y.kl : Int)) = true := decide_eq_true (by omega)
      have HC2 := Lib.hid hc2
      clear hc2
      have hB1 : w.heap.size + 3 ≤ W5.heap.size := by omega
      have HS6 := Lib.hid ((HSP4.out.down (by omega)).below ((Below.refl _ _).alloc (Nat.le_refl _) (.cells #[.int .u64 ((y).num : Nat), .string (y).bs, .slice A1 (y).nl K1, .slice (some ⟨b2, o2, none⟩) (y).kl K2] 34)))
      have hsz5 : (W5.setCell ⟨w.heap.size + 1, 4, none⟩ (.bool false)).heap.size = W5.heap.size := by simp
      have hbx6 := tree_row (W5.setCell ⟨w.heap.size + 1, 4, none⟩ (.bool false)) y A1 K1 (some ⟨b2, o2, none⟩) K2
      rw [hsz5] at hbx6
      have hty6 := (HTY.out.keep (W' := W5.setCell ⟨w.heap.size + 1, 4, none⟩ (.bool false)) (Q := fun b => (P b ∧ b < w.heap.size) ∧ b ≠ g) (fun b hb _ => Below.heap_setCell W5 ⟨w.heap.size + 1, 4, none⟩ _ b (by show b ≠ w.heap.size + 1; omega)) (fun _ h _ => h) (Nat.le_of_eq hsz5.symm)).below ((Below.refl _ _).alloc (Nat.le_refl _) (.cells #[.int .u64 ((y).num : Nat), .string (y).bs, .slice A1 (y).nl K1, .slice (some ⟨b2, o2, none⟩) (y).kl K2] 34))
      have HBX6 := Lib.hid hbx6
      have HTY6 := Lib.hid hty6
      clear hbx6 hty6 hsz5 HC2
      go_upto_region 8 with (fail)
      clear c0 c1 c2 c3 v3 q4 q3 q4f dk
      generalize ((W5.setCell ⟨w.heap.size + 1, 4, none⟩ (.bool false)).alloc (.cells #[.int .u64 ((y).num : Nat), .string (y).bs, .slice A1 (y).nl K1, .slice (some ⟨b2, o2, none⟩) (y).kl K2] 34)) = W6 at HS6 HBX6 HTY6 ⊢
      have hkq := HBX6.out.lt
      have hgk : g < W5.heap.size := l3
      generalize W5.heap.size = kq at HBX6 hkq hgk hB1 ⊢
      obtain ⟨b3, o3, f1', j1', f2', j2', hA3e, hPb3, hlt3, hc3⟩ := HTY6.out.kidsF hyp
      injection hA3e with hA3e
      injection hA3e with e1 e2
      subst e1 e2
      have HC3 := Lib.hid hc3
      have k3 : W6.cell? ⟨kq, 3, none⟩ = some (.slice (some ⟨b2, o2, none⟩) y.kl K2) := HBX6.out.cell (i := 3) (by omega)
      have hB7 : Below W6.heap.size W6 (W6.alloc (.cells #[] 34)) := ((Below.refl _ _).alloc (Nat.le_refl _) _)
      have HN7 : Hid (∀ i u, (cells4 y.kf f1' j1' f2' j2' y.kl)[i]? = some u → (W6.alloc (.cells #[] 34)).cell? ((⟨b2, o2, none⟩ : Addr).add i) = some u) := Lib.hid (cells4_cell fun j hj => (HC3.out j hj).1.of_block (hB7.block b2 hlt3))
      have HO7 : Hid ((W6.alloc (.cells #[] 34)).ownsRow W6.heap.size 34 4 (.slice (some ⟨W6.heap.size, 0, none⟩) 0 0) 0 []) := Lib.hid (own_lit _ _ _ (Nat.le_refl _) rfl)
      have kfz := HBX6.out.frozen
      clear hc3 hB7
      go_wp2_with (at_builtin; (refine wpList_append_own_at _ rfl _ _ 32 rfl W6.heap.size 34 i0 (.agg #[.int .u64 0, .string ⟨#[]⟩, .slice none 0 0, .slice none 0 0]) 4 72 Tryd.underlying32 hi0 hz1 hz2 hz3 rfl (by decide) _ _ _ rfl HO7.out ⟨b2, o2, none⟩ y.kl K2 (cells4 y.kf f1' j1' f2' j2' y.kl) rfl (by rw [cells4_length]) HN7.out (cells4_one _) (by unfold maxLen; omega) (by omega) (by simp) ?_); intro v' w2 hown' hgrow _ hblk; (have hka := KA.copy (q := W6.heap.size) (fun j hj => (HC3.out j hj).2) (fun b hb => Nat.lt_of_lt_of_le hb.1.2 (by omega)) hown' hgrow (Nat.le_refl _)); obtain ⟨g2, cap2, rfl, hgl2⟩ := own_slice hka.own (by omega); have hB8 : Below W6.heap.size W6 w2 := ⟨hgrow.os, hgrow.tape, hgrow.output, (by have := hgrow.size; simp at this; omega), fun k hk => (hgrow.block k (by simp; omega) (fun e => by have e' : k = W6.heap.size := Option.some.inj e; omega)).trans (((Below.refl W6.heap.size W6).alloc (Nat.le_refl _) _).block k hk)⟩; have HB8 := Lib.hid hB8; have HKA8 := Lib.hid hka; have x3 := (hB8.cell (p := ⟨kq, 3, none⟩) hkq).trans k3; have xf := (hB8.frozen (p := ⟨kq, 3, none⟩) hkq).trans (kfz 3); clear hown' hgrow hblk hka hB8)
      have HS8 := Lib.hid ((HS6.out.below HB8.out).set (p := ⟨kq, 3, none⟩) hB1 (show kq ≠ g by omega) (show ¬ (P kq ∧ kq < w.heap.size) by omega) (.slice (some ⟨g2, 0, none⟩) y.kl cap2))
      have HBX8 : Hid ((w2.setCell ⟨kq, 3, none⟩ (.slice (some ⟨g2, 0, none⟩) y.kl cap2)).rowIs kq 34 4 (boxT y A1 K1 (some ⟨g2, 0, none⟩) cap2)) := Lib.hid (((HBX6.out.of_block (HB8.out.block _ hkq)).set 3 _).congr fun q hq => by match q, hq with | 0, _ => rfl | 1, _ => rfl | 2, _ => rfl | 3, _ => rfl)
      have hsz8 : (w2.setCell ⟨kq, 3, none⟩ (.slice (some ⟨g2, 0, none⟩) y.kl cap2)).heap.size = w2.heap.size := by simp
      have HKR8 := Lib.hid (HKA8.out.kr.keep (W' := w2.setCell ⟨kq, 3, none⟩ (.slice (some ⟨g2, 0, none⟩) y.kl cap2)) (Q := fun b => (P b ∧ b < w.heap.size) ∧ b ≠ g) (fun b hb _ => Below.heap_setCell w2 ⟨kq, 3, none⟩ _ b (show b ≠ kq by rcases hb with h | h <;> omega)) (Nat.le_of_eq hsz8.symm) (fun _ h _ => h))
      have hNR6 := ((TAt_eq _ _ _ _ _).1 HTY6.out).1
      have HNR8 : Hid (NRow (w2.setCell ⟨kq, 3, none⟩ (.slice (some ⟨g2, 0, none⟩) y.kl cap2)) (fun b => (P b ∧ b < w.heap.size) ∧ b ≠ g) A1 y.nl y.nf) := Lib.hid ⟨(hNR6.1.below HB8.out).of_block (fun h0 a e hl => Below.heap_setCell w2 ⟨kq, 3, none⟩ _ a.block (show a.block ≠ kq by have := (hNR6.2 h0 a e).1.2; omega)) (Nat.le_of_eq hsz8.symm), hNR6.2⟩
      clear x3 xf HB8 HKA8 hNR6 hsz8 HO7 HN7 HC3 HS6 HBX6 HTY6 kfz k3
      generalize (w2.setCell ⟨kq, 3, none⟩ (.slice (some ⟨g2, 0, none⟩) y.kl cap2)) = W8 at HS8 HBX8 HKR8 HNR8 ⊢
      have hg2l := HKR8.out.lt
      have hg0 := (HS8.out.ka.own.lt g rfl).1
      go_cut [] from 45 (fun wd => ∃ (y9 : Tr) (B1 : Option Addr) (J1 : Nat) (B2 : Option Addr) (J2 : Nat), Hid (SP w x.num x.bs x.nl An cn (turnF how at_ n str false) (fun b => (P b ∧ b < w.heap.size) ∨ kq < b) x.kf a1 k1 a2 k2 K g cap wd) ∧ Hid (KB kq g (fun b => (P b ∧ b < w.heap.size) ∨ kq < b) y9 B1 J1 B2 J2 wd) ∧ Hid (Sm (2 * d + 1) y9))
      case first =>
        have k3 : W8.cell? ⟨kq, 3, none⟩ = some (.slice (some ⟨g2, 0, none⟩) y.kl cap2) := HBX8.out.cell (i := 3) (by omega)
        have hz4 := HKR8.out.cell4 hyp
        have gf := HKR8.out.frozen
        have s0 : W8.cell? ⟨w.heap.size + 1, 0, none⟩ = some (.int .i64 how) := HS8.out.qb.cell (i := 0) (by omega)
        have s1 : W8.cell? ⟨w.heap.size + 1, 1, none⟩ = some (.int .i64 at_) := HS8.out.qb.cell (i := 1) (by omega)
        have s2 : W8.cell? ⟨w.heap.size + 1, 2, none⟩ = some (.int .i64 n) := HS8.out.qb.cell (i := 2) (by omega)
        have s3 : W8.cell? ⟨w.heap.size + 1, 3, none⟩ = some (.string str) := HS8.out.qb.cell (i := 3) (by omega)
        have s4 : W8.cell? ⟨w.heap.size + 1, 4, none⟩ = some (.bool false) := HS8.out.qb.cell (i := 4) (by omega)
        have HTZ := Lib.hid ((HKR8.out.kids 0 hyp).below (Below.refl W8.heap.size W8).drew)
        have HLZ := Lib.hid (HLF.out.2.2 0 hyp)
        obtain ⟨z, HZ⟩ : ∃ z, Hid (y.kf 0 = z) := ⟨_, Lib.hid rfl⟩
        obtain ⟨C1, HC1⟩ : ∃ C1, Hid (f1' 0 = C1) := ⟨_, Lib.hid rfl⟩
        obtain ⟨D1, HD1⟩ : ∃ D1, Hid (j1' 0 = D1) := ⟨_, Lib.hid rfl⟩
        obtain ⟨C2, HC2⟩ : ∃ C2, Hid (f2' 0 = C2) := ⟨_, Lib.hid rfl⟩
        obtain ⟨D2, HD2⟩ : ∃ D2, Hid (j2' 0 = D2) := ⟨_, Lib.hid rfl⟩
        obtain ⟨z0, z1, z2, z3⟩ := hz4
        simp only [HZ.out, HC1.out, HD1.out, HC2.out, HD2.out, Nat.zero_mul, Nat.zero_add] at z0 z1 z2 z3
        rw [HZ.out, HC1.out, HC2.out] at HTZ
        rw [HZ.out] at HLZ
        have hy0 : (0 : Int) < (y.kl : Int) := by omega
        have hkq8 := HBX8.out.lt
        go_region_with (
          (go_at_call 14; go_must (refine Calls.mono (HIH.out trivial d z C1 C2 D1 D2 (fun b => ((P b ∧ b < w.heap.size) ∧ b ≠ g) ∧ b ≠ g2) _ HLZ.out ?_) ?_); (exact HTZ.out); rintro e w3 ⟨x2, An2, cn2, Ak2, ck2, rfl, hS2, -, hT2, hb⟩; go_must (have hb8 : Below W8.heap.size W8 w3 := (Below.refl W8.heap.size W8).drew.trans hb); have HB3 := Lib.hid hb8; have HS2 := Lib.hid hS2; have HT2 := Lib.hid hT2; have y3 := (hb8.cell (p := ⟨kq, 3, none⟩) hkq8).trans k3; have x0 := (hb8.cell (p := ⟨g2, 0, none⟩) hg2l).trans z0; have x1 := (hb8.cell (p := ⟨g2, 1, none⟩) hg2l).trans z1; have x2' := (hb8.cell (p := ⟨g2, 2, none⟩) hg2l).trans z2; have x3 := (hb8.cell (p := ⟨g2, 3, none⟩) hg2l).trans z3; have xf := fun o => (hb8.frozen (p := ⟨g2, o, none⟩) hg2l).trans (gf o); clear hb hb8 hS2 hT2))
        all_goals
          go_wp2_with fail
          go_meet
          case rel =>
            obtain ⟨t1, t2⟩ := down_fin (W := w3) (cn2 := cn2) (ck2 := ck2) (HS8.out.below HB3.out) (HBX8.out.of_block (HB3.out.block _ HBX8.out.lt)) (HKR8.out.keep (W' := w3) (Q := fun b => (P b ∧ b < w.heap.size) ∧ b ≠ g) (fun b _ hl => HB3.out.block b hl) HB3.out.size (fun _ h _ => h)) ⟨HNR8.out.1.below HB3.out, HNR8.out.2⟩ (S := W8.heap.size) (HT2.out.mono fun b hb _ => hb.elim (fun h => .inl h.1.1.1) (fun h => .inr (by simpa using h))) hB1 hgk (by omega) hg2l (by omega) hyp
            obtain ⟨y1, y2, y3', y4, y5, y6⟩ := HSY.out
            exact ⟨.mk y.num y.bs y.nl y.nf y.kl (adPut y.kf 0 x2), A1, K1, some ⟨g2, 0, none⟩, cap2, Lib.hid t1, Lib.hid t2, Lib.hid ⟨y1, y2, y3', y4, y5, fun j hj => by
              show Sm (2 * d) (adPut y.kf 0 x2 j)
              by_cases e : j = 0
              · subst e; rw [adPut_at]; exact HS2.out
              · rw [show adPut y.kf 0 x2 j = y.kf j by simp [adPut, e]]; exact y6 j hj⟩⟩
      case rest =>
            obtain ⟨num, f, e1, e2, e3, e4, m, g9, cap9, y9, B1, J1, B2, J2, him, hm5, hkg, hnum, HSP9, HKB9, HSK9, HSY9⟩ : ∃ (num : Nat) (f : Nat → Tr) (a1 : Nat → Option Addr) (k1 : Nat → Nat) (a2 : Nat → Option Addr) (k2 : Nat → Nat) (m g cap : Nat) (y : Tr) (A1 : Option Addr) (K1 : Nat) (A2 : Option Addr) (K2 : Nat), i < m ∧ m ≤ 5 ∧ kq ≠ g ∧ num < 18446744073709551616 ∧ Hid (SP w num x.bs x.nl An cn (turnF how at_ n str false) (fun b => (P b ∧ b < w.heap.size) ∨ kq < b) f a1 k1 a2 k2 m g cap wc) ∧ Hid (KB kq g (fun b => (P b ∧ b < w.heap.size) ∨ kq < b) y A1 K1 A2 K2 wc) ∧ Hid (∀ j, j < m → Sm (2 * d + 1) (f j)) ∧ Hid (Sm (2 * d + 1) y) := by
              obtain ⟨y9, B1, J1, B2, J2, h1, h2, h3⟩ := hcut
              exact ⟨x.num, x.kf, a1, k1, a2, k2, K, g, cap, y9, B1, J1, B2, J2, hi, by omega, by omega, hx.1, h1, h2, Lib.hid (fun j hj => Sm.kid (n := 2 * d + 1) HSX.out (by rw [HK.out]; exact hj)), h3⟩
            clear HS8 HBX8 HKR8 HNR8
            have v3 : wc.cell? ⟨w.heap.size, 3, none⟩ = some (.slice (some ⟨g9, 0, none⟩) m cap9) := HSP9.out.vb.cell (i := 3) (by omega)
            have k0 : wc.cell? ⟨kq, 0, none⟩ = some (.int .u64 (y9.num : Nat)) := HKB9.out.box.cell (i := 0) (by omega)
            have k1' : wc.cell? ⟨kq, 1, none⟩ = some (.string y9.bs) := HKB9.out.box.cell (i := 1) (by omega)
            have k2' : wc.cell? ⟨kq, 2, none⟩ = some (.slice B1 y9.nl J1) := HKB9.out.box.cell (i := 2) (by omega)
            have k3' : wc.cell? ⟨kq, 3, none⟩ = some (.slice B2 y9.kl J2) := HKB9.out.box.cell (i := 3) (by omega)
            obtain ⟨g0, g1, g2, g3⟩ := HSP9.out.ka.kr.cell4 him
            have gf := HSP9.out.ka.kr.frozen
            obtain ⟨t1, t2, t3, t4, t5⟩ := HSP9.out.fin1 HKB9.out him
            have T1 := Lib.hid t1
            have T3 := Lib.hid t3
            have T4 := Lib.hid t4
            have T2 := Lib.hid t2
            clear t1 t2 t3 t4
            go_upto_region 11 with (fail)
            clear v3 k0 k1' k2' k3' g0 g1 g2 g3 gf
            generalize ((((wc.setCell ⟨g9, i * 4, none⟩ (.int .u64 (y9.num : Nat))).setCell ⟨g9, i * 4 + 1, none⟩ (.string y9.bs)).setCell ⟨g9, i * 4 + 2, none⟩ (.slice B1 y9.nl J1)).setCell ⟨g9, i * 4 + 3, none⟩ (.slice B2 y9.kl J2)) = W7 at T1 T2 T3 T4 ⊢
            have v0 : W7.cell? ⟨w.heap.size, 0, none⟩ = some (.int .u64 (num : Nat)) := T2.out.cell (i := 0) (by omega)
            have v1 : W7.cell? ⟨w.heap.size, 1, none⟩ = some (.string x.bs) := T2.out.cell (i := 1) (by omega)
            have v2 : W7.cell? ⟨w.heap.size, 2, none⟩ = some (.slice An x.nl cn) := T2.out.cell (i := 2) (by omega)
            have v3 : W7.cell? ⟨w.heap.size, 3, none⟩ = some (.slice (some ⟨g9, 0, none⟩) m cap9) := T2.out.cell (i := 3) (by omega)
            have r0 : W7.cell? ⟨w.heap.size + 1 + 1, 0, none⟩ = some (.int .u64 0) := T3.out.cell (i := 0) (by omega)
            have r1 : W7.cell? ⟨w.heap.size + 1 + 1, 1, none⟩ = some (.string ⟨#[]⟩) := T3.out.cell (i := 1) (by omega)
            have r2 : W7.cell? ⟨w.heap.size + 1 + 1, 2, none⟩ = some (.slice none 0 0) := T3.out.cell (i := 2) (by omega)
            have r3 : W7.cell? ⟨w.heap.size + 1 + 1, 3, none⟩ = some (.slice none 0 0) := T3.out.cell (i := 3) (by omega)
            have rf := T3.out.frozen
            have HNR := Lib.hid ((TAt_eq _ _ _ _ _).1 HT.out).1
            go_wp2
            have hfin := fin2 (nf := x.nf) (num := num) (bs := x.bs) (nl := x.nl) (An := An) (cn := cn) (cap := cap9) (Q := fun b => (P b ∧ b < w.heap.size) ∨ w.heap.size ≤ b) T1.out T3.out T4.out t5 (by omega) ⟨HNR.out.1, fun h a e => .inl (HNR.out.2 h a e)⟩ (fun b hb => hb.elim .inl fun h => .inr (by omega)) (.inr (by omega))
            clear v0 v1 v2 v3 r0 r1 r2 r3 rf
            generalize (((W7.setCell ⟨w.heap.size + 1 + 1, 0, none⟩ (.int .u64 (num : Nat))).setCell ⟨w.heap.size + 1 + 1, 1, none⟩ (.string x.bs)).setCell ⟨w.heap.size + 1 + 1, 2, none⟩ (.slice An x.nl cn)).setCell ⟨w.heap.size + 1 + 1, 3, none⟩ (.slice (some ⟨g9, 0, none⟩) m cap9) = W9 at hfin ⊢
            obtain ⟨hT9, r, hB9⟩ := hfin
            have g0 : W9.cell? ⟨w.heap.size + 1 + 1, 0, none⟩ = some (.int .u64 (num : Nat)) := r.cell (i := 0) (by omega)
            have g1 : W9.cell? ⟨w.heap.size + 1 + 1, 1, none⟩ = some (.string x.bs) := r.cell (i := 1) (by omega)
            have g2 : W9.cell? ⟨w.heap.size + 1 + 1, 2, none⟩ = some (.slice An x.nl cn) := r.cell (i := 2) (by omega)
            have g3 : W9.cell? ⟨w.heap.size + 1 + 1, 3, none⟩ = some (.slice (some ⟨g9, 0, none⟩) m cap9) := r.cell (i := 3) (by omega)
            refine bodyPost_ret (v := .agg #[.int .u64 (num : Nat), .string x.bs, .slice An x.nl cn, .slice (some ⟨g9, 0, none⟩) m cap9]) (by simp [results, Tryd.results14, go_sem, g0, g1, g2, g3]) rfl ⟨.mk num x.bs x.nl x.nf m (adPut f i y9), An, cn, some ⟨g9, 0, none⟩, cap9, rfl, ⟨hnum, hx.2.1, hx.2.2.1, hm5, HSX.out.2.2.2.2.1, fun j hj => ?_⟩, ⟨rfl, rfl, fun _ => rfl⟩, hT9, hB9⟩
            show Sm (2 * d + 1) (adPut f i y9 j)
            by_cases e : j = i
            · subst e; rw [adPut_at]; exact HSY9.out
            · rw [show adPut f i y9 j = f j by simp [adPut, e]]; exact HSK9.out j hj
    · have HBX := Lib.hid (tree_row W5 y A1 K1 A2 K2)
      have HSP5 := Lib.hid (HSP4.out.below ((Below.refl _ _).alloc (Nat.le_refl _) (.cells #[.int .u64 ((y).num : Nat), .string (y).bs, .slice A1 (y).nl K1, .slice A2 (y).kl K2] 34)))
      have HTY5 := Lib.hid (HTY.out.below ((Below.refl _ _).alloc (Nat.le_refl _) (.cells #[.int .u64 ((y).num : Nat), .string (y).bs, .slice A1 (y).nl K1, .slice A2 (y).kl K2] 34)))
      go_upto_region 6 with (fail)
      go_cut [44] from 32 (fun cv wc => cv = .bool false ∧ wc = W5.alloc (.cells #[.int .u64 ((y).num : Nat), .string (y).bs, .slice A1 (y).nl K1, .slice A2 (y).kl K2] 34))
      case first =>
        cases dn with
        | false =>
          go_wp2
          go_meet
          case rel => exact ⟨rfl, rfl⟩
        | true =>
          have hy0 : y.kl = 0 := by simp at hgo; exact hgo
          go_wp2
          go_meet
          case rel => exact ⟨rfl, by rw [hy0]⟩
      case rest =>
        obtain ⟨rfl, hwc⟩ := hcut
        clear c0 c1 c2 c3 v3 q4 q3
        rw [← hwc] at HBX HSP5 HTY5
        clear hwc
        have hkq : W5.heap.size < wc.heap.size := HBX.out.lt
        have hgk : g < W5.heap.size := l3
        generalize W5.heap.size = kq at HBX hkq hgk ⊢
        have q3 : wc.cell? ⟨w.heap.size + 1, 3, none⟩ = some (.string str) := HSP5.out.qb.cell (i := 3) (by omega)
        go_upto_if 70 with (fail)
        go_cut [7] from 66 (fun sv wd => ∃ s' : ByteArray, sv = .string s' ∧ Hid (s'.size ≤ 50) ∧ wd = wc)
        case first =>
          by_cases h50 : 50 < str.size
          · have d50 : decide ((50 : Int) < (str.size : Int)) = true := decide_eq_true (by omega)
            go_wp2
            go_meet
            case rel => exact ⟨_, rfl, Lib.hid (by simp; omega), rfl⟩
          · have d50 : decide ((50 : Int) < (str.size : Int)) = false := decide_eq_false (by omega)
            go_wp2
            go_meet
            case rel => exact ⟨_, rfl, Lib.hid (by omega), rfl⟩
        case rest =>
          clear q3
          obtain ⟨s', rfl, HS', rfl⟩ := hcut
          have q0 : wc.cell? ⟨w.heap.size + 1, 0, none⟩ = some (.int .i64 how) := HSP5.out.qb.cell (i := 0) (by omega)
          obtain ⟨M, hM, hMe⟩ : ∃ m : Nat, m ≤ 7 ∧ bits .and .i64 how 7 = (m : Int) := and_mask how 7 (by omega)
          have hkB : w.heap.size + 3 ≤ kq := by omega
          have HSPm := Lib.hid (HSP5.out.mono (Q := fun b => (P b ∧ b < w.heap.size) ∨ kq < b) fun b hb => .inl hb)
          have HKB : Hid (KB kq g (fun b => (P b ∧ b < w.heap.size) ∨ kq < b) y A1 K1 A2 K2 wc) := Lib.hid ⟨HBX.out, HTY5.out.mono fun b hb _ => ⟨.inl hb.1, hb.2⟩⟩
          have hnP : ¬ ((P kq ∧ kq < w.heap.size) ∨ kq < kq) := by omega
          have HSK := Lib.hid (show ∀ j, j < K → Sm (2 * d + 1) (x.kf j) from fun j hj => Sm.kid (n := 2 * d + 1) HSX.out (by rw [HK.out]; exact hj))
          have hxn := hx.1
          clear HSP5 HBX HTY5 HKR HSP4 HTY l1 l2 l3
          go_upto_block 0 with (fail)
          go_cut [] from 66 (fun wd => ∃ (num : Nat) (f : Nat → Tr) (a1 : Nat → Option Addr) (k1 : Nat → Nat) (a2 : Nat → Option Addr) (k2 : Nat → Nat) (m g cap : Nat) (y : Tr) (A1 : Option Addr) (K1 : Nat) (A2 : Option Addr) (K2 : Nat), i < m ∧ m ≤ 5 ∧ kq ≠ g ∧ num < 18446744073709551616 ∧ Hid (SP w num x.bs x.nl An cn (turnF how at_ n str dn) (fun b => (P b ∧ b < w.heap.size) ∨ kq < b) f a1 k1 a2 k2 m g cap wd) ∧ Hid (KB kq g (fun b => (P b ∧ b < w.heap.size) ∨ kq < b) y A1 K1 A2 K2 wd) ∧ Hid (∀ j, j < m → Sm (2 * d + 1) (f j)) ∧ Hid (Sm (2 * d + 1) y))
          case first =>
            have q2 : wc.cell? ⟨w.heap.size + 1, 2, none⟩ = some (.int .i64 n) := HSPm.out.qb.cell (i := 2) (by omega)
            have k0 : wc.cell? ⟨kq, 0, none⟩ = some (.int .u64 (y.num : Nat)) := HKB.out.box.cell (i := 0) (by omega)
            have k1' : wc.cell? ⟨kq, 1, none⟩ = some (.string y.bs) := HKB.out.box.cell (i := 1) (by omega)
            have k2' : wc.cell? ⟨kq, 2, none⟩ = some (.slice A1 y.nl K1) := HKB.out.box.cell (i := 2) (by omega)
            have k3' : wc.cell? ⟨kq, 3, none⟩ = some (.slice A2 y.kl K2) := HKB.out.box.cell (i := 3) (by omega)
            have kfz := HKB.out.box.frozen
            obtain ⟨N, hN, hNe⟩ : ∃ N : Nat, N < 18446744073709551616 ∧ IntKind.u64.wrap n = (N : Int) := ⟨(IntKind.u64.wrap n).toNat, by rw [IntKind.wrap_u64]; omega, by rw [IntKind.wrap_u64]; omega⟩
            obtain ⟨y1, y2, y3, y4, y5, y6⟩ := HSY.out
            have HY5 := Lib.hid y5
            have HY6 := Lib.hid y6
            clear y5 y6
            have hne2 : kq ≠ g := by omega
            obtain rfl | rfl | rfl | rfl | rfl | rfl | rfl | rfl : M = 0 ∨ M = 1 ∨ M = 2 ∨ M = 3 ∨ M = 4 ∨ M = 5 ∨ M = 6 ∨ M = 7 := by omega
            · go_wp2
              go_meet
              case rel => exact ⟨x.num, x.kf, a1, k1, a2, k2, K, g, cap, .mk N y.bs y.nl y.nf y.kl y.kf, A1, K1, A2, K2, hi, by omega, hne2, hxn, Lib.hid (HSPm.out.set (p := ⟨kq, 0, none⟩) hkB hne2 hnP _), Lib.hid (HKB.out.put 0 _ (fun q hq => by match q, hq with | 0, _ => rfl | 1, _ => rfl | 2, _ => rfl | 3, _ => rfl) (HKB.out.tat.congr _ _) hnP), HSK, Lib.hid ⟨hN, y2, y3, y4, HY5.out, HY6.out⟩⟩
            · go_wp2
              go_meet
              case rel => exact ⟨x.num, x.kf, a1, k1, a2, k2, K, g, cap, .mk y.num s' y.nl y.nf y.kl y.kf, A1, K1, A2, K2, hi, by omega, hne2, hxn, Lib.hid (HSPm.out.set (p := ⟨kq, 1, none⟩) hkB hne2 hnP _), Lib.hid (HKB.out.put 1 _ (fun q hq => by match q, hq with | 0, _ => rfl | 1, _ => rfl | 2, _ => rfl | 3, _ => rfl) (HKB.out.tat.congr _ _) hnP), HSK, Lib.hid ⟨y1, HS'.out, y3, y4, HY5.out, HY6.out⟩⟩
            · obtain ⟨M15, hM15, hM15e⟩ : ∃ m : Nat, m ≤ 15 ∧ bits .and .i64 n 15 = (m : Int) := and_mask n 15 (by omega)
              have hmk := run_make_row' (P := Tryd.prog) 31 30 (.int .u64 0) 8 Tryd.underlying31 info_u64 rfl .i64 .i64 M15 (by omega) (by omega)
              go_wp2
              go_meet
              case rel =>
                have hsp6 := HSPm.out.set (p := ⟨kq, 2, none⟩) hkB hne2 hnP (.slice (some ⟨wc.heap.size, 0, none⟩) M15 M15)
                have hrow := World.rowIs_made (wc.setCell ⟨kq, 2, none⟩ (.slice (some ⟨wc.heap.size, 0, none⟩) M15 M15)) (.int .u64 0) M15 30
                have hsz : (wc.setCell ⟨kq, 2, none⟩ (.slice (some ⟨wc.heap.size, 0, none⟩) M15 M15)).heap.size = wc.heap.size := by simp
                rw [hsz] at hrow
                have hwr := wrow_of_rowIs (f := fun _ => 0) hrow (fun _ _ => by omega)
                refine ⟨x.num, x.kf, a1, k1, a2, k2, K, g, cap, .mk y.num y.bs M15 (fun _ => 0) y.kl y.kf, some ⟨wc.heap.size, 0, none⟩, M15, A2, K2, hi, by omega, hne2, hxn, Lib.hid (hsp6.below ((Below.refl _ _).alloc (Nat.le_refl _) _)), Lib.hid ⟨((HKB.out.box.set 2 _).alloc _).congr (fun q hq => by match q, hq with | 0, _ => rfl | 1, _ => rfl | 2, _ => rfl | 3, _ => rfl), ?_⟩, HSK, Lib.hid ⟨y1, y2, by show M15 ≤ 15; omega, y4, fun _ _ => by show 0 < 18446744073709551616; omega, HY6.out⟩⟩
                refine TAt.nums' (y := y) (A1 := A1) ((HKB.out.tat.keep (fun b hb _ => Below.heap_setCell wc ⟨kq, 2, none⟩ _ b (fun e => hnP (by have e : b = kq := e; rw [e] at hb; exact hb.1))) (fun _ h _ => h) (Nat.le_of_eq hsz.symm)).below ((Below.refl _ _).alloc (Nat.le_refl _) _)) _ _ ⟨hwr, fun _ a e => ?_⟩
                cases e
                exact ⟨.inr hkq, by show wc.heap.size ≠ g; omega⟩
            · go_wp2
              go_meet
              case rel => exact ⟨x.num, x.kf, a1, k1, a2, k2, K, g, cap, .mk y.num y.bs y.nl y.nf 0 y.kf, A1, K1, none, 0, hi, by omega, hne2, hxn, Lib.hid (HSPm.out.set (p := ⟨kq, 3, none⟩) hkB hne2 hnP _), Lib.hid (HKB.out.put 3 _ (fun q hq => by match q, hq with | 0, _ => rfl | 1, _ => rfl | 2, _ => rfl | 3, _ => rfl) (HKB.out.tat.noKids _ _ _) hnP), HSK, Lib.hid ⟨y1, y2, y3, Nat.zero_le _, HY5.out, fun j hj => absurd hj (Nat.not_lt_zero j)⟩⟩
            · by_cases hy0 : y.kl = 0
              · have HKBm := Lib.hid HKB.out
                have hlk := HKB.out.box.lt
                rw [hy0] at k3'
                have hkw : kq ≠ wc.heap.size := by omega
                have hkf3 := kfz 3
                go_upto_region 25 with (fail)
                go_region_law (first
                    | (refine step_append_none _ (by rfl) _ _ 32 (by rfl) 34 i0 Tryd.underlying32 hi0 (some ⟨wc.heap.size, 0, none⟩) 0 0 (Nat.le_refl _) (by rfl) A2 K2 (by rfl) ?_))
                all_goals
                  go_wp2
                  go_meet
                  case rel =>
                    obtain ⟨t1, t2⟩ := none_fin HSPm.out HKBm.out (Below.refl _ _) hkB hne2 hnP (some ⟨wc.heap.size, 0, none⟩) 0
                    exact ⟨x.num, x.kf, a1, k1, a2, k2, K, g, cap, .mk y.num y.bs y.nl y.nf 0 y.kf, A1, K1, some ⟨wc.heap.size, 0, none⟩, 0, hi, by omega, hne2, hxn, Lib.hid (t1.below (((Below.refl _ _).alloc (Nat.le_refl _) _).drew)), Lib.hid (t2.below (((Below.refl _ _).alloc (Nat.le_refl _) _).drew)), HSK, Lib.hid ⟨y1, y2, y3, Nat.zero_le _, HY5.out, fun j hj => absurd hj (Nat.not_lt_zero j)⟩⟩
              · obtain ⟨b2, o2, f1, j1, f2, j2, hA2e, hPb2, hlt2, hc2⟩ := HKB.out.tat.kidsF (by omega)
                subst hA2e
                have hlk := HKB.out.box.lt
                have hgl := (HSPm.out.ka.own.lt g rfl).2
                have hy2 := HLF.out.2.1
                have HC2 := Lib.hid hc2
                clear hc2
                have HN : Hid (∀ W', Below wc.heap.size wc W' → ∀ i u, (cells4 y.kf f1 j1 f2 j2 y.kl)[i]? = some u → W'.cell? ((⟨b2, o2, none⟩ : Addr).add i) = some u) := Lib.hid fun W' hb => cells4_cell fun j hj => (HC2.out j hj).1.of_block (hb.block b2 hlt2)
                have hkw : kq ≠ wc.heap.size := by omega
                have hkf3 := kfz 3
                have T0 : Hid (TW wc 0 (.slice (some ⟨wc.heap.size, 0, none⟩) 0 0) [] (wc.alloc (.cells #[] 34)).drew) := Lib.hid ⟨by (repeat (first | with_reducible exact Below.refl _ _ | with_reducible refine Below.drew ?_ | (with_reducible refine Below.setCell ?_ ?side _; case side => exact (by first | (simp; done) | (simp; omega) | omega)) | (with_reducible refine Below.alloc ?_ ?side _; case side => exact (by first | (simp; done) | (simp; omega) | omega)))), own_of (own_lit wc wc.heap.size wc.heap.size (Nat.le_refl _) rfl) (fun _ _ => rfl)⟩
                go_upto_region 25 with (fail)
                go_region_law (first
                    | (refine step_append_lies _ (by rfl) _ _ 32 (by rfl) wc.heap.size 34 i0 (.agg #[.int .u64 0, .string ⟨#[]⟩, .slice none 0 0, .slice none 0 0]) 4 72 Tryd.underlying32 hi0 hz1 hz2 hz3 rfl (by omega) _ _ _ (by rfl) T1.out.own ⟨b2, o2, none⟩ y.kl K2 (cells4 y.kf f1 j1 f2 j2 y.kl) (by rfl) (by rw [cells4_length]) (HN.out _ T1.out.be) (cells4_one _) (by omega) (by unfold maxLen; omega) (by omega) T1.out.be.size _ rfl ?_; intro g2 cap2 w11 hown hgrow hat hlt; have T2 := Lib.hid (T1.out.grow hgrow hown); have m5 := (T2.out.be.cell (p := ⟨kq, 3, none⟩) hlk).trans k3'; have m6 := (T2.out.be.frozen (p := ⟨kq, 3, none⟩) hlk).trans hkf3; clear hown hgrow hat hlt)
                    | (refine step_append_lies _ (by rfl) _ _ 32 (by rfl) wc.heap.size 34 i0 (.agg #[.int .u64 0, .string ⟨#[]⟩, .slice none 0 0, .slice none 0 0]) 4 72 Tryd.underlying32 hi0 hz1 hz2 hz3 rfl (by omega) _ _ _ (by rfl) T0.out.own ⟨b2, o2, none⟩ y.kl K2 (cells4 y.kf f1 j1 f2 j2 y.kl) (by rfl) (by rw [cells4_length]) (HN.out _ T0.out.be) (cells4_one _) (by omega) (by unfold maxLen; omega) (by omega) T0.out.be.size _ rfl ?_; intro g1 cap1 w10 hown hgrow hat hlt; simp only [Nat.zero_add, List.nil_append] at hown; have T1 := Lib.hid (T0.out.grow hgrow hown); have m3 := (T1.out.be.cell (p := ⟨kq, 3, none⟩) hlk).trans k3'; have m4 := (T1.out.be.frozen (p := ⟨kq, 3, none⟩) hlk).trans hkf3; clear hown hgrow hat hlt))
                all_goals
                  go_wp2
                  go_meet
                  case rel =>
                    have ho := T2.out.own
                    obtain ⟨t1, t2⟩ := twice_fin HSPm.out HKB.out (fun j hj => (HC2.out j hj).2) T2.out.be ho hkB hne2 hgl hnP (fun b hb => .inr (by omega))
                    exact ⟨x.num, x.kf, a1, k1, a2, k2, K, g, cap, .mk y.num y.bs y.nl y.nf (y.kl + y.kl) (dbl y.kl y.kf), A1, K1, some ⟨g2, 0, none⟩, cap2, hi, by omega, hne2, hxn, Lib.hid t1, Lib.hid t2, HSK, Lib.hid ⟨y1, y2, y3, by show y.kl + y.kl ≤ 5; omega, HY5.out, fun j hj => by
                      show Sm (2 * d) (dbl y.kl y.kf j)
                      have hj : j < y.kl + y.kl := hj
                      unfold dbl
                      exact HY6.out _ (by split <;> omega)⟩⟩
            · have v3 : wc.cell? ⟨w.heap.size, 3, none⟩ = some (.slice (some ⟨g, 0, none⟩) K cap) := HSPm.out.vb.cell (i := 3) (by omega)
              have hlq := HSPm.out.vb.lt
              have hbq := HSPm.out.rb.lt
              go_wp2_with (at_builtin; (refine wpList_append_own_at _ rfl _ _ 32 rfl (w.heap.size + 3) 34 i0 (.agg #[.int .u64 0, .string ⟨#[]⟩, .slice none 0 0, .slice none 0 0]) 4 72 Tryd.underlying32 hi0 hz1 hz2 hz3 rfl (by decide) _ _ _ rfl (HSPm.out.ka.own.alloc _) ⟨_, 0, none⟩ 1 1 [.int .u64 0, .string ⟨#[]⟩, .slice none 0 0, .slice none 0 0] rfl rfl (cell_four_at _ _ _ _ _ _ _ (by simp)) (by simp [Value.oneCell']) (by unfold maxLen; omega) (by omega) (by simp; omega) ?_); intro v' w2 hown' hgrow _ hblk; obtain ⟨g', cap', rfl⟩ := ownsRow_succ hown'; obtain ⟨t1, t2, t3, x3, xf⟩ := HSPm.out.next (kq := kq) (fun b h1 h2 => by omega) hkB hne2 hnP HKB.out hown' hgrow hblk; have T1 := Lib.hid t1; have T2 := Lib.hid t2; clear hown' hgrow hblk t1 t2)
              go_meet
              case rel => exact ⟨x.num, _, _, _, _, _, K + 1, g', cap', y, A1, K1, A2, K2, by omega, by omega, t3, hxn, T1, T2, Lib.hid (fun j hj => by
                by_cases e : j = K
                · subst e; rw [adPut_at]; exact ⟨by show 0 < 18446744073709551616; omega, Nat.zero_le _, Nat.zero_le _, Nat.zero_le _, fun j hj => absurd hj (Nat.not_lt_zero j), fun j hj => absurd hj (Nat.not_lt_zero j)⟩
                · rw [adPut_ne _ _ (by omega)]; exact HSK.out j (by omega)), HSY⟩
            · have hvf := HSPm.out.vb.frozen
              have v0 : wc.cell? ⟨w.heap.size, 0, none⟩ = some (.int .u64 (x.num : Nat)) := HSPm.out.vb.cell (i := 0) (by omega)
              go_wp2
              go_meet
              case rel => exact ⟨N, x.kf, a1, k1, a2, k2, K, g, cap, y, A1, K1, A2, K2, hi, by omega, hne2, hN, Lib.hid (HSPm.out.num (by omega) N), Lib.hid (HKB.out.setOther (p := ⟨w.heap.size, 0, none⟩) (by show kq ≠ w.heap.size; omega) (by show ¬ ((P w.heap.size ∧ w.heap.size < w.heap.size) ∨ kq < w.heap.size); omega) _), HSK, HSY⟩
            · go_wp2
              go_meet
              case rel => exact ⟨x.num, x.kf, a1, k1, a2, k2, K, g, cap, y, A1, K1, A2, K2, hi, by omega, hne2, hxn, HSPm, HKB, HSK, HSY⟩
          case rest =>
            clear HSPm HKB HSK hMe q0
            obtain ⟨num, f, e1, e2, e3, e4, m, g9, cap9, y9, B1, J1, B2, J2, him, hm5, hkg, hnum, HSP9, HKB9, HSK9, HSY9⟩ := hcut
            have v3 : wc.cell? ⟨w.heap.size, 3, none⟩ = some (.slice (some ⟨g9, 0, none⟩) m cap9) := HSP9.out.vb.cell (i := 3) (by omega)
            have k0 : wc.cell? ⟨kq, 0, none⟩ = some (.int .u64 (y9.num : Nat)) := HKB9.out.box.cell (i := 0) (by omega)
            have k1' : wc.cell? ⟨kq, 1, none⟩ = some (.string y9.bs) := HKB9.out.box.cell (i := 1) (by omega)
            have k2' : wc.cell? ⟨kq, 2, none⟩ = some (.slice B1 y9.nl J1) := HKB9.out.box.cell (i := 2) (by omega)
            have k3' : wc.cell? ⟨kq, 3, none⟩ = some (.slice B2 y9.kl J2) := HKB9.out.box.cell (i := 3) (by omega)
            obtain ⟨g0, g1, g2, g3⟩ := HSP9.out.ka.kr.cell4 him
            have gf := HSP9.out.ka.kr.frozen
            obtain ⟨t1, t2, t3, t4, t5⟩ := HSP9.out.fin1 HKB9.out him
            have T1 := Lib.hid t1
            have T3 := Lib.hid t3
            have T4 := Lib.hid t4
            have T2 := Lib.hid t2
            clear t1 t2 t3 t4
            go_upto_region 31 with (fail)
            clear v3 k0 k1' k2' k3' g0 g1 g2 g3 gf
            generalize ((((wc.setCell ⟨g9, i * 4, none⟩ (.int .u64 (y9.num : Nat))).setCell ⟨g9, i * 4 + 1, none⟩ (.string y9.bs)).setCell ⟨g9, i * 4 + 2, none⟩ (.slice B1 y9.nl J1)).setCell ⟨g9, i * 4 + 3, none⟩ (.slice B2 y9.kl J2)) = W7 at T1 T2 T3 T4 ⊢
            have v0 : W7.cell? ⟨w.heap.size, 0, none⟩ = some (.int .u64 (num : Nat)) := T2.out.cell (i := 0) (by omega)
            have v1 : W7.cell? ⟨w.heap.size, 1, none⟩ = some (.string x.bs) := T2.out.cell (i := 1) (by omega)
            have v2 : W7.cell? ⟨w.heap.size, 2, none⟩ = some (.slice An x.nl cn) := T2.out.cell (i := 2) (by omega)
            have v3 : W7.cell? ⟨w.heap.size, 3, none⟩ = some (.slice (some ⟨g9, 0, none⟩) m cap9) := T2.out.cell (i := 3) (by omega)
            have r0 : W7.cell? ⟨w.heap.size + 1 + 1, 0, none⟩ = some (.int .u64 0) := T3.out.cell (i := 0) (by omega)
            have r1 : W7.cell? ⟨w.heap.size + 1 + 1, 1, none⟩ = some (.string ⟨#[]⟩) := T3.out.cell (i := 1) (by omega)
            have r2 : W7.cell? ⟨w.heap.size + 1 + 1, 2, none⟩ = some (.slice none 0 0) := T3.out.cell (i := 2) (by omega)
            have r3 : W7.cell? ⟨w.heap.size + 1 + 1, 3, none⟩ = some (.slice none 0 0) := T3.out.cell (i := 3) (by omega)
            have rf := T3.out.frozen
            have HNR := Lib.hid ((TAt_eq _ _ _ _ _).1 HT.out).1
            go_wp2
            have hfin := fin2 (nf := x.nf) (num := num) (bs := x.bs) (nl := x.nl) (An := An) (cn := cn) (cap := cap9) (Q := fun b => (P b ∧ b < w.heap.size) ∨ w.heap.size ≤ b) T1.out T3.out T4.out t5 (by omega) ⟨HNR.out.1, fun h a e => .inl (HNR.out.2 h a e)⟩ (fun b hb => hb.elim .inl fun h => .inr (by omega)) (.inr (by omega))
            clear v0 v1 v2 v3 r0 r1 r2 r3 rf
            generalize (((W7.setCell ⟨w.heap.size + 1 + 1, 0, none⟩ (.int .u64 (num : Nat))).setCell ⟨w.heap.size + 1 + 1, 1, none⟩ (.string x.bs)).setCell ⟨w.heap.size + 1 + 1, 2, none⟩ (.slice An x.nl cn)).setCell ⟨w.heap.size + 1 + 1, 3, none⟩ (.slice (some ⟨g9, 0, none⟩) m cap9) = W9 at hfin ⊢
            obtain ⟨hT9, r, hB9⟩ := hfin
            have g0 : W9.cell? ⟨w.heap.size + 1 + 1, 0, none⟩ = some (.int .u64 (num : Nat)) := r.cell (i := 0) (by omega)
            have g1 : W9.cell? ⟨w.heap.size + 1 + 1, 1, none⟩ = some (.string x.bs) := r.cell (i := 1) (by omega)
            have g2 : W9.cell? ⟨w.heap.size + 1 + 1, 2, none⟩ = some (.slice An x.nl cn) := r.cell (i := 2) (by omega)
            have g3 : W9.cell? ⟨w.heap.size + 1 + 1, 3, none⟩ = some (.slice (some ⟨g9, 0, none⟩) m cap9) := r.cell (i := 3) (by omega)
            refine bodyPost_ret (v := .agg #[.int .u64 (num : Nat), .string x.bs, .slice An x.nl cn, .slice (some ⟨g9, 0, none⟩) m cap9]) (by simp [results, Tryd.results14, go_sem, g0, g1, g2, g3]) rfl ⟨.mk num x.bs x.nl x.nf m (adPut f i y9), An, cn, some ⟨g9, 0, none⟩, cap9, rfl, ⟨hnum, hx.2.1, hx.2.2.1, hm5, HSX.out.2.2.2.2.1, fun j hj => ?_⟩, ⟨rfl, rfl, fun _ => rfl⟩, hT9, hB9⟩
            show Sm (2 * d + 1) (adPut f i y9 j)
            by_cases e : j = i
            · subst e; rw [adPut_at]; exact HSY9.out
            · rw [show adPut f i y9 j = f j by simp [adPut, e]]; exact HSK9.out j hj

theorem spoilt_any (how at_ n : Int) (str : ByteArray) (dn : Bool) (hstr : str.size ≤ 9223372036854775807) (d : Nat) (x : Tr) (An Ak : Option Addr) (cn ck : Nat) (P : Nat → Prop) (w : World) (hL : Lo d x) (hT : TAt w P x An Ak) :
    Calls Tryd.prog 14 #[(.agg #[.int .u64 ((x).num : Nat), .string (x).bs, .slice An (x).nl cn, .slice Ak (x).kl ck]), .agg #[.int .i64 how, .int .i64 at_, .int .i64 n, .string str, .bool dn]] w fun e w' => ∃ (x' : Tr) (An' : Option Addr) (cn' : Nat) (Ak' : Option Addr) (ck' : Nat), e = .returned (.agg #[.int .u64 ((x').num : Nat), .string (x').bs, .slice An' (x').nl cn', .slice Ak' (x').kl ck']) ∧ Sm (2 * d) x' ∧ (x'.bs = x.bs ∧ x'.nl = x.nl ∧ ∀ i, x'.nf i = x.nf i) ∧ TAt w' (fun b => (P b ∧ b < w.heap.size) ∨ w.heap.size ≤ b) x' An' Ak' ∧ Below w.heap.size w w' :=
  spoilt_core how at_ n str dn hstr (fun _ d x An Ak cn ck P w h1 h2 => spoilt_core how at_ n str false hstr (fun h => by cases h) d x An Ak cn ck P w h1 h2) d x An Ak cn ck P w hL hT

end Go.Proofs.YtojlimpooeehhaaDoor
