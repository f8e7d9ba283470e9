/- Trees in memory; a struct's, and a field's, own things. -/
import Derived.Test.YtkhbhkllnigbgaaDoorQAll
import Derived.Test.YtkhbhkllnigbgaaDoorTMath
namespace Go.Proofs.YtkhbhkllnigbgaaDoor
open Go.RowKit
/-- A row of words, of blocks of which P holds. -/
def NRow (W : World) (P : Nat → Prop) (A : Option Addr) (L : Nat) (f : Nat → Nat) : Prop := WRow W A L f ∧ (0 < L → ∀ a, A = some a → P a.block)
/-- The four cells of a tree, at o of block b. -/
structure Cell4 (W : World) (b o : Nat) (x : Tr) (A1 : Option Addr) (k1 : Nat) (A2 : Option Addr) (k2 : Nat) : Prop where
  c0 : W.cell? ⟨b, o, none⟩ = some (.int .u64 (x.num : Nat))
  c1 : W.cell? ⟨b, o + 1, none⟩ = some (.string x.bs)
  c2 : W.cell? ⟨b, o + 2, none⟩ = some (.slice A1 x.nl k1)
  c3 : W.cell? ⟨b, o + 3, none⟩ = some (.slice A2 x.kl k2)
/-- The tree x lies in memory: its numbers from An on, its kids from Ak on; P holds of all its blocks. -/
def TAt (W : World) (P : Nat → Prop) : Tr → Option Addr → Option Addr → Prop
  | .leaf, _, _ => True
  | .mk _ _ nl nf kl kf, An, Ak => NRow W P An nl nf ∧ (0 < kl → ∃ b off, Ak = some ⟨b, off, none⟩ ∧ P b ∧ b < W.heap.size ∧ ∀ j, j < kl → ∃ A1 c1 A2 c2, Cell4 W b (off + j * 4) (kf j) A1 c1 A2 c2 ∧ TAt W P (kf j) A1 A2)
theorem TAt_eq (W : World) (P : Nat → Prop) (x : Tr) (An Ak : Option Addr) : TAt W P x An Ak ↔ NRow W P An x.nl x.nf ∧ (0 < x.kl → ∃ b off, Ak = some ⟨b, off, none⟩ ∧ P b ∧ b < W.heap.size ∧ ∀ j, j < x.kl → ∃ A1 c1 A2 c2, Cell4 W b (off + j * 4) (x.kf j) A1 c1 A2 c2 ∧ TAt W P (x.kf j) A1 A2) := by
  cases x with
  | leaf => exact ⟨fun _ => ⟨⟨⟨fun j hj => absurd hj (Nat.not_lt_zero j), fun h => absurd h (Nat.lt_irrefl 0)⟩, fun h => absurd h (Nat.lt_irrefl 0)⟩, fun h => absurd h (Nat.lt_irrefl 0)⟩, fun _ => trivial⟩
  | mk num bs nl nf kl kf => exact Iff.rfl
theorem Cell4.of_block {W W' : World} {b o : Nat} {x : Tr} {A1 A2 : Option Addr} {c1 c2 : Nat} (h : Cell4 W b o x A1 c1 A2 c2) (e : W'.heap[b]? = W.heap[b]?) : Cell4 W' b o x A1 c1 A2 c2 :=
  ⟨(World.cell?_of_block (w := W) (a := ⟨b, o, none⟩) e).trans h.c0, (World.cell?_of_block (w := W) (a := ⟨b, o + 1, none⟩) e).trans h.c1, (World.cell?_of_block (w := W) (a := ⟨b, o + 2, none⟩) e).trans h.c2, (World.cell?_of_block (w := W) (a := ⟨b, o + 3, none⟩) e).trans h.c3⟩
theorem WRow.of_block {W W' : World} {A : Option Addr} {L : Nat} {f : Nat → Nat} (h : WRow W A L f) (hb : 0 < L → ∀ a, A = some a → a.block < W.heap.size → W'.heap[a.block]? = W.heap[a.block]?) (hs : W.heap.size ≤ W'.heap.size) : WRow W' A L f :=
  ⟨h.lt, fun h0 => by
    obtain ⟨b, off, hA, hlt, hc⟩ := h.some_ h0
    exact ⟨b, off, hA, Nat.lt_of_lt_of_le hlt hs, fun j hj => (World.cell?_of_block (w := W) (a := ⟨b, off + j, none⟩) (hb h0 ⟨b, off, none⟩ hA hlt)).trans (hc j hj)⟩⟩
/-- A tree stays, where its blocks do. -/
theorem TAt.keep {W W' : World} {P Q : Nat → Prop} {x : Tr} {An Ak : Option Addr} (h : TAt W P x An Ak) (hb : ∀ b, P b → b < W.heap.size → W'.heap[b]? = W.heap[b]?) (hQ : ∀ b, P b → b < W.heap.size → Q b) (hs : W.heap.size ≤ W'.heap.size) : TAt W' Q x An Ak := by
  revert An Ak h
  refine Tr.ind (P := fun x => ∀ {An Ak}, TAt W P x An Ak → TAt W' Q x An Ak) (fun x ih An Ak h => ?_) x
  rw [TAt_eq] at h ⊢
  obtain ⟨⟨h1, h1'⟩, h2⟩ := h
  refine ⟨⟨h1.of_block (fun h0 a e hl => hb _ (h1' h0 a e) hl) hs, fun h0 a e => ?_⟩, fun h0 => ?_⟩
  · obtain ⟨b, off, hA, hlt, _⟩ := h1.some_ h0
    subst hA
    cases e
    exact hQ _ (h1' h0 _ rfl) hlt
  · obtain ⟨b, off, hA, hP, hlt, hc⟩ := h2 h0
    refine ⟨b, off, hA, hQ b hP hlt, Nat.lt_of_lt_of_le hlt hs, fun j hj => ?_⟩
    obtain ⟨A1, c1, A2, c2, h3, h4⟩ := hc j hj
    exact ⟨A1, c1, A2, c2, h3.of_block (hb b hP hlt), ih j hj h4⟩
theorem TAt.below {W W' : World} {P : Nat → Prop} {x : Tr} {An Ak : Option Addr} (h : TAt W P x An Ak) (hb : Below W.heap.size W W') : TAt W' P x An Ak := h.keep (fun b _ hl => hb.block b hl) (fun _ h _ => h) hb.size
theorem TAt.old {B : Nat} {W W' : World} {x : Tr} {An Ak : Option Addr} (h : TAt W (· < B) x An Ak) (hb : Below B W W') : TAt W' (· < B) x An Ak := h.keep (fun b hP _ => hb.block b hP) (fun _ h _ => h) hb.size
theorem TAt.mono {W : World} {P Q : Nat → Prop} {x : Tr} {An Ak : Option Addr} (h : TAt W P x An Ak) (hQ : ∀ b, P b → b < W.heap.size → Q b) : TAt W Q x An Ak := h.keep (fun _ _ _ => rfl) hQ (Nat.le_refl _)
theorem TAt.lt {W : World} {P : Nat → Prop} {x : Tr} {An Ak : Option Addr} (h : TAt W P x An Ak) : TAt W (· < W.heap.size) x An Ak := h.mono fun _ _ hl => hl
theorem TAt.nums {W : World} {P : Nat → Prop} {x : Tr} {An Ak : Option Addr} (h : TAt W P x An Ak) : WRow W An x.nl x.nf := ((TAt_eq _ _ _ _ _).1 h).1.1
theorem TAt.kids {W : World} {P : Nat → Prop} {x : Tr} {An Ak : Option Addr} (h : TAt W P x An Ak) (h0 : 0 < x.kl) : ∃ b off, Ak = some ⟨b, off, none⟩ ∧ P b ∧ b < W.heap.size ∧ ∀ j, j < x.kl → ∃ A1 c1 A2 c2, Cell4 W b (off + j * 4) (x.kf j) A1 c1 A2 c2 ∧ TAt W P (x.kf j) A1 A2 := ((TAt_eq _ _ _ _ _).1 h).2 h0

theorem str_nil (b : ByteArray) : b.toList = [] ↔ b.size = 0 := by
  rw [ByteArray.toList_eq]
  cases b with
  | mk d => simp [ByteArray.size]

/-- As Bools, that the walk leaves alone. -/
def blankB (x : Tr) : Bool := decide (x.num = 0 ∧ x.bs.size = 0 ∧ x.nl = 0 ∧ x.kl = 0)
def onlyB (k : Int) (x : Tr) : Bool := decide ((k ≠ 1 → x.num = 0) ∧ (k ≠ 2 → x.bs.size = 0) ∧ (k ≠ 3 → x.nl = 0) ∧ (k < 4 → x.kl = 0))
def strB (L : Int) (x : Tr) : Bool := decide (x.num = 0 ∧ x.bs.size = 0 ∧ x.nl = 0 ∧ (x.kl : Int) = L)
def kindB (k : Int) (x : Tr) : Bool := decide (kindOk k x)
theorem blankB_iff (x : Tr) : blankB x = true ↔ x.num = 0 ∧ x.bs.size = 0 ∧ x.nl = 0 ∧ x.kl = 0 := decide_eq_true_iff
theorem onlyB_iff (k : Int) (x : Tr) : onlyB k x = true ↔ (k ≠ 1 → x.num = 0) ∧ (k ≠ 2 → x.bs.size = 0) ∧ (k ≠ 3 → x.nl = 0) ∧ (k < 4 → x.kl = 0) := decide_eq_true_iff
theorem strB_iff (L : Int) (x : Tr) : strB L x = true ↔ x.num = 0 ∧ x.bs.size = 0 ∧ x.nl = 0 ∧ (x.kl : Int) = L := decide_eq_true_iff
theorem kindB_iff (k : Int) (x : Tr) : kindB k x = true ↔ kindOk k x := decide_eq_true_iff

set_option maxRecDepth 100000 in
set_option maxHeartbeats 1000000 in
theorem only_any (k : Int) (x : Tr) (An Ak : Option Addr) (cn ck : Nat) (w : World) : Calls Tryd.prog 145 #[.int .i64 k, (.agg #[.int .u64 ((x).num : Nat), .string (x).bs, .slice An (x).nl cn, .slice Ak (x).kl ck])] w fun e w' => e = .returned (.bool (onlyB k x)) ∧ Below w.heap.size w w' := by
  go_enter Tryd.func145, Tryd.ntmps145
  go_wp2
  all_goals
    go_ret
    refine ⟨ret_bool ?_, by (repeat (first | with_reducible exact Below.refl _ _ | with_reducible refine Below.drew ?_ | (with_reducible refine Below.setCell ?_ ?side _; case side => exact (by first | (simp; done) | (simp; omega) | omega)) | (with_reducible refine Below.alloc ?_ ?side _; case side => exact (by first | (simp; done) | (simp; omega) | omega))))⟩
    try simp only [str_nil] at *
    rw [Bool.eq_iff_iff]
    simp only [blankB_iff, onlyB_iff, decide_eq_true_eq, beq_iff_eq, bne_iff_ne, ne_eq, Bool.false_eq_true, Bool.true_eq_false, false_iff, true_iff, iff_true, iff_false]
    first | omega | (simp_all; done) | (simp_all; omega) | (simp at *; omega)

/-- A tree with no kids; with no number; .. -/
def Tr.noKids (x : Tr) : Tr := .mk x.num x.bs x.nl x.nf 0 x.kf
def Tr.noNum (x : Tr) : Tr := .mk 0 x.bs x.nl x.nf x.kl x.kf
def Tr.noBs (x : Tr) : Tr := .mk x.num ⟨#[]⟩ x.nl x.nf x.kl x.kf
def Tr.noNums (x : Tr) : Tr := .mk x.num x.bs 0 x.nf x.kl x.kf

theorem kind_of {x : Tr} {k : Int} {b : Bool} {w w' : World} (h : b = true ↔ kindOk k x) (hb : Below w.heap.size w w') : Ending.returned (.bool b) = .returned (.bool (kindB k x)) ∧ Below w.heap.size w w' := ⟨ret_bool (by rw [Bool.eq_iff_iff, h, kindB_iff]), hb⟩

end Go.Proofs.YtkhbhkllnigbgaaDoor
