/- Rows of trees that are appended one by one. -/
import Derived.Test.YtkhbhkllnigbgaaDoorTRow
import Derived.Test.YtkhbhkllnigbgaaDoorQMade
namespace Go.Proofs.YtkhbhkllnigbgaaDoor
open Go.ChangeShapes Go.WideShapes Go.ChangeAt Go.RowKit
/-- The cells of trees. -/
def cells4 (f : Nat → Tr) (a1 : Nat → Option Addr) (k1 : Nat → Nat) (a2 : Nat → Option Addr) (k2 : Nat → Nat) : Nat → List Value
  | 0 => []
  | m + 1 => cells4 f a1 k1 a2 k2 m ++ [.int .u64 ((f m).num : Nat), .string (f m).bs, .slice (a1 m) (f m).nl (k1 m), .slice (a2 m) (f m).kl (k2 m)]
theorem cells4_length (f : Nat → Tr) (a1 : Nat → Option Addr) (k1 : Nat → Nat) (a2 : Nat → Option Addr) (k2 : Nat → Nat) (m : Nat) : (cells4 f a1 k1 a2 k2 m).length = m * 4 := by
  induction m with
  | zero => rfl
  | succ m ih => rw [cells4, List.length_append, ih]; simp; omega
theorem cells4_get (f : Nat → Tr) (a1 : Nat → Option Addr) (k1 : Nat → Nat) (a2 : Nat → Option Addr) (k2 : Nat → Nat) (m j : Nat) (h : j < m) : (cells4 f a1 k1 a2 k2 m)[j * 4]? = some (.int .u64 ((f j).num : Nat)) ∧ (cells4 f a1 k1 a2 k2 m)[j * 4 + 1]? = some (.string (f j).bs) ∧ (cells4 f a1 k1 a2 k2 m)[j * 4 + 2]? = some (.slice (a1 j) (f j).nl (k1 j)) ∧ (cells4 f a1 k1 a2 k2 m)[j * 4 + 3]? = some (.slice (a2 j) (f j).kl (k2 j)) := by
  induction m with
  | zero => omega
  | succ m ih =>
    have hl := cells4_length f a1 k1 a2 k2 m
    by_cases e : j = m
    · subst e
      rw [cells4, List.getElem?_append_right (by omega), List.getElem?_append_right (by omega), List.getElem?_append_right (by omega), List.getElem?_append_right (by omega), hl]
      simp
    · obtain ⟨h1, h2, h3, h4⟩ := ih (by omega)
      rw [cells4, List.getElem?_append_left (by omega), List.getElem?_append_left (by omega), List.getElem?_append_left (by omega), List.getElem?_append_left (by omega)]
      exact ⟨h1, h2, h3, h4⟩
theorem cells4_congr {f f' : Nat → Tr} {a1 a1' : Nat → Option Addr} {k1 k1' : Nat → Nat} {a2 a2' : Nat → Option Addr} {k2 k2' : Nat → Nat} {m : Nat} (h : ∀ j, j < m → f j = f' j ∧ a1 j = a1' j ∧ k1 j = k1' j ∧ a2 j = a2' j ∧ k2 j = k2' j) : cells4 f a1 k1 a2 k2 m = cells4 f' a1' k1' a2' k2' m := by
  induction m with
  | zero => rfl
  | succ m ih =>
    obtain ⟨h1, h2, h3, h4, h5⟩ := h m (by omega)
    rw [cells4, cells4, ih fun j hj => h j (by omega), h1, h2, h3, h4, h5]
theorem cells4_put (f : Nat → Tr) (a1 : Nat → Option Addr) (k1 : Nat → Nat) (a2 : Nat → Option Addr) (k2 : Nat → Nat) (m : Nat) (y : Tr) (A1 : Option Addr) (K1 : Nat) (A2 : Option Addr) (K2 : Nat) : cells4 (adPut f m y) (adPut a1 m A1) (adPut k1 m K1) (adPut a2 m A2) (adPut k2 m K2) (m + 1) = cells4 f a1 k1 a2 k2 m ++ [.int .u64 (y.num : Nat), .string y.bs, .slice A1 y.nl K1, .slice A2 y.kl K2] := by
  rw [cells4, adPut_at, adPut_at, adPut_at, adPut_at, adPut_at, cells4_congr (f' := f) (a1' := a1) (k1' := k1) (a2' := a2) (k2' := k2) fun j hj => ⟨adPut_ne _ _ hj, adPut_ne _ _ hj, adPut_ne _ _ hj, adPut_ne _ _ hj, adPut_ne _ _ hj⟩]
/-- v is a row of m trees, its block made since base; P holds of the blocks of what lies in them, and none of these is the row's own. -/
structure KA (P : Nat → Prop) (base : Nat) (f : Nat → Tr) (a1 : Nat → Option Addr) (k1 : Nat → Nat) (a2 : Nat → Option Addr) (k2 : Nat → Nat) (m : Nat) (v : Value) (W : World) : Prop where
  own : W.ownsRow base 41 4 v m (cells4 f a1 k1 a2 k2 m)
  kids : ∀ i, i < m → TAt W (fun b => P b ∧ v.ownBlock ≠ some b) (f i) (a1 i) (a2 i)
theorem KA.nil (P : Nat → Prop) (base : Nat) (f : Nat → Tr) (a1 : Nat → Option Addr) (k1 : Nat → Nat) (a2 : Nat → Option Addr) (k2 : Nat → Nat) (W : World) : KA P base f a1 k1 a2 k2 0 (.slice none 0 0) W := ⟨World.ownsRow_nil _ _ _ _, fun i hi => by omega⟩
theorem KA.keep {P : Nat → Prop} {base : Nat} {f : Nat → Tr} {a1 : Nat → Option Addr} {k1 : Nat → Nat} {a2 : Nat → Option Addr} {k2 : Nat → Nat} {m : Nat} {v : Value} {W W' : World} (h : KA P base f a1 k1 a2 k2 m v W) (hb : ∀ b, P b ∨ base ≤ b → b < W.heap.size → W'.heap[b]? = W.heap[b]?) (hs : W.heap.size ≤ W'.heap.size) : KA P base f a1 k1 a2 k2 m v W' :=
  ⟨own_of h.own fun g hg => hb g (.inr (h.own.lt g hg).1) (h.own.lt g hg).2, fun i hi => (h.kids i hi).keep (fun b hP hl => hb b (.inl hP.1) hl) (fun _ h _ => h) hs⟩
theorem KA.below {P : Nat → Prop} {base : Nat} {f : Nat → Tr} {a1 : Nat → Option Addr} {k1 : Nat → Nat} {a2 : Nat → Option Addr} {k2 : Nat → Nat} {m : Nat} {v : Value} {W W' : World} (h : KA P base f a1 k1 a2 k2 m v W) (hb : Below W.heap.size W W') : KA P base f a1 k1 a2 k2 m v W' := h.keep (fun b _ hl => hb.block b hl) hb.size
theorem KA.set {P : Nat → Prop} {base : Nat} {f : Nat → Tr} {a1 : Nat → Option Addr} {k1 : Nat → Nat} {a2 : Nat → Option Addr} {k2 : Nat → Nat} {m : Nat} {v : Value} {W : World} (h : KA P base f a1 k1 a2 k2 m v W) {p : Addr} (hp : p.block < base) (hP : ¬ P p.block) (u : Value) : KA P base f a1 k1 a2 k2 m v (W.setCell p u) :=
  h.keep (fun b hb _ => Below.heap_setCell W p u b (by
    rcases hb with g | g
    · exact fun e => hP (e ▸ g)
    · omega)) ((Below.refl 0 W).setCell (Nat.zero_le _) u).size
/-- One tree more. -/
theorem KA.next {P : Nat → Prop} {base : Nat} {f : Nat → Tr} {a1 : Nat → Option Addr} {k1 : Nat → Nat} {a2 : Nat → Option Addr} {k2 : Nat → Nat} {m : Nat} {v v' : Value} {W w1 : World} (h : KA P base f a1 k1 a2 k2 m v W) {y : Tr} {A1 : Option Addr} {K1 : Nat} {A2 : Option Addr} {K2 : Nat} {o : Obj} (hy : TAt W (fun b => P b ∧ v.ownBlock ≠ some b) y A1 A2)
    (ho : w1.ownsRow base 41 4 v' (m + 1) (cells4 f a1 k1 a2 k2 m ++ [.int .u64 (y.num : Nat), .string y.bs, .slice A1 y.nl K1, .slice A2 y.kl K2])) (hg : (W.alloc o).grownBy w1 v.ownBlock) (hv : v'.ownBlock = v.ownBlock ∨ v'.ownBlock = some (W.alloc o).heap.size) : KA P base (adPut f m y) (adPut a1 m A1) (adPut k1 m K1) (adPut a2 m A2) (adPut k2 m K2) (m + 1) v' w1 := by
  have hsz : W.heap.size ≤ w1.heap.size := by have := hg.size; simp at this; omega
  have keep : ∀ {x : Tr} {B1 B2 : Option Addr}, TAt W (fun b => P b ∧ v.ownBlock ≠ some b) x B1 B2 → TAt w1 (fun b => P b ∧ v'.ownBlock ≠ some b) x B1 B2 := fun hx =>
    hx.keep (fun b hb hl => (hg.block b (by simp; omega) (fun e => hb.2 e.symm)).trans (((Below.refl W.heap.size W).alloc (Nat.le_refl _) o).block b hl)) (fun b hb hl => ⟨hb.1, by
      rcases hv with e | e
      · rw [e]; exact hb.2
      · rw [e]; intro g; have g' := Option.some.inj g; simp at g'; omega⟩) hsz
  refine ⟨by rw [cells4_put]; exact ho, fun i hi => ?_⟩
  by_cases e : i = m
  · subst e
    rw [adPut_at, adPut_at, adPut_at]
    exact keep hy
  · rw [adPut_ne _ _ (show i < m by omega), adPut_ne _ _ (show i < m by omega), adPut_ne _ _ (show i < m by omega)]
    exact keep (h.kids i (by omega))
/-- The row as a tree's kids. -/
theorem KA.row {P : Nat → Prop} {base : Nat} {f : Nat → Tr} {a1 : Nat → Option Addr} {k1 : Nat → Nat} {a2 : Nat → Option Addr} {k2 : Nat → Nat} {m : Nat} {v : Value} {W : World} (h : KA P base f a1 k1 a2 k2 m v W) : ∃ A c, v = .slice A m c ∧ (0 < m → ∃ b, A = some ⟨b, 0, none⟩ ∧ base ≤ b ∧ b < W.heap.size ∧ ∀ j, j < m → Cell4 W b (0 + j * 4) (f j) (a1 j) (k1 j) (a2 j) (k2 j) ∧ TAt W P (f j) (a1 j) (a2 j)) := by
  rcases h.own.2 with ⟨rfl, rfl⟩ | ⟨g, cap, cur, rfl, h1, h2, h3⟩
  · exact ⟨none, 0, rfl, fun h => absurd h (by omega)⟩
  · refine ⟨some ⟨g, 0, none⟩, cap, rfl, fun _ => ⟨g, rfl, h1, (Array.getElem?_eq_some_iff.1 h2).1, fun j hj => ⟨?_, (h.kids j hj).mono fun b hb _ => hb.1⟩⟩⟩
    obtain ⟨e1, e2, e3, e4⟩ := cells4_get f a1 k1 a2 k2 m j hj
    have b1 := World.ownsRow.cells h.own (g := g) rfl (j * 4) _ e1
    have b2 := World.ownsRow.cells h.own (g := g) rfl (j * 4 + 1) _ e2
    have b3 := World.ownsRow.cells h.own (g := g) rfl (j * 4 + 2) _ e3
    have b4 := World.ownsRow.cells h.own (g := g) rfl (j * 4 + 3) _ e4
    rw [addr_add] at b1 b2 b3 b4
    exact ⟨b1, b2, b3, b4⟩
theorem KA.tat {P Q : Nat → Prop} {base : Nat} {f : Nat → Tr} {a1 : Nat → Option Addr} {k1 : Nat → Nat} {a2 : Nat → Option Addr} {k2 : Nat → Nat} {m : Nat} {v : Value} {W : World} (h : KA P base f a1 k1 a2 k2 m v W) {num : Nat} {bs : ByteArray} {nl : Nat} {nf : Nat → Nat} {An : Option Addr} (hn : NRow W Q An nl nf) (hPQ : ∀ b, P b → Q b) (hBQ : ∀ b, base ≤ b → Q b) : ∃ A c, v = .slice A m c ∧ TAt W Q (.mk num bs nl nf m f) An A := by
  obtain ⟨A, c, hv, hr⟩ := h.row
  refine ⟨A, c, hv, hn, fun h0 => ?_⟩
  obtain ⟨b, hA, hb, hlt, hc⟩ := hr h0
  exact ⟨b, 0, hA, hBQ b hb, hlt, fun j hj => ⟨_, _, _, _, (hc j hj).1, (hc j hj).2.mono fun b hb _ => hPQ b hb⟩⟩
theorem info_tree : (Tryd.prog.info? 41).map (fun i => (i.zero, i.size, i.bytes)) = some (some (.agg #[.int .u64 0, .string ⟨#[]⟩, .slice none 0 0, .slice none 0 0]), 4, 72) := by kernel_rfl
theorem cell_four_at (w : World) (x y z u : Value) (t : TypeId) (b : Nat) (hb : b = w.heap.size) : ∀ j v, [x, y, z, u][j]? = some v → (w.alloc (.cells #[x, y, z, u] t)).cell? ((⟨b, 0, none⟩ : Addr).add j) = some v := by
  subst hb
  intro j v h
  rw [addr_add, Nat.zero_add]
  have r := World.rowIs_alloc w #[x, y, z, u] t (fun j => if j = 0 then x else if j = 1 then y else if j = 2 then z else u) (by intro j hj; match j, hj with | 0, _ => rfl | 1, _ => rfl | 2, _ => rfl | 3, _ => rfl)
  match j, h with
  | 0, h => rw [r.cell (i := 0) (by simp)]; exact h
  | 1, h => rw [r.cell (i := 1) (by simp)]; exact h
  | 2, h => rw [r.cell (i := 2) (by simp)]; exact h
  | 3, h => rw [r.cell (i := 3) (by simp)]; exact h
/-- A field of a struct by numbers. -/
def FieldT (s : Sch) (d t i : Nat) (y : Tr) : Prop := kindOk (s.k t i) y ∧ y.num < 18446744073709551616 ∧ y.bs.size ≤ 15 ∧ y.nl ≤ 3 ∧ (∀ j, j < y.nl → y.nf j < 18446744073709551616) ∧ y.kl ≤ 2 ∧ ∀ j, j < y.kl → MadeT s d (s.t t i).toNat (y.kf j)
theorem MadeT_succ (s : Sch) (d t : Nat) (x : Tr) : MadeT s (d + 1) t x ↔ structOk s t x ∧ ∀ i, i < x.kl → FieldT s d t i (x.kf i) := Iff.rfl

end Go.Proofs.YtkhbhkllnigbgaaDoor
