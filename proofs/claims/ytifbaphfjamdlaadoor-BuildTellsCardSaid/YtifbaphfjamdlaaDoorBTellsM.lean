/- A kid's number is changed, in a row of its own. -/
import Derived.Test.YtifbaphfjamdlaaDoorTKids
import Derived.Test.YtifbaphfjamdlaaDoorTMade2
import Derived.Laws.OwnMore
namespace Go.Proofs.YtifbaphfjamdlaaDoor
open Go.ChangeShapes Go.WideShapes Go.ChangeAt Go.RowKit
theorem TAt.kidsF {W : World} {P : Nat → Prop} {x : Tr} {An Ak : Option Addr} (h : TAt W P x An Ak) (h0 : 0 < x.kl) : ∃ (b off : Nat) (a1 : Nat → Option Addr) (k1 : Nat → Nat) (a2 : Nat → Option Addr) (k2 : Nat → Nat), Ak = some ⟨b, off, none⟩ ∧ P b ∧ b < W.heap.size ∧ ∀ j, j < x.kl → Cell4 W b (off + j * 4) (x.kf j) (a1 j) (k1 j) (a2 j) (k2 j) ∧ TAt W P (x.kf j) (a1 j) (a2 j) := by
  obtain ⟨b, off, hA, hP, hlt, hc⟩ := h.kids h0
  have hex : ∀ j, ∃ o : (Option Addr × Nat) × (Option Addr × Nat), j < x.kl → Cell4 W b (off + j * 4) (x.kf j) o.1.1 o.1.2 o.2.1 o.2.2 ∧ TAt W P (x.kf j) o.1.1 o.2.1 := fun j => by
    by_cases hj : j < x.kl
    · obtain ⟨A1, c1, A2, c2, h1, h2⟩ := hc j hj
      exact ⟨((A1, c1), (A2, c2)), fun _ => ⟨h1, h2⟩⟩
    · exact ⟨((none, 0), (none, 0)), fun h => absurd h hj⟩
  obtain ⟨o, ho⟩ := Classical.axiomOfChoice hex
  exact ⟨b, off, fun j => (o j).1.1, fun j => (o j).1.2, fun j => (o j).2.1, fun j => (o j).2.2, hA, hP, hlt, ho⟩
theorem cells4_cell {W : World} {b off : Nat} {f : Nat → Tr} {a1 : Nat → Option Addr} {k1 : Nat → Nat} {a2 : Nat → Option Addr} {k2 : Nat → Nat} {m : Nat} (h : ∀ j, j < m → Cell4 W b (off + j * 4) (f j) (a1 j) (k1 j) (a2 j) (k2 j)) : ∀ i u, (cells4 f a1 k1 a2 k2 m)[i]? = some u → W.cell? ((⟨b, off, none⟩ : Addr).add i) = some u := fun i u hu => by
  have hl := cells4_length f a1 k1 a2 k2 m
  have hi : i < m * 4 := by
    rw [← hl]
    exact (List.getElem?_eq_some_iff.1 hu).1
  obtain ⟨e0, e1, e2, e3⟩ := cells4_get f a1 k1 a2 k2 m (i / 4) (by omega)
  obtain ⟨c0, c1, c2, c3⟩ := h (i / 4) (by omega)
  rw [addr_add]
  obtain e | e | e | e : i = i / 4 * 4 ∨ i = i / 4 * 4 + 1 ∨ i = i / 4 * 4 + 2 ∨ i = i / 4 * 4 + 3 := by omega
  · rw [e, e0] at hu; rw [show off + i = off + i / 4 * 4 by omega, c0, hu]
  · rw [e, e1] at hu; rw [show off + i = off + i / 4 * 4 + 1 by omega, c1, hu]
  · rw [e, e2] at hu; rw [show off + i = off + i / 4 * 4 + 2 by omega, c2, hu]
  · rw [e, e3] at hu; rw [show off + i = off + i / 4 * 4 + 3 by omega, c3, hu]
theorem cells4_one {f : Nat → Tr} {a1 : Nat → Option Addr} {k1 : Nat → Nat} {a2 : Nat → Option Addr} {k2 : Nat → Nat} (m : Nat) : ∀ u ∈ cells4 f a1 k1 a2 k2 m, u.oneCell' = true := by
  induction m with
  | zero => intro u hu; cases hu
  | succ m ih =>
    intro u hu
    rw [cells4, List.mem_append] at hu
    rcases hu with hu | hu
    · exact ih u hu
    · simp only [List.mem_cons, List.not_mem_nil, or_false] at hu
      rcases hu with rfl | rfl | rfl | rfl <;> rfl
theorem own_lit (w : World) (base q : Nat) (hb : base ≤ w.heap.size) (hq : q = w.heap.size) : (w.alloc (.cells #[] 32)).ownsRow base 32 4 (.slice (some ⟨q, 0, none⟩) 0 0) 0 [] := by
  subst hq
  exact World.ownsRow_lit w #[] 0 hb (Nat.zero_le _) rfl
theorem own_slice {w : World} {base K : Nat} {v : Value} {xs : List Value} (h : w.ownsRow base 32 4 v K xs) (hK : 0 < K) : ∃ g cap, v = .slice (some ⟨g, 0, none⟩) K cap ∧ base ≤ g := by
  rcases h.2 with ⟨_, e⟩ | ⟨g, cap, cur, e, h1, _⟩
  · omega
  · exact ⟨g, cap, e, h1⟩
theorem u64_nat (z : Int) : ∃ N : Nat, N < 18446744073709551616 ∧ IntKind.u64.wrap z = (N : Int) := ⟨(z % 18446744073709551616).toNat, by omega, by show z % 18446744073709551616 = _; omega⟩
def numT (y : Tr) (N : Nat) : Tr := .mk N y.bs y.nl y.nf y.kl y.kf
def numAt (x : Tr) (i N : Nat) : Tr := .mk x.num x.bs x.nl x.nf x.kl (fun j => if j = i then numT (x.kf j) N else x.kf j)
theorem cntT_numT (y : Tr) (N : Nat) : cntT (numT y N) = cntT y := by rw [cntT_eq, cntT_eq y]; rfl
theorem Sm.numT {n : Nat} {y : Tr} (h : Sm n y) {N : Nat} (hN : N < 18446744073709551616) : Sm n (numT y N) := by
  obtain ⟨m, rfl⟩ := h.pos
  exact ⟨hN, h.2.1, h.2.2.1, ⟨h.2.2.2.1.1, by rw [cntT_numT]; exact h.2.2.2.1.2⟩, h.2.2.2.2.1, h.2.2.2.2.2⟩
theorem Sm.numAt {n : Nat} {x : Tr} (h : Sm n x) (i : Nat) {N : Nat} (hN : N < 18446744073709551616) : Sm n (numAt x i N) := by
  obtain ⟨m, rfl⟩ := h.pos
  refine ⟨h.1, h.2.1, h.2.2.1, ⟨h.2.2.2.1.1, ?_⟩, h.2.2.2.2.1, fun j hj => ?_⟩
  · have e : cntT (Go.Proofs.YtifbaphfjamdlaaDoor.numAt x i N) = cntT x := by
      rw [cntT_eq, cntT_eq x]
      show 1 + sumN (fun j => cntT (if j = i then Go.Proofs.YtifbaphfjamdlaaDoor.numT (x.kf j) N else x.kf j)) x.kl = _
      congr 1
      refine sumN_congr fun j _ => ?_
      split
      · exact cntT_numT _ _
      · rfl
    rw [e]; exact h.2.2.2.1.2
  · show Sm m (if j = i then _ else _)
    split
    · exact (h.kid hj).numT hN
    · exact h.kid hj
theorem tells_tree {W : World} {base g cap K i N : Nat} {x : Tr} {An : Option Addr} {a1 : Nat → Option Addr} {k1 : Nat → Nat} {a2 : Nat → Option Addr} {k2 : Nat → Nat} (hK : x.kl = K) (h : W.ownsRow base 32 4 (.slice (some ⟨g, 0, none⟩) K cap) K (cells4 x.kf a1 k1 a2 k2 K)) (hk : ∀ j, j < K → TAt W (fun b => b ≠ g) (x.kf j) (a1 j) (a2 j)) (hn : NRow W (fun b => b ≠ g) An x.nl x.nf) :
    TAt (W.setCell ⟨g, i * 4, none⟩ (.int .u64 (N : Nat))) (fun _ => True) (numAt x i N) An (some ⟨g, 0, none⟩) := by
  have hbl : ∀ b, b ≠ g → (W.setCell ⟨g, i * 4, none⟩ (.int .u64 (N : Nat))).heap[b]? = W.heap[b]? := fun b hne => Below.heap_setCell W ⟨g, i * 4, none⟩ _ b hne
  have hsz : W.heap.size ≤ (W.setCell ⟨g, i * 4, none⟩ (.int .u64 (N : Nat))).heap.size := ((Below.refl 0 W).setCell (Nat.zero_le _) _).size
  have ho := (World.ownsRow.stored h (i * 4) (.int .u64 (N : Nat))).1
  have hgl := (World.ownsRow.lt ho g rfl).2
  have hl := cells4_length x.kf a1 k1 a2 k2 K
  refine ⟨⟨hn.1.of_block (fun h0 a e _ => hbl _ (hn.2 h0 a e)) hsz, fun _ _ _ => trivial⟩, fun h0 => ⟨g, 0, rfl, trivial, hgl, fun j hj => ?_⟩⟩
  rw [hK] at hj
  obtain ⟨e0, e1, e2, e3⟩ := cells4_get x.kf a1 k1 a2 k2 K j hj
  have c : ∀ p, p < K * 4 → (W.setCell ⟨g, i * 4, none⟩ (.int .u64 (N : Nat))).cell? ⟨g, p, none⟩ = ((cells4 x.kf a1 k1 a2 k2 K).set (i * 4) (.int .u64 (N : Nat)))[p]? := fun p hp => World.ownsRow.cellAt ho p hp
  have ht := (hk j hj).keep (W' := W.setCell ⟨g, i * 4, none⟩ (.int .u64 (N : Nat))) (Q := fun _ => True) (fun b hb _ => hbl b hb) (fun _ _ _ => trivial) hsz
  have r1 := (c (j * 4 + 1) (by omega)).trans ((List.getElem?_set_ne (by omega)).trans e1)
  have r2 := (c (j * 4 + 2) (by omega)).trans ((List.getElem?_set_ne (by omega)).trans e2)
  have r3 := (c (j * 4 + 3) (by omega)).trans ((List.getElem?_set_ne (by omega)).trans e3)
  rw [Nat.zero_add]
  by_cases e : j = i
  · have r0 : (W.setCell ⟨g, i * 4, none⟩ (.int .u64 (N : Nat))).cell? ⟨g, j * 4, none⟩ = some (.int .u64 (N : Nat)) := by
      refine (c (j * 4) (by omega)).trans ?_
      rw [e]
      exact List.getElem?_set_self (by rw [hl]; omega)
    refine ⟨a1 j, k1 j, a2 j, k2 j, ?_, ?_⟩
    · show Cell4 _ g (j * 4) (if j = i then _ else _) _ _ _ _
      rw [if_pos e]
      exact ⟨r0, r1, r2, r3⟩
    · show TAt _ _ (if j = i then _ else _) _ _
      rw [if_pos e]
      exact (TAt_eq _ _ _ _ _).1 ht
  · have r0 := (c (j * 4) (by omega)).trans ((List.getElem?_set_ne (by omega)).trans e0)
    refine ⟨a1 j, k1 j, a2 j, k2 j, ?_, ?_⟩
    · show Cell4 _ g (j * 4) (if j = i then _ else _) _ _ _ _
      rw [if_neg e]
      exact ⟨r0, r1, r2, r3⟩
    · show TAt _ _ (if j = i then _ else _) _ _
      rw [if_neg e]
      exact ht
theorem tree_row (w : World) (y : Tr) (A1 : Option Addr) (k1 : Nat) (A2 : Option Addr) (k2 : Nat) : (w.alloc (.cells #[.int .u64 ((y).num : Nat), .string (y).bs, .slice A1 (y).nl k1, .slice A2 (y).kl k2] 32)).rowIs w.heap.size 32 4 (boxT y A1 k1 A2 k2) := World.rowIs_alloc w #[.int .u64 ((y).num : Nat), .string (y).bs, .slice A1 (y).nl k1, .slice A2 (y).kl k2] 32 _ (by intro j hj; match j, hj with | 0, _ => rfl | 1, _ => rfl | 2, _ => rfl | 3, _ => rfl)
/-- A struct's box, its copy's box, and the copy's kids. -/
structure TB (w2 : World) (x : Tr) (An : Option Addr) (cn : Nat) (Ak : Option Addr) (ck : Nat) (a1 : Nat → Option Addr) (k1 : Nat → Nat) (a2 : Nat → Option Addr) (k2 : Nat → Nat) (g cap : Nat) (W : World) : Prop where
  be : Below w2.heap.size w2 W
  b1 : Cell4 W w2.heap.size 0 x An cn Ak ck
  b2 : Cell4 W (w2.heap.size + 1) 0 x An cn (some ⟨g, 0, none⟩) cap
  own : W.ownsRow (w2.heap.size + 2) 32 4 (.slice (some ⟨g, 0, none⟩) x.kl cap) x.kl (cells4 x.kf a1 k1 a2 k2 x.kl)
  kids : ∀ j, j < x.kl → TAt W (fun b => b ≠ g) (x.kf j) (a1 j) (a2 j)
  nums : NRow W (fun b => b ≠ g) An x.nl x.nf
  lg : w2.heap.size + 2 ≤ g
theorem tells_copy {w2 w4 : World} {x : Tr} {An : Option Addr} {cn : Nat} {Ak : Option Addr} {ck : Nat} {a1 : Nat → Option Addr} {k1 : Nat → Nat} {a2 : Nat → Option Addr} {k2 : Nat → Nat} {g cap q : Nat} (hT : TAt w2 (· < w2.heap.size) x An Ak) (hk : ∀ j, j < x.kl → TAt w2 (· < w2.heap.size) (x.kf j) (a1 j) (a2 j)) {v' : Value} (hv : v' = .slice (some ⟨g, 0, none⟩) x.kl cap)
    (ho : w4.ownsRow (w2.heap.size + 2) 32 4 v' (0 + x.kl) ([] ++ cells4 x.kf a1 k1 a2 k2 x.kl)) (hg : (((w2.alloc (.cells #[.int .u64 ((x).num : Nat), .string (x).bs, .slice An (x).nl cn, .slice Ak (x).kl ck] 32)).alloc (.cells #[.int .u64 ((x).num : Nat), .string (x).bs, .slice An (x).nl cn, .slice Ak (x).kl ck] 32)).alloc (.cells #[] 32)).grownBy w4 (some q)) (hq : w2.heap.size + 2 ≤ q) (hgl : w2.heap.size + 2 ≤ g) :
    w4.cell? ⟨w2.heap.size + 1, 3, none⟩ = some (.slice Ak x.kl ck) ∧ w4.frozen? ⟨w2.heap.size + 1, 3, none⟩ = false ∧ TB w2 x An cn Ak ck a1 k1 a2 k2 g cap (w4.setCell ⟨w2.heap.size + 1, 3, none⟩ (.slice (some ⟨g, 0, none⟩) x.kl cap)) := by
  subst hv
  rw [Nat.zero_add, List.nil_append] at ho
  have hb3 : Below w2.heap.size w2 (((w2.alloc (.cells #[.int .u64 ((x).num : Nat), .string (x).bs, .slice An (x).nl cn, .slice Ak (x).kl ck] 32)).alloc (.cells #[.int .u64 ((x).num : Nat), .string (x).bs, .slice An (x).nl cn, .slice Ak (x).kl ck] 32)).alloc (.cells #[] 32)) := by (repeat (first | with_reducible exact Below.refl _ _ | with_reducible refine Below.drew ?_ | (with_reducible refine Below.setCell ?_ ?side _; case side => exact (by first | (simp; done) | (simp; omega) | omega)) | (with_reducible refine Below.alloc ?_ ?side _; case side => exact (by first | (simp; done) | (simp; omega) | omega))))
  have hblk : ∀ b, b < w2.heap.size + 2 → w4.heap[b]? = (((w2.alloc (.cells #[.int .u64 ((x).num : Nat), .string (x).bs, .slice An (x).nl cn, .slice Ak (x).kl ck] 32)).alloc (.cells #[.int .u64 ((x).num : Nat), .string (x).bs, .slice An (x).nl cn, .slice Ak (x).kl ck] 32)).alloc (.cells #[] 32)).heap[b]? := fun b hb => hg.block b (by simp; omega) (fun e => by have := Option.some.inj e; omega)
  have hsz := hg.size
  simp only [World.size_alloc] at hsz
  have hb4 : Below w2.heap.size w2 w4 := ⟨hg.os.trans hb3.os, hg.tape.trans hb3.tape, hg.output.trans hb3.output, by omega, fun b hb => (hblk b (by omega)).trans (hb3.block b hb)⟩
  have r1 := (((tree_row w2 x An cn Ak ck).alloc (.cells #[.int .u64 ((x).num : Nat), .string (x).bs, .slice An (x).nl cn, .slice Ak (x).kl ck] 32)).alloc (.cells #[] 32)).of_block (hblk _ (by omega))
  have r2 := ((tree_row (w2.alloc (.cells #[.int .u64 ((x).num : Nat), .string (x).bs, .slice An (x).nl cn, .slice Ak (x).kl ck] 32)) x An cn Ak ck).alloc (.cells #[] 32))
  simp only [World.size_alloc] at r2
  have r2 := r2.of_block (hblk _ (by omega))
  have hbW : Below w2.heap.size w2 (w4.setCell ⟨w2.heap.size + 1, 3, none⟩ (.slice (some ⟨g, 0, none⟩) x.kl cap)) := hb4.setCell (by show w2.heap.size ≤ w2.heap.size + 1; omega) _
  have s1 := r1.setOther (a := ⟨w2.heap.size + 1, 3, none⟩) (by show w2.heap.size ≠ w2.heap.size + 1; omega) (.slice (some ⟨g, 0, none⟩) x.kl cap)
  have s2 := r2.set 3 (.slice (some ⟨g, 0, none⟩) x.kl cap)
  have hN := ((TAt_eq _ _ _ _ _).1 hT).1
  refine ⟨r2.cell (i := 3) (by omega), r2.frozen 3, hbW, ⟨s1.cell (i := 0) (by omega), s1.cell (i := 1) (by omega), s1.cell (i := 2) (by omega), s1.cell (i := 3) (by omega)⟩, ⟨s2.cell (i := 0) (by omega), s2.cell (i := 1) (by omega), s2.cell (i := 2) (by omega), s2.cell (i := 3) (by omega)⟩, own_of ho (fun k hk => Below.heap_setCell w4 ⟨w2.heap.size + 1, 3, none⟩ _ k (by have e : g = k := Option.some.inj hk; show k ≠ w2.heap.size + 1; omega)), fun j hj => ((hk j hj).old hbW).mono fun b hb _ => by omega, ⟨hN.1.below hbW, fun h0 a e => by have := hN.2 h0 a e; omega⟩, hgl⟩

end Go.Proofs.YtifbaphfjamdlaaDoor
