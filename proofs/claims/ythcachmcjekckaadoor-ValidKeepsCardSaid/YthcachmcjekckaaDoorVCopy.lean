/- Rows of words that are copied. -/
import Derived.Test.YthcachmcjekckaaDoorVLawBuilt
import Derived.Maps.AppendAt
import Derived.Laws.OwnMore
namespace Go.Proofs.YthcachmcjekckaaDoor
open Go.ChangeShapes Go.WideShapes Go.ChangeAt Go.RowKit
/-- The first m words of a row, as cells that can be appended. -/
theorem copy_news {W : World} {b o N : Nat} {L : List Nat} (h : WRow W (some ⟨b, o, none⟩) N (nth L)) (hN : N ≤ L.length) {m : Nat} (hm : m ≤ N) : ∀ j u, (wcells (L.take m))[j]? = some u → W.cell? ((⟨b, o, none⟩ : Addr).add j) = some u := by
  intro j u hu
  have hj : j < m := by
    have := (List.getElem?_eq_some_iff.1 hu).1
    simp [wcells] at this
    omega
  obtain ⟨b', o', e, hb, hc⟩ := h.some_ (by omega)
  injection e with e
  injection e with e1 e2 e3
  subst e1 e2
  rw [addr_add, hc j (by omega), ← hu]
  simp [wcells, nth, hj, show j < L.length by omega]
theorem wcells_length (L : List Nat) : (wcells L).length = L.length := by simp [wcells]
/-- What was copied: a row of its own. -/
theorem copied {W w1 : World} {c0 : Obj} {b : Nat} (hb : b = W.heap.size) {v' : Value} {k : Nat} {L : List Nat} (hk : k = L.length) (hL : 1 ≤ L.length) (hown : w1.ownsRow 0 28 1 v' k (wcells L)) (hg : (W.alloc c0).grownBy w1 (some b)) (hat : v'.ownBlock = some b ∨ v'.ownBlock = some (W.alloc c0).heap.size) :
    ∃ g cap, v' = .slice (some ⟨g, 0, none⟩) L.length cap ∧ W.heap.size ≤ g ∧ WRw L g cap w1 ∧ Below W.heap.size W w1 := by
  subst hb hk
  obtain ⟨n, hn⟩ : ∃ n, L.length = n + 1 := ⟨L.length - 1, by omega⟩
  have hown' := hown
  rw [hn] at hown'
  obtain ⟨g, cap, rfl⟩ := ownsRow_succ hown'
  refine ⟨g, cap, by rw [hn], ?_, by unfold WRw; rw [hn] at hown ⊢; exact hown, ?_⟩
  · rcases hat with e | e
    · have e' : g = W.heap.size := Option.some.inj e; omega
    · have e' : g = (W.alloc c0).heap.size := Option.some.inj e
      rw [e']; simp
  · refine ⟨hg.os, hg.tape, hg.output, Nat.le_trans (by simp) hg.size, fun i hi => ?_⟩
    rw [hg.block i (by simp; omega) (fun e => by have e' := Option.some.inj e; omega)]
    exact (show Below W.heap.size W (W.alloc c0) from ((Below.refl _ _).alloc (Nat.le_refl _) _)).block i hi
theorem SmL.take {L : List Nat} (h : SmL L) (m : Nat) : SmL (L.take m) := fun x hx => h x (List.mem_of_mem_take hx)
theorem WRw.row {L : List Nat} {g cap : Nat} {W : World} (h : WRw L g cap W) (hL : SmL L) : WRow W (some ⟨g, 0, none⟩) L.length (nth L) := (MRow.of_wrw (B := 0) h hL (Nat.zero_le _)).row
theorem WRw.nth_cell {L : List Nat} {g cap : Nat} {W : World} (h : WRw L g cap W) {p : Nat} (hp : p < L.length) : W.cell? ⟨g, p, none⟩ = some (.int .u64 ((nth L p : Nat) : Int)) := by
  rw [h.cell hp]
  simp [nth, hp]
theorem nth_take {L : List Nat} {m j : Nat} (h : j < m) : nth (L.take m) j = nth L j := by
  simp [nth, List.getD, List.getElem?_take_of_lt h]
theorem nth_set_ne {L : List Nat} {p j x : Nat} (h : ¬ p = j) : nth (L.set p x) j = nth L j := by
  simp [nth, List.getD, List.getElem?_set_ne h]
theorem nth_set_eq {L : List Nat} {p x : Nat} (h : p < L.length) : nth (L.set p x) p = x := by
  simp [nth, List.getD, h]
/-- One word more. -/
theorem copied2 {W w3 w5 : World} {o : Obj} {L : List Nat} {g cap wd n : Nat} {v : Value} (hB : Below W.heap.size W w3) (hg : W.heap.size ≤ g) (hn : n = L.length) (hW : WRw L g cap w3) (hown : w5.ownsRow 0 28 1 v (n + 1) (wcells L ++ [.int .u64 (wd : Nat)])) (hgrow : (w3.alloc o).grownBy w5 (some g)) :
    ∃ g2 cap2, v = .slice (some ⟨g2, 0, none⟩) (n + 1) cap2 ∧ WRw (L ++ [wd]) g2 cap2 w5 ∧ Below W.heap.size W w5 := by
  subst hn
  obtain ⟨g2, cap2, rfl⟩ := ownsRow_succ hown
  refine ⟨g2, cap2, rfl, ?_, ?_⟩
  · unfold WRw
    have e : wcells (L ++ [wd]) = wcells L ++ [.int .u64 (wd : Nat)] := by simp [wcells]
    rw [e, List.length_append]
    exact hown
  · have h1 : Below W.heap.size W (w3.alloc o) := hB.alloc hB.size _
    refine ⟨hgrow.os.trans h1.os, hgrow.tape.trans h1.tape, hgrow.output.trans h1.output, Nat.le_trans h1.size hgrow.size, fun i hi => ?_⟩
    rw [hgrow.block i (Nat.lt_of_lt_of_le hi h1.size) (fun e => by have e' := Option.some.inj e; omega)]
    exact h1.block i hi
/-- The upper half of a word is kept, and the lower one put. -/
theorem and_hi (X : Nat) (hX : X < 18446744073709551616) : X &&& 18446744069414584320 = X / 4294967296 * 4294967296 := by
  have e : (18446744069414584320 : Nat) = (2 ^ 32 - 1) <<< 32 := rfl
  have e2 : X / 4294967296 * 4294967296 = (X >>> 32) <<< 32 := by rw [Nat.shiftLeft_eq, Nat.shiftRight_eq_div_pow]
  rw [e, e2]
  apply Nat.eq_of_testBit_eq
  intro i
  rw [Nat.testBit_and, Nat.testBit_shiftLeft, Nat.testBit_shiftLeft, Nat.testBit_shiftRight, Nat.testBit_two_pow_sub_one]
  by_cases h : 32 ≤ i
  · rw [show 32 + (i - 32) = i by omega]
    by_cases h2 : i < 64
    · simp [h, show i - 32 < 32 by omega]
    · have : X.testBit i = false := Nat.testBit_lt_two_pow (Nat.lt_of_lt_of_le hX (Nat.pow_le_pow_right (n := 2) (by omega) (show 64 ≤ i by omega)))
      simp [this]
  · simp [h]
theorem lo_cut (X : Nat) (hX : X < 18446744073709551616) : bits .andNot .u64 (X : Int) 4294967295 = ((X / 4294967296 * 4294967296 : Nat) : Int) := by
  have := u64_andNot_nat X 4294967295 hX (by omega)
  rw [← and_hi X hX]
  exact this
theorem lo_put (H N : Nat) (hH : H < 4294967296) (hN : N < 4294967296) : bits .or .u64 ((H * 4294967296 : Nat) : Int) (N : Int) = ((H * 4294967296 + N : Nat) : Int) := by
  rw [u64_or_nat _ _ (by omega) (by omega), nat_join 32 _ _ (Nat.mul_mod_left _ _) (by omega)]

end Go.Proofs.YthcachmcjekckaaDoor
