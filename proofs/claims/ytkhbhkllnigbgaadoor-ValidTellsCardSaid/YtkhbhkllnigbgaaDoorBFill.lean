/- The document's fill: mathematics, and what holds in memory. -/
import Derived.Test.YtkhbhkllnigbgaaDoorBAt
import Derived.Test.YtkhbhkllnigbgaaDoorBCount
import Derived.Test.YtkhbhkllnigbgaaDoorBZeros
import Derived.Test.YtkhbhkllnigbgaaDoorBRWord
import Derived.Laws.OwnMore
namespace Go.Proofs.YtkhbhkllnigbgaaDoor
open Go.ChangeShapes Go.WideShapes Go.ChangeAt Go.RowKit
/-- The words when i fields of x are filled in: P ahead of its own words, Q behind them. -/
def fillR (s : Sch) (n t : Nat) (x : Tr) (P Q : List Nat) (i : Nat) : List Nat := P ++ ownWs (piece s n) (fdsX s t x i) (x.kl - i + Q.length) ++ (List.replicate (x.kl - i) 0 ++ Q) ++ refs (piece s n) (fdsX s t x i)
theorem fillR_len (s : Sch) (n t : Nat) (x : Tr) (P Q : List Nat) {i : Nat} (hi : i ≤ x.kl) : (fillR s n t x P Q i).length = P.length + x.kl + Q.length + refsN s n t x i := by
  unfold fillR refsN
  simp only [List.length_append, ownWs_len, fdsX_len, List.length_replicate]
  omega
theorem fillR_zero (s : Sch) (n t : Nat) (x : Tr) (P Q : List Nat) : fillR s n t x P Q 0 = P ++ (List.replicate x.kl 0 ++ Q) := by simp [fillR, fdsX, ownWs, refs]
theorem fillR_split (s : Sch) (n t : Nat) (x : Tr) (P Q : List Nat) {i : Nat} (hi : i < x.kl) : fillR s n t x P Q i = (P ++ ownWs (piece s n) (fdsX s t x i) (x.kl - i + Q.length)) ++ 0 :: (List.replicate (x.kl - i - 1) 0 ++ Q ++ refs (piece s n) (fdsX s t x i)) := by
  unfold fillR
  rw [show x.kl - i = (x.kl - i - 1) + 1 by omega, List.replicate_succ]
  simp
theorem fillR_succ (s : Sch) (n t : Nat) (x : Tr) (P Q : List Nat) {i : Nat} (hi : i < x.kl) :
    fillR s n t x P Q (i + 1) = (fillR s n t x P Q i).set (P.length + i) (ownWd ⟨s.k t i, (s.t t i).toNat, x.kf i⟩ (x.kl - i + Q.length + refsN s n t x i)) ++ fpc (piece s n) ⟨s.k t i, (s.t t i).toNat, x.kf i⟩ := by
  rw [fillR_split s n t x P Q hi]
  have hp : (P ++ ownWs (piece s n) (fdsX s t x i) (x.kl - i + Q.length)).length = P.length + i := by rw [List.length_append, ownWs_len, fdsX_len]
  rw [← hp, List.set_append_right _ _ (Nat.le_refl _), Nat.sub_self, List.set_cons_zero]
  unfold fillR
  rw [fdsX_succ, ownWs_append, refs_append]
  have e1 : x.kl - (i + 1) = x.kl - i - 1 := by omega
  rw [e1]
  have e2 : ([⟨s.k t i, (s.t t i).toNat, x.kf i⟩] : List Fd).length + (x.kl - i - 1 + Q.length) = x.kl - i + Q.length := by simp; omega
  rw [e2]
  have e3 : ownWs (piece s n) [⟨s.k t i, (s.t t i).toNat, x.kf i⟩] (x.kl - i - 1 + Q.length + (refs (piece s n) (fdsX s t x i)).length) = [ownWd ⟨s.k t i, (s.t t i).toNat, x.kf i⟩ (x.kl - i + Q.length + refsN s n t x i)] := by
    simp only [ownWs, List.length_nil, refsN]
    rw [show 0 + 1 + (x.kl - i - 1 + Q.length + (refs (piece s n) (fdsX s t x i)).length) = x.kl - i + Q.length + (refs (piece s n) (fdsX s t x i)).length by omega]
  rw [e3]
  simp [refs]
/-- Nothing is laid for a field. -/
theorem fillR_skip (s : Sch) (n t : Nat) (x : Tr) (P Q : List Nat) {i : Nat} (hi : i < x.kl) (h0 : ownWd ⟨s.k t i, (s.t t i).toNat, x.kf i⟩ (x.kl - i + Q.length + refsN s n t x i) = 0) (hf : fpc (piece s n) ⟨s.k t i, (s.t t i).toNat, x.kf i⟩ = []) : fillR s n t x P Q (i + 1) = fillR s n t x P Q i := by
  rw [fillR_succ s n t x P Q hi, h0, hf, List.append_nil, fillR_split s n t x P Q hi]
  have hp : (P ++ ownWs (piece s n) (fdsX s t x i) (x.kl - i + Q.length)).length = P.length + i := by rw [List.length_append, ownWs_len, fdsX_len]
  rw [← hp, List.set_append_right _ _ (Nat.le_refl _), Nat.sub_self, List.set_cons_zero]
/-- The words when j of K structs are filled in, behind B. -/
def kidR (s : Sch) (m t : Nat) (kf : Nat → Tr) (B : List Nat) (K F j : Nat) : List Nat := B ++ ownWs (piece s m) (fdsK s t kf j) ((K - j) * F) ++ List.replicate ((K - j) * F) 0 ++ refs (piece s m) (fdsK s t kf j)
theorem kidR_zero (s : Sch) (m t : Nat) (kf : Nat → Tr) (B : List Nat) (K F : Nat) : kidR s m t kf B K F 0 = B ++ List.replicate (F * K) 0 := by simp [kidR, fdsK, ownWs, refs, Nat.mul_comm]
theorem kidR_all (s : Sch) (m t : Nat) (kf : Nat → Tr) (B : List Nat) (K F : Nat) : kidR s m t kf B K F K = B ++ piece s (m + 1) t K kf := by simp [kidR, piece]
theorem kidR_split (s : Sch) (m t : Nat) (kf : Nat → Tr) (B : List Nat) {K F j : Nat} (hF : (kf j).kl = F) (hj : j < K) : kidR s m t kf B K F j = (B ++ ownWs (piece s m) (fdsK s t kf j) ((K - j) * F)) ++ (List.replicate (kf j).kl 0 ++ (List.replicate ((K - j - 1) * F) 0 ++ refs (piece s m) (fdsK s t kf j))) := by
  unfold kidR
  have e : (K - j) * F = F + (K - j - 1) * F := by
    rw [show K - j = (K - j - 1) + 1 by omega, Nat.succ_mul]
    simp
    omega
  have h : List.replicate ((K - j) * F) 0 = List.replicate F 0 ++ List.replicate ((K - j - 1) * F) 0 := by rw [e, List.replicate_append_replicate]
  rw [hF, h]
  simp only [List.append_assoc]
theorem kidR_succ (s : Sch) (m t : Nat) (kf : Nat → Tr) (B : List Nat) {K F j : Nat} (hF : (kf j).kl = F) (hj : j < K) : fillR s m t (kf j) (B ++ ownWs (piece s m) (fdsK s t kf j) ((K - j) * F)) (List.replicate ((K - j - 1) * F) 0 ++ refs (piece s m) (fdsK s t kf j)) (kf j).kl = kidR s m t kf B K F (j + 1) := by
  unfold fillR kidR
  rw [fdsK_succ, ownWs_append, refs_append, Nat.sub_self, fdsX_len, hF]
  have e : (K - j) * F = F + (K - (j + 1)) * F := by
    rw [show K - j = (K - (j + 1)) + 1 by omega, Nat.succ_mul]
    omega
  rw [← e]
  simp only [List.length_append, List.length_replicate, Nat.zero_add, List.replicate_zero, List.nil_append, show K - j - 1 = K - (j + 1) by omega]
  simp
theorem kidR_len (s : Sch) (m t : Nat) (kf : Nat → Tr) (B : List Nat) {K F j : Nat} (hF : ∀ j, j < K → (kf j).kl = F) (hj : j ≤ K) : (kidR s m t kf B K F j).length = B.length + K * F + refsK s m t kf j := by
  unfold kidR refsK
  have h := fdsK_len (s := s) (t := t) (kf := kf) (F := F) (K := j) (fun i hi => hF i (by omega))
  have e : j * F + (K - j) * F = K * F := by rw [← Nat.add_mul]; congr 1; omega
  simp only [List.length_append, ownWs_len, List.length_replicate, h]
  omega

/-- A row of words that the call owns. -/
def WRw (L : List Nat) (g cap : Nat) (W : World) : Prop := W.ownsRow 0 26 1 (.slice (some ⟨g, 0, none⟩) L.length cap) L.length (wcells L)
theorem WRw.lt {L : List Nat} {g cap : Nat} {W : World} (h : WRw L g cap W) : g < W.heap.size := (World.ownsRow.lt h g rfl).2
theorem WRw.below {L : List Nat} {g cap : Nat} {W W' : World} (h : WRw L g cap W) (hb : Below W.heap.size W W') : WRw L g cap W' := own_of h fun k hk => hb.block k (by have e : g = k := Option.some.inj hk; have := h.lt; omega)
theorem WRw.put {L : List Nat} {g cap : Nat} {W : World} (h : WRw L g cap W) (p x : Nat) : WRw (L.set p x) g cap (W.setCell ⟨g, p, none⟩ (.int .u64 (x : Nat))) := by
  have e : wcells (L.set p x) = (wcells L).set p (.int .u64 (x : Nat)) := by simp [wcells, List.map_set]
  unfold WRw
  rw [List.length_set, e]
  exact (World.ownsRow.stored h p _).1
theorem WRw.cell {L : List Nat} {g cap : Nat} {W : World} (h : WRw L g cap W) {p : Nat} (hp : p < L.length) : W.cell? ⟨g, p, none⟩ = some (.int .u64 ((L[p] : Nat) : Int)) := by
  rw [World.ownsRow.cellAt h p (by omega)]
  simp [wcells, hp]
theorem WRw.frozen {L : List Nat} {g cap : Nat} {W : World} (h : WRw L g cap W) (p : Nat) : W.frozen? ⟨g, p, none⟩ = false := World.ownsRow.frozenAt h p
/-- While words are filled in: what was there at Ws stays; of what was there at W, all but the row at g0. -/
structure FI (Ws W : World) (g0 : Nat) (L : List Nat) (g cap : Nat) (W' : World) : Prop where
  own : WRw L g cap W'
  wb : Below Ws.heap.size Ws W'
  at_ : g = g0 ∨ W.heap.size ≤ g
  lg : Ws.heap.size ≤ g
  fr : ButP (fun b => b = g0) W W'
theorem FI.below {Ws W : World} {g0 : Nat} {L : List Nat} {g cap : Nat} {W' W2 : World} (h : FI Ws W g0 L g cap W') (hb : Below W'.heap.size W' W2) : FI Ws W g0 L g cap W2 := ⟨h.own.below hb, Below.step h.wb hb h.wb.size, h.at_, h.lg, ButP.trans h.fr (ButP.of_below hb)⟩
theorem FI.step {Ws W : World} {g0 : Nat} {L L2 : List Nat} {g cap g2 cap2 : Nat} {W' W2 : World} (h : FI Ws W g0 L g cap W') (k : FI Ws W' g L2 g2 cap2 W2) : FI Ws W g0 L2 g2 cap2 W2 := by
  have h1 := h.fr.size
  refine ⟨k.own, k.wb, ?_, k.lg, ⟨k.fr.os.trans h.fr.os, k.fr.tape.trans h.fr.tape, k.fr.output.trans h.fr.output, Nat.le_trans h1 k.fr.size, fun b hb hne => ?_⟩⟩
  · rcases k.at_ with e | e
    · rw [e]; exact h.at_
    · exact .inr (by omega)
  · rw [k.fr.block b (by omega) (fun e => by rcases h.at_ with e2 | e2 <;> omega)]
    exact h.fr.block b hb hne
theorem FI.here {Ws W : World} {g0 : Nat} {L : List Nat} {g cap : Nat} {W' : World} (h : FI Ws W g0 L g cap W') : FI Ws W' g L g cap W' := ⟨h.own, h.wb, .inl rfl, h.lg, ButP.refl _ _⟩
theorem FI.put {Ws W : World} {g0 : Nat} {L : List Nat} {g cap : Nat} {W' : World} (h : FI Ws W g0 L g cap W') (p x : Nat) : FI Ws W' g (L.set p x) g cap (W'.setCell ⟨g, p, none⟩ (.int .u64 (x : Nat))) := ⟨h.own.put p x, h.wb.setCell h.lg _, .inl rfl, h.lg, ButP.set (Q := fun b => b = g) (ButP.refl _ _) (p := ⟨g, p, none⟩) rfl _⟩
theorem FI.grow {Ws W : World} {g0 : Nat} {L M : List Nat} {g cap : Nat} {W' : World} (h : FI Ws W g0 L g cap W') {g2 cap2 n : Nat} {w1 : World} (hn : n = (L ++ M).length) (ho : w1.ownsRow 0 26 1 (.slice (some ⟨g2, 0, none⟩) n cap2) n (wcells L ++ wcells M)) (hg : W'.grownBy w1 (some g)) (hat : some g = some g2 ∨ g2 = W'.heap.size) : FI Ws W' g (L ++ M) g2 cap2 w1 := by
  subst hn
  have hb : ∀ k, k < W'.heap.size → k ≠ g → w1.heap[k]? = W'.heap[k]? := fun k hk hne => hg.block k hk (fun e => hne (Option.some.inj e))
  have hl := h.lg
  have hs := h.wb.size
  refine ⟨?_, Below.trans h.wb ⟨hg.os, hg.tape, hg.output, hg.size, fun k hk => hb k (by omega) (by omega)⟩, ?_, ?_, ⟨hg.os, hg.tape, hg.output, hg.size, fun k hk hne => hb k hk hne⟩⟩
  · unfold WRw
    rw [show wcells (L ++ M) = wcells L ++ wcells M by simp [wcells]]
    exact ho
  · rcases hat with e | e
    · exact .inl (Option.some.inj e).symm
    · exact .inr (by omega)
  · rcases hat with e | e
    · have := Option.some.inj e; omega
    · omega

end Go.Proofs.YtkhbhkllnigbgaaDoor
