/- Two structs of a type that have the same message are the same: mathematics. -/
import Derived.Test.YtifbaphfjamdlaaDoorBCount
namespace Go.Proofs.YtifbaphfjamdlaaDoor
open Go.RowKit
theorem leN_inj : ∀ l m : List UInt8, l.length = m.length → leN l = leN m → l = m := by
  intro l
  induction l with
  | nil => intro m h _; exact (List.length_eq_zero_iff.1 h.symm).symm
  | cons a l ih =>
    intro m h e
    cases m with
    | nil => cases h
    | cons b m =>
      have ha := a.toNat_lt
      have hb := b.toNat_lt
      simp only [leN] at e
      have e1 : a.toNat = b.toNat := by omega
      rw [ih m (by simpa using h) (by omega), UInt8.toNat_inj.1 e1]
theorem wordsB_inj {b c : ByteArray} (hs : b.size = c.size) (h : wordsB b = wordsB c) : b = c := by
  have hl : b.data.toList.length = c.data.toList.length := by simpa using hs
  have hw : ∀ i, i < cnt b.size → wordOf b i = wordOf c i := fun i hi => by
    have h1 : (wordsB b)[i]? = (wordsB c)[i]? := by rw [h]
    simp only [wordsB, List.getElem?_map, List.getElem?_range hi, List.getElem?_range (show i < cnt c.size by rw [← hs]; exact hi), Option.map_some] at h1
    exact Option.some.inj h1
  have hc : ∀ i, i < cnt b.size → (b.data.toList.drop (i * 8)).take 8 = (c.data.toList.drop (i * 8)).take 8 := fun i hi => leN_inj _ _ (by simp [List.length_take, List.length_drop]; omega) (hw i hi)
  have hb : b.data.toList = c.data.toList := by
    apply List.ext_getElem? 
    intro k
    by_cases hk : k < b.size
    · have h1 := hc (k / 8) (by unfold cnt; omega)
      have h2 : ((b.data.toList.drop (k / 8 * 8)).take 8)[k % 8]? = ((c.data.toList.drop (k / 8 * 8)).take 8)[k % 8]? := by rw [h1]
      rw [List.getElem?_take, List.getElem?_take, if_pos (by omega), if_pos (by omega), List.getElem?_drop, List.getElem?_drop, show k / 8 * 8 + k % 8 = k by omega] at h2
      exact h2
    · rw [List.getElem?_eq_none (by simp; omega), List.getElem?_eq_none (by simp; omega)]
  have hd : b.data = c.data := Array.toList_inj.1 hb
  cases b; cases c; simp only at hd; rw [hd]
theorem bs_none {b c : ByteArray} (hb : b.size = 0) (hc : c.size = 0) : b = c := wordsB_inj (by omega) (by rw [List.length_eq_zero_iff.1 (show (wordsB b).length = 0 by rw [wordsB_length, hb]; rfl), List.length_eq_zero_iff.1 (show (wordsB c).length = 0 by rw [wordsB_length, hc]; rfl)])
/-- Lists go along with each other. -/
def Par (R : Fd → Fd → Prop) : List Fd → List Fd → Prop
  | [], [] => True
  | f :: fs, g :: gs => R f g ∧ Par R fs gs
  | _, _ => False
theorem Par.len {R : Fd → Fd → Prop} : ∀ {fs gs : List Fd}, Par R fs gs → fs.length = gs.length
  | [], [], _ => rfl
  | _ :: _, _ :: _, h => by simp [Par.len h.2]
  | [], _ :: _, h => h.elim
  | _ :: _, [], h => h.elim
theorem Par.append {R : Fd → Fd → Prop} : ∀ {fs gs us vs : List Fd}, Par R fs gs → Par R us vs → Par R (fs ++ us) (gs ++ vs)
  | [], [], _, _, _, h => h
  | _ :: _, _ :: _, _, _, h, g => ⟨h.1, Par.append h.2 g⟩
  | [], _ :: _, _, _, h, _ => h.elim
  | _ :: _, [], _, _, h, _ => h.elim
theorem Par.split {R : Fd → Fd → Prop} : ∀ {fs gs us vs : List Fd}, fs.length = gs.length → Par R (fs ++ us) (gs ++ vs) → Par R fs gs ∧ Par R us vs
  | [], [], _, _, _, h => ⟨trivial, h⟩
  | _ :: _, _ :: _, _, _, hl, h => by
    have := Par.split (by simpa using hl) h.2
    exact ⟨⟨h.1, this.1⟩, this.2⟩
  | [], _ :: _, _, _, hl, _ => by cases hl
  | _ :: _, [], _, _, hl, _ => by cases hl
/-- Two fields of one kind, both right. -/
structure Twin (s : Sch) (n : Nat) (f g : Fd) : Prop where
  k : f.k = g.k
  τ : f.τ = g.τ
  lt : f.τ < s.n
  k1 : 1 ≤ f.k
  k5 : f.k ≤ 5
  of : kindOk f.k f.y
  og : kindOk g.k g.y
  cf : ∀ j, j < f.y.kl → chk s n f.τ (f.y.kf j) = 0
  cg : ∀ j, j < g.y.kl → chk s n g.τ (g.y.kf j) = 0
def SameF (f g : Fd) : Prop := sameT f.y g.y
theorem own_inj {s : Sch} {n : Nat} {f g : Fd} (h : Twin s n f g) {o p : Nat} (e : ownWd f o = ownWd g p) : f.n = g.n ∧ f.y.num = g.y.num := by
  have hf := fd_n_le h.of
  have hg := fd_n_le h.og
  by_cases h1 : f.k = 1
  · have n1 : f.n = 0 := by unfold Fd.n; rw [if_neg (by omega), if_neg (by omega), if_neg (by omega)]
    have n2 : g.n = 0 := by unfold Fd.n; rw [if_neg (by rw [← h.k]; omega), if_neg (by rw [← h.k]; omega), if_neg (by rw [← h.k]; omega)]
    unfold ownWd at e
    rw [if_neg (by omega), if_neg (by omega)] at e
    exact ⟨by omega, e⟩
  · have z1 := h.of.1 h1
    have z2 := h.og.1 (by rw [← h.k]; exact h1)
    refine ⟨?_, by omega⟩
    unfold ownWd at e
    by_cases a : 0 < f.n
    · rw [if_pos a] at e
      by_cases b : 0 < g.n
      · rw [if_pos b] at e
        unfold refN at e
        omega
      · rw [if_neg b, z2] at e
        unfold refN at e
        omega
    · rw [if_neg a, z1] at e
      by_cases b : 0 < g.n
      · rw [if_pos b] at e
        unfold refN at e
        omega
      · omega
def InjN (s : Sch) (n : Nat) : Prop := ∀ (t K : Nat) (kf kg : Nat → Tr) (R R' : List Nat), t < s.n → (∀ j, j < K → chk s n t (kf j) = 0) → (∀ j, j < K → chk s n t (kg j) = 0) → piece s n t K kf ++ R = piece s n t K kg ++ R' → (∀ j, j < K → sameT (kf j) (kg j)) ∧ R = R'
theorem fpc_inj {s : Sch} {n : Nat} (IH : InjN s n) {f g : Fd} (h : Twin s n f g) (hn : f.n = g.n) (hm : f.y.num = g.y.num) {R R' : List Nat} (e : fpc (piece s n) f ++ R = fpc (piece s n) g ++ R') : sameT f.y g.y ∧ R = R' := by
  obtain ⟨-, a2, a3, a4, -⟩ := h.of
  obtain ⟨-, b2, b3, b4, -⟩ := h.og
  rw [← h.k] at b2 b3 b4
  unfold fpc at e
  unfold Fd.n at hn
  rw [← h.k] at e hn
  rw [sameT_eq]
  by_cases k2 : f.k = 2
  · rw [if_pos k2, if_pos k2] at e hn
    obtain ⟨e1, e2⟩ := List.append_inj e (by rw [wordsB_length, wordsB_length, hn])
    have z1 := a3 (by omega); have z2 := b3 (by omega); have z3 := a4 (by omega); have z4 := b4 (by omega)
    exact ⟨⟨hm, wordsB_inj hn e1, ⟨by omega, fun i hi => by omega⟩, by omega, fun i hi => by omega⟩, e2⟩
  · rw [if_neg k2, if_neg k2] at e hn
    have z1 := a2 k2; have z2 := b2 k2
    have zb := bs_none z1 z2
    by_cases k3 : f.k = 3
    · rw [if_pos k3, if_pos k3] at e hn
      obtain ⟨e1, e2⟩ := List.append_inj e (by rw [numsL_length, numsL_length, hn])
      have z3 := a4 (by omega); have z4 := b4 (by omega)
      refine ⟨⟨hm, zb, ⟨hn, fun i hi => ?_⟩, by omega, fun i hi => by omega⟩, e2⟩
      have h1 : (numsL f.y)[i]? = (numsL g.y)[i]? := by rw [e1]
      simp only [numsL, List.getElem?_map, List.getElem?_range hi, List.getElem?_range (show i < g.y.nl by omega), Option.map_some] at h1
      exact Option.some.inj h1
    · rw [if_neg k3, if_neg k3] at e hn
      have z3 := a3 k3; have z4 := b3 k3
      by_cases k4 : f.k = 4 ∨ f.k = 5
      · rw [if_pos k4, if_pos k4] at e hn
        rw [← h.τ, ← hn] at e
        obtain ⟨e1, e2⟩ := IH f.τ f.y.kl f.y.kf g.y.kf R R' h.lt h.cf (fun j hj => by rw [h.τ]; exact h.cg j (by omega)) e
        exact ⟨⟨hm, zb, ⟨by omega, fun i hi => by omega⟩, hn, e1⟩, e2⟩
      · rw [if_neg k4, if_neg k4] at e hn
        have k1 := h.k1
        have k5 := h.k5
        have z5 := a4 (by omega); have z6 := b4 (by omega)
        exact ⟨⟨hm, zb, ⟨by omega, fun i hi => by omega⟩, by omega, fun i hi => by omega⟩, e⟩
theorem list_inj {s : Sch} {n : Nat} (IH : InjN s n) : ∀ (fs gs : List Fd) (q q' : Nat) (R R' : List Nat), Par (Twin s n) fs gs → ownWs (piece s n) fs q = ownWs (piece s n) gs q' → refs (piece s n) fs ++ R = refs (piece s n) gs ++ R' → Par SameF fs gs ∧ R = R'
  | [], [], _, _, _, _, _, _, e => ⟨trivial, by simpa [refs] using e⟩
  | f :: fs, g :: gs, q, q', R, R', h, eo, er => by
    simp only [ownWs] at eo
    injection eo with e1 e2
    obtain ⟨n1, n2⟩ := own_inj h.1 e1
    rw [refs_cons, refs_cons, List.append_assoc, List.append_assoc] at er
    obtain ⟨s1, er⟩ := fpc_inj IH h.1 n1 n2 er
    obtain ⟨s2, er⟩ := list_inj IH fs gs _ _ _ _ h.2 e2 er
    exact ⟨⟨s1, s2⟩, er⟩
  | [], _ :: _, _, _, _, _, h, _, _ => h.elim
  | _ :: _, [], _, _, _, _, h, _, _ => h.elim
theorem twinX {s : Sch} (hR : RightS s) {n t : Nat} (ht : t < s.n) {x z : Tr} (hx : chk s (n + 1) t x = 0) (hz : chk s (n + 1) t z = 0) : x.kl = z.kl ∧ ∀ i, i ≤ x.kl → Par (Twin s n) (fdsX s t x i) (fdsX s t z i) := by
  obtain ⟨e, he, xo, xk⟩ := chk_inv hx
  obtain ⟨e', he', zo, zk⟩ := chk_inv hz
  obtain rfl : n = e := by omega
  obtain rfl : n = e' := by omega
  have hkl : x.kl = z.kl := by rw [xo.2.2.2, zo.2.2.2]
  refine ⟨hkl, fun i hi => ?_⟩
  induction i with
  | zero => exact trivial
  | succ i ih =>
    rw [fdsX_succ, fdsX_succ]
    have hil : i < s.len t := by rw [← xo.2.2.2]; omega
    have hf := hR.field ht hil
    exact Par.append (ih (by omega)) ⟨⟨rfl, rfl, hR.tlt ht hil, hf.1, hf.2.1, (xk i (by omega)).1, (zk i (by omega)).1, (xk i (by omega)).2, (zk i (by omega)).2⟩, trivial⟩
theorem sameX {s : Sch} {t : Nat} {x z : Tr} : ∀ i, Par SameF (fdsX s t x i) (fdsX s t z i) → ∀ j, j < i → sameT (x.kf j) (z.kf j) := by
  intro i
  induction i with
  | zero => intro _ j hj; omega
  | succ i ih =>
    intro h j hj
    rw [fdsX_succ, fdsX_succ] at h
    obtain ⟨h1, h2⟩ := Par.split (by rw [fdsX_len, fdsX_len]) h
    by_cases e : j = i
    · subst e; exact h2.1
    · exact ih h1 j (by omega)
theorem piece_inj {s : Sch} (hR : RightS s) (n : Nat) : InjN s n := by
  induction n with
  | zero =>
    intro t K kf kg R R' _ h _ e
    have hK : K = 0 := by
      cases K with
      | zero => rfl
      | succ K => have := h 0 (by omega); simp [chk] at this
    subst hK
    exact ⟨fun j hj => absurd hj (Nat.not_lt_zero j), e⟩
  | succ n ih =>
    intro t K kf kg R R' ht hf hg e
    have hp : ∀ j, j ≤ K → Par (Twin s n) (fdsK s t kf j) (fdsK s t kg j) := by
      intro j hj
      induction j with
      | zero => exact trivial
      | succ j ihj =>
        rw [fdsK_succ, fdsK_succ]
        obtain ⟨h1, h2⟩ := twinX hR ht (hf j (by omega)) (hg j (by omega))
        rw [← h1]
        exact Par.append (ihj (by omega)) (h2 _ (Nat.le_refl _))
    have hpK := hp K (Nat.le_refl _)
    rw [piece, piece, List.append_assoc, List.append_assoc] at e
    obtain ⟨e1, e2⟩ := List.append_inj e (by rw [ownWs_len, ownWs_len, hpK.len])
    obtain ⟨s1, s2⟩ := list_inj ih _ _ _ _ _ _ hpK e1 e2
    refine ⟨?_, s2⟩
    clear e e1 e2 hpK s2
    have hs : ∀ k, k ≤ K → Par SameF (fdsK s t kf k) (fdsK s t kg k) → ∀ j, j < k → sameT (kf j) (kg j) := by
      intro k hk
      induction k with
      | zero => intro _ j hj; omega
      | succ k ihk =>
        intro h j hj
        rw [fdsK_succ, fdsK_succ] at h
        obtain ⟨h1, h2⟩ := Par.split (hp k (by omega)).len h
        by_cases e : j = k
        · subst e
          obtain ⟨q1, q2⟩ := twinX hR ht (hf j (by omega)) (hg j (by omega))
          obtain ⟨_, _, xo, _⟩ := chk_inv (hf j (by omega))
          obtain ⟨_, _, zo, _⟩ := chk_inv (hg j (by omega))
          rw [← q1] at h2
          have h3 := sameX _ h2
          rw [sameT_eq]
          exact ⟨by rw [xo.1, zo.1], bs_none xo.2.1 zo.2.1, ⟨by rw [xo.2.2.1, zo.2.2.1], fun i hi => by rw [xo.2.2.1] at hi; omega⟩, q1, h3⟩
        · exact ihk (by omega) h1 j (by omega)
    exact hs K (Nat.le_refl _) s1

end Go.Proofs.YtifbaphfjamdlaaDoor
