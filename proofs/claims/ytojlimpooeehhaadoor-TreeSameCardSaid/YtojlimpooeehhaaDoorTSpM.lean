/- Structs that are spoilt: rows of kids that are stored into. -/
import Derived.Test.YtojlimpooeehhaaDoorTMade2
namespace Go.Proofs.YtojlimpooeehhaaDoor
open Go.ChangeShapes Go.WideShapes Go.ChangeAt Go.RowKit
/-- A struct that may be spoilt, and is small then. -/
def Lo : Nat → Tr → Prop
  | 0, _ => False
  | d + 1, x => (x.num < 18446744073709551616 ∧ x.bs.size ≤ 50 ∧ x.nl ≤ 15 ∧ ∀ j, j < x.nl → x.nf j < 18446744073709551616) ∧ x.kl ≤ 4 ∧ ∀ i, i < x.kl → ((x.kf i).num < 18446744073709551616 ∧ (x.kf i).bs.size ≤ 50 ∧ (x.kf i).nl ≤ 15 ∧ ∀ j, j < (x.kf i).nl → (x.kf i).nf j < 18446744073709551616) ∧ (x.kf i).kl ≤ 2 ∧ ∀ j, j < (x.kf i).kl → Lo d ((x.kf i).kf j)
theorem Lo.sm {d : Nat} {x : Tr} (h : Lo d x) : Sm (2 * d) x := by
  induction d generalizing x with
  | zero => exact absurd h (by simp [Lo])
  | succ d ih =>
    obtain ⟨⟨a1, a2, a3, a4⟩, a5, a6⟩ := h
    refine ⟨a1, a2, a3, by omega, a4, fun i hi => ?_⟩
    obtain ⟨⟨b1, b2, b3, b4⟩, b5, b6⟩ := a6 i hi
    exact ⟨b1, b2, b3, by omega, b4, fun j hj => ih (b6 j hj)⟩
theorem Lo.pos {d : Nat} {x : Tr} (h : Lo d x) : ∃ e, d = e + 1 := by
  cases d with
  | zero => exact absurd h (by simp [Lo])
  | succ e => exact ⟨e, rfl⟩
theorem MadeT.lo {s : Sch} {d t : Nat} {x : Tr} (h : MadeT s d t x) (hs : ∀ i, i < s.n → s.len i ≤ 4) (ht : t < s.n) (hr : ∀ i j, i < s.n → j < s.len i → (s.t i j).toNat < s.n) : Lo d x := by
  induction d generalizing t x with
  | zero => exact absurd h (by simp [MadeT])
  | succ d ih =>
    obtain ⟨⟨a1, a2, a3, a4⟩, h2⟩ := h
    have hl := hs t ht
    rw [← a4] at hl
    refine ⟨⟨by omega, by omega, by omega, fun j hj => by omega⟩, hl, fun i hi => ?_⟩
    obtain ⟨_, b2, b3, b4, b5, b6, b7⟩ := h2 i hi
    exact ⟨⟨b2, by omega, by omega, b5⟩, b6, fun j hj => ih (b7 j hj) (hr t i ht (by omega))⟩

/-- A row of m trees in block g, not wholly known. -/
structure KR (P : Nat → Prop) (f : Nat → Tr) (a1 : Nat → Option Addr) (k1 : Nat → Nat) (a2 : Nat → Option Addr) (k2 : Nat → Nat) (m g : Nat) (W : World) : Prop where
  row : ∃ N F, W.rowIs g 34 N F ∧ m * 4 ≤ N ∧ ∀ j, j < m → F (j * 4) = .int .u64 ((f j).num : Nat) ∧ F (j * 4 + 1) = .string (f j).bs ∧ F (j * 4 + 2) = .slice (a1 j) (f j).nl (k1 j) ∧ F (j * 4 + 3) = .slice (a2 j) (f j).kl (k2 j)
  kids : ∀ j, j < m → TAt W (fun b => P b ∧ b ≠ g) (f j) (a1 j) (a2 j)
theorem KR.lt {P : Nat → Prop} {f : Nat → Tr} {a1 : Nat → Option Addr} {k1 : Nat → Nat} {a2 : Nat → Option Addr} {k2 : Nat → Nat} {m g : Nat} {W : World} (h : KR P f a1 k1 a2 k2 m g W) : g < W.heap.size := by
  obtain ⟨N, F, hr, _⟩ := h.row
  exact hr.lt
theorem KR.cell4 {P : Nat → Prop} {f : Nat → Tr} {a1 : Nat → Option Addr} {k1 : Nat → Nat} {a2 : Nat → Option Addr} {k2 : Nat → Nat} {m g : Nat} {W : World} (h : KR P f a1 k1 a2 k2 m g W) {j : Nat} (hj : j < m) : Cell4 W g (j * 4) (f j) (a1 j) (k1 j) (a2 j) (k2 j) := by
  obtain ⟨N, F, hr, hN, hF⟩ := h.row
  obtain ⟨e0, e1, e2, e3⟩ := hF j hj
  exact ⟨(hr.cell (by omega)).trans (by rw [e0]), (hr.cell (by omega)).trans (by rw [e1]), (hr.cell (by omega)).trans (by rw [e2]), (hr.cell (by omega)).trans (by rw [e3])⟩
theorem KR.frozen {P : Nat → Prop} {f : Nat → Tr} {a1 : Nat → Option Addr} {k1 : Nat → Nat} {a2 : Nat → Option Addr} {k2 : Nat → Nat} {m g : Nat} {W : World} (h : KR P f a1 k1 a2 k2 m g W) : ∀ o, W.frozen? ⟨g, o, none⟩ = false := by
  obtain ⟨N, F, hr, _⟩ := h.row
  exact hr.frozen
theorem KR.keep {P Q : Nat → Prop} {f : Nat → Tr} {a1 : Nat → Option Addr} {k1 : Nat → Nat} {a2 : Nat → Option Addr} {k2 : Nat → Nat} {m g : Nat} {W W' : World} (h : KR P f a1 k1 a2 k2 m g W) (hb : ∀ b, P b ∨ b = g → b < W.heap.size → W'.heap[b]? = W.heap[b]?) (hs : W.heap.size ≤ W'.heap.size) (hQ : ∀ b, P b → b < W.heap.size → Q b) : KR Q f a1 k1 a2 k2 m g W' := by
  obtain ⟨N, F, hr, hN, hF⟩ := h.row
  exact ⟨⟨N, F, hr.of_block (hb g (.inr rfl) hr.lt), hN, hF⟩, fun j hj => (h.kids j hj).keep (fun b hP hl => hb b (.inl hP.1) hl) (fun b hP hl => ⟨hQ b hP.1 hl, hP.2⟩) hs⟩
theorem KR.below {P : Nat → Prop} {f : Nat → Tr} {a1 : Nat → Option Addr} {k1 : Nat → Nat} {a2 : Nat → Option Addr} {k2 : Nat → Nat} {m g : Nat} {W W' : World} (h : KR P f a1 k1 a2 k2 m g W) (hb : Below W.heap.size W W') : KR P f a1 k1 a2 k2 m g W' := h.keep (fun b _ hl => hb.block b hl) hb.size (fun _ h _ => h)
/-- Another tree is stored at i. -/
theorem KR.put {P : Nat → Prop} {f : Nat → Tr} {a1 : Nat → Option Addr} {k1 : Nat → Nat} {a2 : Nat → Option Addr} {k2 : Nat → Nat} {m g : Nat} {W : World} (h : KR P f a1 k1 a2 k2 m g W) {i : Nat} (hi : i < m) {y : Tr} {A1 : Option Addr} {K1 : Nat} {A2 : Option Addr} {K2 : Nat} (hy : TAt W (fun b => P b ∧ b ≠ g) y A1 A2) :
    KR P (adPut f i y) (adPut a1 i A1) (adPut k1 i K1) (adPut a2 i A2) (adPut k2 i K2) m g ((((W.setCell ⟨g, i * 4, none⟩ (.int .u64 (y.num : Nat))).setCell ⟨g, i * 4 + 1, none⟩ (.string y.bs)).setCell ⟨g, i * 4 + 2, none⟩ (.slice A1 y.nl K1)).setCell ⟨g, i * 4 + 3, none⟩ (.slice A2 y.kl K2)) := by
  obtain ⟨N, F, hr, hN, hF⟩ := h.row
  have hk : ∀ {z : Tr} {B1 B2 : Option Addr}, TAt W (fun b => P b ∧ b ≠ g) z B1 B2 → TAt ((((W.setCell ⟨g, i * 4, none⟩ (.int .u64 (y.num : Nat))).setCell ⟨g, i * 4 + 1, none⟩ (.string y.bs)).setCell ⟨g, i * 4 + 2, none⟩ (.slice A1 y.nl K1)).setCell ⟨g, i * 4 + 3, none⟩ (.slice A2 y.kl K2)) (fun b => P b ∧ b ≠ g) z B1 B2 := fun hz =>
    hz.keep (fun b hP _ => by rw [Below.heap_setCell _ ⟨g, i * 4 + 3, none⟩ _ b hP.2, Below.heap_setCell _ ⟨g, i * 4 + 2, none⟩ _ b hP.2, Below.heap_setCell _ ⟨g, i * 4 + 1, none⟩ _ b hP.2, Below.heap_setCell _ ⟨g, i * 4, none⟩ _ b hP.2]) (fun _ h _ => h) (((((Below.refl 0 W).setCell (Nat.zero_le _) _).setCell (Nat.zero_le _) _).setCell (Nat.zero_le _) _).setCell (Nat.zero_le _) _).size
  refine ⟨⟨N, _, (((hr.set (i * 4) (.int .u64 (y.num : Nat))).set (i * 4 + 1) (.string y.bs)).set (i * 4 + 2) (.slice A1 y.nl K1)).set (i * 4 + 3) (.slice A2 y.kl K2), hN, fun j hj => ?_⟩, fun j hj => ?_⟩
  · by_cases e : j = i
    · subst e
      rw [adPut_at, adPut_at, adPut_at, adPut_at, adPut_at]
      simp
    · have n0 : ¬ j * 4 = i * 4 := by omega
      have ne : ∀ {α : Type} (u : Nat → α) (v : α), adPut u i v j = u j := fun u v => by simp [adPut, e]
      rw [ne, ne, ne, ne, ne]
      obtain ⟨e0, e1, e2, e3⟩ := hF j hj
      have q1 : ¬ j * 4 = i * 4 + 1 := by omega
      have q2 : ¬ j * 4 = i * 4 + 2 := by omega
      have q3 : ¬ j * 4 = i * 4 + 3 := by omega
      have p0 : ¬ j * 4 + 1 = i * 4 := by omega
      have p2 : ¬ j * 4 + 1 = i * 4 + 2 := by omega
      have p3 : ¬ j * 4 + 1 = i * 4 + 3 := by omega
      have p1 : ¬ j * 4 + 1 = i * 4 + 1 := by omega
      have r0 : ¬ j * 4 + 2 = i * 4 := by omega
      have r1 : ¬ j * 4 + 2 = i * 4 + 1 := by omega
      have r2 : ¬ j * 4 + 2 = i * 4 + 2 := by omega
      have r3 : ¬ j * 4 + 2 = i * 4 + 3 := by omega
      have s0 : ¬ j * 4 + 3 = i * 4 := by omega
      have s1 : ¬ j * 4 + 3 = i * 4 + 1 := by omega
      have s2 : ¬ j * 4 + 3 = i * 4 + 2 := by omega
      have s3 : ¬ j * 4 + 3 = i * 4 + 3 := by omega
      simp only [if_neg n0, if_neg q1, if_neg q2, if_neg q3, if_neg p0, if_neg p1, if_neg p2, if_neg p3, if_neg r0, if_neg r1, if_neg r2, if_neg r3, if_neg s0, if_neg s1, if_neg s2, if_neg s3]
      exact ⟨e0, e1, e2, e3⟩
  · by_cases e : j = i
    · subst e
      rw [adPut_at, adPut_at, adPut_at]
      exact hk hy
    · have ne : ∀ {α : Type} (u : Nat → α) (v : α), adPut u i v j = u j := fun u v => by simp [adPut, e]
      rw [ne, ne, ne]
      exact hk (h.kids j hj)
/-- An own row as such a one. -/
theorem KA.kr {P : Nat → Prop} {base : Nat} {f : Nat → Tr} {a1 : Nat → Option Addr} {k1 : Nat → Nat} {a2 : Nat → Option Addr} {k2 : Nat → Nat} {m g cap : Nat} {W : World} (h : KA P base f a1 k1 a2 k2 m (.slice (some ⟨g, 0, none⟩) m cap) W) : KR P f a1 k1 a2 k2 m g W := by
  rcases h.own.2 with ⟨e, _⟩ | ⟨g', cap', cur, e, h1, h2, h3, h4, h5, h6⟩
  · cases e
  · injection e with e1 e2 e3
    injection e1 with e1
    injection e1 with e1
    subst e1
    refine ⟨⟨cur.size, fun i => cur[i]?.getD .nilIface, ⟨cur, h2, rfl, fun i hi => by simp [Array.getElem?_eq_getElem hi]⟩, by rw [h5]; exact Nat.mul_le_mul_right _ h3, fun j hj => ?_⟩, fun j hj => (h.kids j hj).mono fun b hb _ => ⟨hb.1, fun e => hb.2 (by rw [e]; rfl)⟩⟩
    obtain ⟨e0, e1, e2, e3⟩ := cells4_get f a1 k1 a2 k2 m j hj
    rw [← h6] at e0 e1 e2 e3
    have hl : ∀ o v, o < m * 4 → (cur.toList.take (m * 4))[o]? = some v → cur[o]?.getD .nilIface = v := fun o v ho hv => by
      rw [List.getElem?_take_of_lt ho, Array.getElem?_toList] at hv
      rw [hv]; rfl
    exact ⟨hl _ _ (by omega) e0, hl _ _ (by omega) e1, hl _ _ (by omega) e2, hl _ _ (by omega) e3⟩
theorem KR.tat {P Q : Nat → Prop} {f : Nat → Tr} {a1 : Nat → Option Addr} {k1 : Nat → Nat} {a2 : Nat → Option Addr} {k2 : Nat → Nat} {m g : Nat} {W : World} (h : KR P f a1 k1 a2 k2 m g W) {num : Nat} {bs : ByteArray} {nl : Nat} {nf : Nat → Nat} {An : Option Addr} (hn : NRow W Q An nl nf) (hPQ : ∀ b, P b → Q b) (hg : Q g) : TAt W Q (.mk num bs nl nf m f) An (some ⟨g, 0, none⟩) :=
  ⟨hn, fun _ => ⟨g, 0, rfl, hg, h.lt, fun j hj => ⟨_, _, _, _, by rw [Nat.zero_add]; exact h.cell4 hj, (h.kids j hj).mono fun b hb _ => hPQ b hb.1⟩⟩⟩
/-- The kids of a tree, as functions. -/
theorem TAt.kidsF {W : World} {P : Nat → Prop} {x : Tr} {An Ak : Option Addr} (h : TAt W P x An Ak) (h0 : 0 < x.kl) : ∃ (b off : Nat) (a1 : Nat → Option Addr) (k1 : Nat → Nat) (a2 : Nat → Option Addr) (k2 : Nat → Nat), Ak = some ⟨b, off, none⟩ ∧ P b ∧ b < W.heap.size ∧ ∀ j, j < x.kl → Cell4 W b (off + j * 4) (x.kf j) (a1 j) (k1 j) (a2 j) (k2 j) ∧ TAt W P (x.kf j) (a1 j) (a2 j) := by
  obtain ⟨b, off, hA, hP, hlt, hc⟩ := h.kids h0
  have hex : ∀ j, ∃ o : (Option Addr × Nat) × (Option Addr × Nat), j < x.kl → Cell4 W b (off + j * 4) (x.kf j) o.1.1 o.1.2 o.2.1 o.2.2 ∧ TAt W P (x.kf j) o.1.1 o.2.1 := fun j => by
    by_cases hj : j < x.kl
    · obtain ⟨A1, c1, A2, c2, h1, h2⟩ := hc j hj
      exact ⟨((A1, c1), (A2, c2)), fun _ => ⟨h1, h2⟩⟩
    · exact ⟨((none, 0), (none, 0)), fun h => absurd h hj⟩
  obtain ⟨o, ho⟩ := Classical.axiomOfChoice hex
  exact ⟨b, off, fun j => (o j).1.1, fun j => (o j).1.2, fun j => (o j).2.1, fun j => (o j).2.2, hA, hP, hlt, ho⟩
theorem cells4_cell {W : World} {b off : Nat} {f : Nat → Tr} {a1 : Nat → Option Addr} {k1 : Nat → Nat} {a2 : Nat → Option Addr} {k2 : Nat → Nat} {m : Nat} (h : ∀ j, j < m → Cell4 W b (off + j * 4) (f j) (a1 j) (k1 j) (a2 j) (k2 j)) : ∀ i u, (cells4 f a1 k1 a2 k2 m)[i]? = some u → W.cell? ((⟨b, off, none⟩ : Addr).add i) = some u := fun i u hu => by
  have hl := cells4_length f a1 k1 a2 k2 m
  have hi : i < m * 4 := by
    rw [← hl]
    exact (List.getElem?_eq_some_iff.1 hu).1
  obtain ⟨e0, e1, e2, e3⟩ := cells4_get f a1 k1 a2 k2 m (i / 4) (by omega)
  obtain ⟨c0, c1, c2, c3⟩ := h (i / 4) (by omega)
  rw [addr_add]
  obtain e | e | e | e : i = i / 4 * 4 ∨ i = i / 4 * 4 + 1 ∨ i = i / 4 * 4 + 2 ∨ i = i / 4 * 4 + 3 := by omega
  · rw [e, e0] at hu; rw [show off + i = off + i / 4 * 4 by omega, c0, hu]
  · rw [e, e1] at hu; rw [show off + i = off + i / 4 * 4 + 1 by omega, c1, hu]
  · rw [e, e2] at hu; rw [show off + i = off + i / 4 * 4 + 2 by omega, c2, hu]
  · rw [e, e3] at hu; rw [show off + i = off + i / 4 * 4 + 3 by omega, c3, hu]
theorem cells4_one {f : Nat → Tr} {a1 : Nat → Option Addr} {k1 : Nat → Nat} {a2 : Nat → Option Addr} {k2 : Nat → Nat} (m : Nat) : ∀ u ∈ cells4 f a1 k1 a2 k2 m, u.oneCell' = true := by
  induction m with
  | zero => intro u hu; cases hu
  | succ m ih =>
    intro u hu
    rw [cells4, List.mem_append] at hu
    rcases hu with hu | hu
    · exact ih u hu
    · simp only [List.mem_cons, List.not_mem_nil, or_false] at hu
      rcases hu with rfl | rfl | rfl | rfl <;> rfl

end Go.Proofs.YtojlimpooeehhaaDoor
