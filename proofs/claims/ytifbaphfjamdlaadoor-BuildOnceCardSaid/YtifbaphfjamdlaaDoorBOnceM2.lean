/- Structs that are the same have the same message. -/
import Derived.Test.YtifbaphfjamdlaaDoorBOnceM
import Derived.Test.YtifbaphfjamdlaaDoorBSmall
namespace Go.Proofs.YtifbaphfjamdlaaDoor
open Go.RowKit
theorem wds_same (x : Tr) : ∀ (b : Bool) (z : Tr), sameT x z → wds b x = wds b z := by
  refine Tr.ind (P := fun x => ∀ (b : Bool) (z : Tr), sameT x z → wds b x = wds b z) (fun x ih b z h => ?_) x
  obtain ⟨h1, h2, ⟨h3, h4⟩, h5, h6⟩ := (sameT_eq x z).1 h
  cases b
  · rw [wds_false, wds_false, h2, h3, h5]
    rw [sumN_congr (g := fun i => wds true (z.kf i)) fun i hi => ih i (by omega) true (z.kf i) (h6 i (by omega))]
  · rw [wds_true, wds_true, h5]
    rw [sumN_congr (g := fun i => wds false (z.kf i)) fun i hi => ih i (by omega) false (z.kf i) (h6 i (by omega))]
def SameK (f g : Fd) : Prop := f.k = g.k ∧ f.τ = g.τ ∧ sameT f.y g.y
theorem own_same {f g : Fd} (h : SameK f g) : f.n = g.n ∧ ∀ o, ownWd f o = ownWd g o := by
  obtain ⟨h1, h2, ⟨h3, -⟩, h5, -⟩ := (sameT_eq _ _).1 h.2.2
  have hn : f.n = g.n := by unfold Fd.n; rw [h.1, h2, h3, h5]
  exact ⟨hn, fun o => by unfold ownWd; rw [hn, h1]⟩
def CongN (s : Sch) (n : Nat) : Prop := ∀ (t K : Nat) (kf kg : Nat → Tr), (∀ j, j < K → sameT (kf j) (kg j)) → piece s n t K kf = piece s n t K kg
theorem fpc_same {s : Sch} {n : Nat} (IH : CongN s n) {f g : Fd} (h : SameK f g) : fpc (piece s n) f = fpc (piece s n) g := by
  obtain ⟨h1, h2, ⟨h3, h4⟩, h5, h6⟩ := (sameT_eq _ _).1 h.2.2
  unfold fpc
  rw [h.1, h.2.1, h2]
  have e1 : numsL f.y = numsL g.y := by
    unfold numsL
    rw [← h3]
    exact List.map_congr_left fun i hi => h4 i (List.mem_range.1 hi)
  have e2 : piece s n g.τ f.y.kl f.y.kf = piece s n g.τ g.y.kl g.y.kf := by rw [← h5]; exact IH g.τ f.y.kl f.y.kf g.y.kf h6
  rw [e1, e2]
theorem list_same {s : Sch} {n : Nat} (IH : CongN s n) : ∀ (fs gs : List Fd), Par SameK fs gs → (∀ q, ownWs (piece s n) fs q = ownWs (piece s n) gs q) ∧ refs (piece s n) fs = refs (piece s n) gs
  | [], [], _ => ⟨fun _ => rfl, rfl⟩
  | f :: fs, g :: gs, h => by
    obtain ⟨i1, i2⟩ := list_same IH fs gs h.2
    have e := fpc_same IH h.1
    refine ⟨fun q => ?_, by rw [refs_cons, refs_cons, e, i2]⟩
    simp only [ownWs]
    rw [(own_same h.1).2, h.2.len, e, i1]
  | [], _ :: _, h => h.elim
  | _ :: _, [], h => h.elim
theorem parX {s : Sch} {t : Nat} {x z : Tr} : ∀ i, (∀ j, j < i → sameT (x.kf j) (z.kf j)) → Par SameK (fdsX s t x i) (fdsX s t z i) := by
  intro i
  induction i with
  | zero => intro _; exact trivial
  | succ i ih =>
    intro h
    rw [fdsX_succ, fdsX_succ]
    exact Par.append (ih fun j hj => h j (by omega)) ⟨⟨rfl, rfl, h i (by omega)⟩, trivial⟩
theorem piece_cong (s : Sch) (n : Nat) : CongN s n := by
  induction n with
  | zero => intro t K kf kg _; rfl
  | succ n ih =>
    intro t K kf kg h
    have hp : ∀ k, k ≤ K → Par SameK (fdsK s t kf k) (fdsK s t kg k) := by
      intro k hk
      induction k with
      | zero => exact trivial
      | succ k ihk =>
        rw [fdsK_succ, fdsK_succ]
        obtain ⟨-, -, -, h5, h6⟩ := (sameT_eq _ _).1 (h k (by omega))
        rw [← h5]
        exact Par.append (ihk (by omega)) (parX _ h6)
    obtain ⟨e1, e2⟩ := list_same ih _ _ (hp K (Nat.le_refl _))
    rw [piece, piece, e1, e2]
theorem msg_inj {s : Sch} (hR : RightS s) {t : Nat} (ht : t < s.n) {x z : Tr} (hx : chk s 5 t x = 0) (hz : chk s 5 t z = 0) : msgL s t x = msgL s t z ↔ sameT x z := by
  rw [msgL_piece, msgL_piece]
  constructor
  · intro h
    injection h with h1 h2
    have h3 := piece_inj hR 5 t 1 (fun _ => x) (fun _ => z) [] [] ht (fun _ _ => hx) (fun _ _ => hz) (by rw [h2])
    exact h3.1 0 (by omega)
  · intro h
    rw [wds_same x true z h, piece_cong s 5 t 1 (fun _ => x) (fun _ => z) fun _ _ => h]
theorem nth_ext {L M : List Nat} : (L.length = M.length ∧ ∀ i, i < L.length → nth L i = nth M i) ↔ L = M := by
  constructor
  · intro ⟨h1, h2⟩
    apply List.ext_getElem? 
    intro i
    by_cases hi : i < L.length
    · have h := h2 i hi
      unfold nth at h
      rw [List.getD_eq_getElem?_getD, List.getD_eq_getElem?_getD, List.getElem?_eq_getElem hi, List.getElem?_eq_getElem (show i < M.length by omega)] at h
      rw [List.getElem?_eq_getElem hi, List.getElem?_eq_getElem (show i < M.length by omega)]
      exact congrArg some h
    · rw [List.getElem?_eq_none (by omega), List.getElem?_eq_none (by omega)]
  · intro h; subst h; exact ⟨rfl, fun _ _ => rfl⟩
theorem msg_same {s : Sch} (hR : RightS s) {t : Nat} (ht : t < s.n) {x z : Tr} (hx : chk s 5 t x = 0) (hz : chk s 5 t z = 0) : sameWB (msgL s t x).length (msgL s t z).length (nth (msgL s t x)) (nth (msgL s t z)) = sameTB x z := by
  have h := (nth_ext (L := msgL s t x) (M := msgL s t z)).trans (msg_inj hR ht hx hz)
  by_cases g : sameT x z
  · rw [sameTB_true g, sameWB_true (h.2 g)]
  · rw [sameTB_false g, sameWB_false fun e => g (h.1 e)]

end Go.Proofs.YtifbaphfjamdlaaDoor
