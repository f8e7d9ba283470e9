/- What was built is right: all of it is claimed, one word behind the other. -/
import Derived.Test.YtkhbhkllnigbgaaDoorVMath
import Derived.Test.YtkhbhkllnigbgaaDoorBPiece
import Derived.Test.YtkhbhkllnigbgaaDoorBThree
import Derived.Test.YtkhbhkllnigbgaaDoorBSmall
import Derived.Test.YtkhbhkllnigbgaaDoorVOne
import Derived.Test.YtkhbhkllnigbgaaDoorBMsg
import Derived.Test.YtkhbhkllnigbgaaDoorBAwake
import Derived.Test.YtkhbhkllnigbgaaDoorTMade2
import Derived.Test.YtkhbhkllnigbgaaDoorBR7
import Derived.Maps.AppendAt
import Derived.Laws.OwnMore
namespace Go.Proofs.YtkhbhkllnigbgaaDoor
open Go.RowKit
/-- From z on lie d words, of N: all is claimed if there is room, else a word is out of range. -/
def Res (N z d c : Nat) (r : VR) : Prop := (z + d ≤ N → r = (none, c + d)) ∧ (N < z + d → ∃ p c', r = (some (23, p), c'))
theorem Res.nil {N z c : Nat} (h : z ≤ N) : Res N z 0 c (none, c) := ⟨fun _ => rfl, fun g => absurd g (by omega)⟩
theorem Res.then_ {N z d1 d2 c : Nat} {r : VR} {g : Nat → VR} (h : Res N z d1 c r) (hg : z + d1 ≤ N → Res N (z + d1) d2 (c + d1) (g (c + d1))) : Res N z (d1 + d2) c (thenV r g) := by
  by_cases h1 : z + d1 ≤ N
  · rw [thenV_none (h.1 h1)]
    have h2 := hg h1
    exact ⟨fun g => by rw [h2.1 (by omega), Nat.add_assoc], fun g => h2.2 (by omega)⟩
  · obtain ⟨p, c', e⟩ := h.2 (by omega)
    rw [thenV_some e]
    exact ⟨fun g => absurd g (by omega), fun _ => ⟨p, c', rfl⟩⟩
theorem claimV_res {N p z k c : Nat} (hc : c + 1 ≤ z) : Res N z k c (claimV N p z k c) := by
  unfold claimV
  by_cases h : N < z + k
  · rw [if_pos h]; exact ⟨fun g => absurd g (by omega), fun _ => ⟨_, _, rfl⟩⟩
  · rw [if_neg h, if_neg (by omega)]; exact ⟨fun _ => rfl, fun g => absurd g h⟩
/-- The list L lies from p on, as far as there are words. -/
def Lies (f : Nat → Nat) (N p : Nat) (L : List Nat) : Prop := ∀ i, i < L.length → p + i < N → f (p + i) = nth L i
theorem nth_append_left {L M : List Nat} {i : Nat} (h : i < L.length) : nth (L ++ M) i = nth L i := by simp [nth, List.getD, List.getElem?_append_left h]
theorem nth_append_right {L M : List Nat} (i : Nat) : nth (L ++ M) (L.length + i) = nth M i := by
  simp [nth, List.getD, List.getElem?_append_right (Nat.le_add_right L.length i)]
theorem Lies.left {f : Nat → Nat} {N p : Nat} {L M : List Nat} (h : Lies f N p (L ++ M)) : Lies f N p L := fun i hi hp => by rw [h i (by simp; omega) hp, nth_append_left hi]
theorem Lies.right {f : Nat → Nat} {N p : Nat} {L M : List Nat} (h : Lies f N p (L ++ M)) : Lies f N (p + L.length) M := fun i hi hp => by
  have h1 := h (L.length + i) (by simp; omega) (by omega)
  rw [show p + L.length + i = p + (L.length + i) by omega, h1, nth_append_right]
theorem Lies.head {f : Nat → Nat} {N p x : Nat} {L : List Nat} (h : Lies f N p (x :: L)) (hp : p < N) : f p = x := by
  have := h 0 (by simp) (by omega)
  simpa [nth] using this
theorem Lies.tail {f : Nat → Nat} {N p x : Nat} {L : List Nat} (h : Lies f N p (x :: L)) : Lies f N (p + 1) L := by
  have h2 : Lies f N p ([x] ++ L) := h
  exact h2.right

/-- Fields, one behind the other. -/
def lstV (g : Nat → Fd → Nat → VR) : List Fd → Nat → Nat → VR
  | [], _, c => (none, c)
  | d :: fs, p, c => thenV (g p d c) (lstV g fs (p + 1))
theorem thenV_assoc (r : VR) (g h : Nat → VR) : thenV (thenV r g) h = thenV r fun c => thenV (g c) h := by
  obtain ⟨o, c⟩ := r
  cases o <;> rfl
theorem thenV_id (r : VR) : thenV r (fun c => (none, c)) = r := by
  obtain ⟨o, c⟩ := r
  cases o <;> rfl
theorem lstV_append (g : Nat → Fd → Nat → VR) (gs : List Fd) : ∀ (fs : List Fd) (p c : Nat), lstV g (fs ++ gs) p c = thenV (lstV g fs p c) (lstV g gs (p + fs.length)) := by
  intro fs
  induction fs with
  | nil => intro p c; rfl
  | cons d fs ih =>
    intro p c
    rw [List.cons_append, lstV, lstV, thenV_assoc]
    congr 1
    funext c'
    rw [ih, List.length_cons, show p + (fs.length + 1) = p + 1 + fs.length by omega]
/-- A field, in words. -/
noncomputable def gV (f : Nat → Nat) (N : Nat) (st : Nat → Nat → Nat → Nat → Nat → VR) (p : Nat) (d : Fd) (c : Nat) : VR := fldV f N st d.k d.τ p c
theorem itV_fdsX (s : Sch) (f : Nat → Nat) (N : Nat) (st : Nat → Nat → Nat → Nat → Nat → VR) (t : Nat) (x : Tr) (at_ c n : Nat) : itV (fun i c => fldV f N st (s.k t i) (s.t t i).toNat (at_ + i) c) n c = lstV (gV f N st) (fdsX s t x n) at_ c := by
  induction n with
  | zero => rfl
  | succ n ih =>
    rw [itV, fdsX_succ, lstV_append, ih]
    congr 1
    funext c'
    show _ = thenV _ _
    rw [fdsX_len, show lstV (gV f N st) ([] : List Fd) = fun _ c => (none, c) from rfl, thenV_id]
    rfl
theorem fdsK_vlen (s : Sch) (t : Nat) (kf : Nat → Tr) (L K : Nat) (h : ∀ j, j < K → (kf j).kl = L) : (fdsK s t kf K).length = K * L := by
  induction K with
  | zero => simp [fdsK]
  | succ K ih => rw [fdsK_succ, List.length_append, ih fun j hj => h j (by omega), fdsX_len, h K (by omega), Nat.succ_mul]
theorem itV_fdsK (s : Sch) (f : Nat → Nat) (N : Nat) (st : Nat → Nat → Nat → Nat → Nat → VR) (t : Nat) (kf : Nat → Tr) (z0 c n : Nat) (h : ∀ j, j < n → (kf j).kl = s.len t) : itV (fun j c => visV s f N st t (z0 + j * s.len t) c) n c = lstV (gV f N st) (fdsK s t kf n) z0 c := by
  induction n with
  | zero => rfl
  | succ n ih =>
    rw [itV, fdsK_succ, lstV_append, ih fun j hj => h j (by omega), fdsK_vlen s t kf (s.len t) n fun j hj => h j (by omega)]
    congr 1
    funext c'
    rw [h n (by omega)]
    exact itV_fdsX s f N st t (kf n) _ _ _

theorem okT_congr {f g : Nat → Nat} {L : Nat} {n : Int} (h : ∀ j, j < L → f j = g j) (ho : Bt.okT f L n) : Bt.okT g L n :=
  ⟨ho.1, ho.2.1, fun i h1 h2 => by
    have := ho.2.2 i h1 h2
    unfold Bt.byteAt at this ⊢
    rw [← h (i / 8) (by omega)]
    exact this⟩
theorem nth_wordsB (b : ByteArray) {j : Nat} (h : j < cnt b.size) : nth (wordsB b) j = wordOf b j := by simp [nth, wordsB, List.getD, h]
theorem refN_lo {o n : Nat} (ho : o < 4294967296) (hn : n < 4294967296) : refN (o : Int) (n : Int) % 4294967296 = o ∧ refN (o : Int) (n : Int) / 4294967296 = n := by unfold refN; omega
/-- What is asked of a field of a right struct. -/
structure FdOk (s : Sch) (n : Nat) (d : Fd) : Prop where
  ok : kindOk d.k d.y
  lo : 1 ≤ d.k
  hi : d.k ≤ 5
  lt : d.τ < s.n
  kids : ∀ j, j < d.y.kl → chk s n d.τ (d.y.kf j) = 0
theorem FdOk.fpc0 {s : Sch} {n : Nat} {d : Fd} (h : FdOk s n d) (h0 : d.n = 0) : fpc (piece s n) d = [] := by
  obtain ⟨k1, k2, k3, k4, -, -, -, -⟩ := h.ok
  unfold Fd.n at h0
  unfold fpc
  by_cases e2 : d.k = 2
  · rw [if_pos e2] at h0 ⊢
    simp [wordsB, h0, cnt]
  · rw [if_neg e2] at h0 ⊢
    by_cases e3 : d.k = 3
    · rw [if_pos e3] at h0 ⊢
      simp [numsL, h0]
    · rw [if_neg e3] at h0 ⊢
      by_cases e4 : d.k = 4 ∨ d.k = 5
      · rw [if_pos e4] at h0 ⊢
        cases n with
        | zero => rfl
        | succ m => rw [piece, h0]; simp [fdsK, ownWs, refs]
      · rw [if_neg e4]
theorem FdOk.num0 {s : Sch} {n : Nat} {d : Fd} (h : FdOk s n d) (h1 : ¬ d.k = 1) : d.y.num = 0 := h.ok.1 h1
theorem FdOk.n_le {s : Sch} {n : Nat} {d : Fd} (h : FdOk s n d) : d.n ≤ mostV d.k := by
  obtain ⟨-, -, -, -, k5, k6, k7, k8⟩ := h.ok
  unfold Fd.n mostV
  by_cases e2 : d.k = 2
  · rw [if_pos e2, if_pos e2]; exact k5
  · rw [if_neg e2, if_neg e2]
    by_cases e3 : d.k = 3
    · rw [if_pos e3, if_neg (by omega)]; exact k6
    · rw [if_neg e3]
      by_cases e4 : d.k = 4
      · rw [if_pos (.inl e4), if_pos e4]; exact k8 e4
      · rw [if_neg e4]
        split
        · exact k7
        · omega
/-- A field whose word, and what it refers to, lie as they were laid. -/
theorem fld_res {s : Sch} {n : Nat} {f : Nat → Nat} {N : Nat}
    (ih : ∀ (t K p z c : Nat) (kf : Nat → Tr), t < s.n → 0 < K → (∀ j, j < K → chk s n t (kf j) = 0) → Lies f N z (piece s n t K kf) → c + 1 ≤ z → z ≤ N → Res N z (piece s n t K kf).length c (strV s f N n t p z K c))
    {d : Fd} (h : FdOk s n d) {p o c : Nat} (_hp : p < N) (ho : 1 ≤ o) (ho2 : o < 4294967296) (hw : f p = ownWd d o) (hL : Lies f N (p + o) (fpc (piece s n) d)) (hc : c + 1 ≤ p + o) (hz : p + o ≤ N) : Res N (p + o) (fpc (piece s n) d).length c (gV f N (strV s f N n) p d c) := by
  unfold gV
  by_cases h0 : d.n = 0
  · rw [h.fpc0 h0]
    have e : fldV f N (strV s f N n) d.k d.τ p c = (none, c) := by
      unfold fldV
      rw [if_pos]
      by_cases h1 : d.k = 1
      · exact .inl h1
      · refine .inr ?_
        rw [hw, ownWd, if_neg (by omega), h.num0 h1]
    rw [e]
    exact .nil hz
  · have h1 : ¬ d.k = 1 := fun e => h0 (by unfold Fd.n; rw [if_neg (by omega), if_neg (by omega), if_neg (by omega)])
    have hn := h.n_le
    have hm := mostV_le d.k
    obtain ⟨e1, e2⟩ := refN_lo ho2 (show d.n < 4294967296 by omega)
    have hw' : f p = refN (o : Int) (d.n : Int) := by rw [hw, ownWd, if_pos (by omega)]
    unfold fldV
    rw [hw', e1, e2, if_neg (by rintro (g | g); exact h1 g; rw [g] at e2; omega), if_neg (by omega)]
    obtain ⟨-, -, -, -, -, -, -, -⟩ := h.ok
    by_cases k2 : d.k = 2
    · have en : d.n = d.y.bs.size := by unfold Fd.n; rw [if_pos k2]
      have ef : fpc (piece s n) d = wordsB d.y.bs := by unfold fpc; rw [if_pos k2]
      rw [if_pos k2, ef, wordsB_length, en]
      rw [ef] at hL
      have := Res.then_ (N := N) (z := p + o) (d1 := cnt d.y.bs.size) (d2 := 0) (c := c) (g := fun c => if Bt.okB (fun j => f (p + o + j)) (cnt d.y.bs.size) ((d.y.bs.size : Nat) : Int) then (none, c) else (some (10, p), c)) (claimV_res (p := p) hc) fun hr => by
        have hok : Bt.okT (fun j => f (p + o + j)) (cnt d.y.bs.size) ((d.y.bs.size : Nat) : Int) :=
          okT_congr (fun j hj => by rw [hL j (by rw [wordsB_length]; exact hj) (by omega), nth_wordsB _ hj]) (Bt.okT_words d.y.bs)
        simp only [Bt.okB_of hok, if_true]
        exact .nil (by omega)
      simpa using this
    · rw [if_neg k2]
      by_cases k3 : d.k = 3
      · have en : d.n = d.y.nl := by unfold Fd.n; rw [if_neg k2, if_pos k3]
        have ef : fpc (piece s n) d = numsL d.y := by unfold fpc; rw [if_neg k2, if_pos k3]
        rw [if_pos k3, ef, numsL_length, en]
        exact claimV_res hc
      · have k4 : d.k = 4 ∨ d.k = 5 := by have := h.lo; have := h.hi; omega
        have en : d.n = d.y.kl := by unfold Fd.n; rw [if_neg k2, if_neg k3, if_pos k4]
        have ef : fpc (piece s n) d = piece s n d.τ d.y.kl d.y.kf := by unfold fpc; rw [if_neg k2, if_neg k3, if_pos k4]
        rw [if_neg k3, ef, en]
        rw [ef] at hL
        exact ih _ _ _ _ _ _ h.lt (by omega) h.kids hL hc hz
/-- Fields whose words, and all that they refer to, lie as they were laid. -/
theorem lst_res {s : Sch} {n : Nat} {f : Nat → Nat} {N : Nat} (hN : N < 4294967296)
    (ih : ∀ (t K p z c : Nat) (kf : Nat → Tr), t < s.n → 0 < K → (∀ j, j < K → chk s n t (kf j) = 0) → Lies f N z (piece s n t K kf) → c + 1 ≤ z → z ≤ N → Res N z (piece s n t K kf).length c (strV s f N n t p z K c)) :
    ∀ (fs : List Fd) (p q c : Nat), (∀ d, d ∈ fs → FdOk s n d) → Lies f N p (ownWs (piece s n) fs q) → Lies f N (p + fs.length + q) (refs (piece s n) fs) → c + 1 ≤ p + fs.length + q → p + fs.length + q ≤ N → Res N (p + fs.length + q) (refs (piece s n) fs).length c (lstV (gV f N (strV s f N n)) fs p c) := by
  intro fs
  induction fs with
  | nil => intro p q c _ _ _ _ hz; exact .nil hz
  | cons d fs ihl =>
    intro p q c hok hO hR hc hz
    simp only [List.length_cons] at hR hc hz ⊢
    rw [refs_cons] at hR ⊢
    rw [List.length_append, lstV]
    have e0 : p + (fs.length + 1) + q = p + (fs.length + 1 + q) := by omega
    have hw := hO.head (by omega)
    refine Res.then_ ?_ fun hr => ?_
    · rw [e0] at hR hc hz ⊢
      exact fld_res ih (hok d (List.mem_cons_self ..)) (by omega) (by omega) (by omega) hw hR.left hc hz
    · have h2 := ihl (p + 1) (q + (fpc (piece s n) d).length) (c + (fpc (piece s n) d).length) (fun g hg => hok g (List.mem_cons_of_mem _ hg)) hO.tail (by
        have := hR.right
        rw [show p + 1 + fs.length + (q + (fpc (piece s n) d).length) = p + (fs.length + 1) + q + (fpc (piece s n) d).length by omega]
        exact this) (by omega) (by omega)
      rw [show p + 1 + fs.length + (q + (fpc (piece s n) d).length) = p + (fs.length + 1) + q + (fpc (piece s n) d).length by omega] at h2
      exact h2
theorem mem_fdsX {s : Sch} (hR : RightS s) {n t : Nat} (ht : t < s.n) {x : Tr} (h : chk s (n + 1) t x = 0) {d : Fd} (hd : d ∈ fdsX s t x x.kl) : FdOk s n d := by
  obtain ⟨e, he, hso, hk⟩ := chk_inv h
  obtain rfl : n = e := by omega
  simp only [fdsX, List.mem_map, List.mem_range] at hd
  obtain ⟨i, hi, rfl⟩ := hd
  have hil : i < s.len t := by rw [← hso.2.2.2]; exact hi
  have hf := hR.field ht hil
  exact ⟨(hk i hi).1, hf.1, hf.2.1, hR.tlt ht hil, (hk i hi).2⟩
theorem chk_kl {s : Sch} {n t : Nat} {x : Tr} (h : chk s n t x = 0) : x.kl = s.len t := by
  obtain ⟨e, he, hso, hk⟩ := chk_inv h
  exact hso.2.2.2
/-- Structs that lie as they were laid. -/
theorem str_res {s : Sch} (hR : RightS s) {f : Nat → Nat} {N : Nat} (hN : N < 4294967296) : ∀ (n t K p z c : Nat) (kf : Nat → Tr), t < s.n → 0 < K → (∀ j, j < K → chk s n t (kf j) = 0) → Lies f N z (piece s n t K kf) → c + 1 ≤ z → z ≤ N → Res N z (piece s n t K kf).length c (strV s f N n t p z K c) := by
  intro n
  induction n with
  | zero => intro t K p z c kf _ hK h; have := h 0 hK; simp [chk] at this
  | succ n ih =>
    intro t K p z c kf ht hK h hL hc hz
    have hlen := fdsK_vlen s t kf (s.len t) K fun j hj => chk_kl (h j hj)
    have hmem : ∀ d, d ∈ fdsK s t kf K → FdOk s n d := fun d hd => by
      simp only [fdsK, List.mem_flatMap, List.mem_range] at hd
      obtain ⟨j, hj, hd⟩ := hd
      exact mem_fdsX hR ht (h j hj) hd
    rw [piece] at hL ⊢
    rw [List.length_append, ownWs_len, hlen, strV]
    refine Res.then_ (claimV_res hc) fun hr => ?_
    rw [itV_fdsK s f N (strV s f N n) t kf z _ K fun j hj => chk_kl (h j hj)]
    have h2 := hL.right
    rw [ownWs_len, hlen] at h2
    have h3 := lst_res hN ih (fdsK s t kf K) z 0 (c + K * s.len t) hmem hL.left (by rw [hlen, Nat.add_zero]; exact h2) (by rw [hlen]; omega) (by rw [hlen]; omega)
    rw [hlen, Nat.add_zero] at h3
    exact h3
/-- A message, or as much of it as there is. -/
theorem body_res {s : Sch} (hR : RightS s) {t : Nat} (ht : t < s.n) {x : Tr} (h : chk s 5 t x = 0) {f : Nat → Nat} {N : Nat} (hN : N ≤ 200) (h1 : 1 ≤ N) (h0 : f 0 / 4294967296 = t) (hL : Lies f N 1 (piece s 5 t 1 (fun _ => x))) : Res N 1 (piece s 5 t 1 (fun _ => x)).length 0 (bodyV s f N) := by
  have hlen := fdsK_vlen s t (fun _ => x) (s.len t) 1 fun j hj => chk_kl h
  rw [Nat.one_mul] at hlen
  have e : fdsK s t (fun _ => x) 1 = fdsX s t x x.kl := by simp [fdsK]
  unfold bodyV
  rw [h0]
  rw [piece] at hL ⊢
  rw [List.length_append, ownWs_len, hlen]
  refine Res.then_ (claimV_res (by omega)) fun hr => ?_
  have h2 := hL.right
  rw [ownWs_len, hlen] at h2
  have h3 := lst_res (by omega) (str_res hR (by omega) 4) (fdsK s t (fun _ => x) 1) 1 0 (0 + s.len t) (fun d hd => by rw [e] at hd; exact mem_fdsX hR ht h hd) hL.left (by rw [hlen, Nat.add_zero]; exact h2) (by rw [hlen]; omega) (by rw [hlen]; omega)
  rw [hlen, Nat.add_zero, e, chk_kl h, ← itV_fdsX] at h3
  rw [e, chk_kl h]
  exact h3

end Go.Proofs.YtkhbhkllnigbgaaDoor

namespace Go.Proofs.YtkhbhkllnigbgaaDoor
open Go.RowKit
theorem msg_0 (s : Sch) (t : Nat) (x : Tr) : nth (msgL s t x) 0 = refN ((1 + wds true x : Nat) : Int) (t : Int) := by rw [msgL_piece, nth, List.getD_cons_zero]
theorem msg_lies (s : Sch) (t : Nat) (x : Tr) (N : Nat) : Lies (nth (msgL s t x)) N 1 (piece s 5 t 1 (fun _ => x)) := fun i _ _ => by
  rw [msgL_piece]
  exact nth_append_right (L := [refN ((1 + wds true x : Nat) : Int) (t : Int)]) (M := piece s 5 t 1 (fun _ => x)) i
theorem msg_piece_len {s : Sch} (hR : RightS s) {t : Nat} (ht : t < s.n) {x : Tr} (h : chk s 5 t x = 0) : (piece s 5 t 1 (fun _ => x)).length = wds true x := by
  have := msgL_len hR ht h
  rw [msgL_piece, List.length_cons] at this
  omega
/-- A message, or as much of it as there is, its first word saying how much. -/
theorem lookP_part {s : Sch} (hR : RightS s) {t : Nat} (ht : t < s.n) {x : Tr} (h : chk s 5 t x = 0) {f : Nat → Nat} {N : Nat} (h1 : 1 ≤ N) (h2 : N ≤ 200) (hlo : f 0 % 4294967296 = N) (hhi : f 0 / 4294967296 = t) (hL : Lies f N 1 (piece s 5 t 1 (fun _ => x))) :
    (1 + wds true x ≤ N → lookP s f N = ([], wds true x)) ∧ (N < 1 + wds true x → ∃ p c, lookP s f N = ([(0, p), (23, 0)], c)) := by
  have hr := body_res hR ht h h2 h1 hhi hL
  rw [msg_piece_len hR ht h] at hr
  have e : lookP s f N = vrP (bodyV s f N) := by
    unfold lookP
    rw [if_neg (by rw [okS_true hR]; decide), if_neg (by omega), if_neg (by rw [hhi]; omega)]
  rw [e]
  refine ⟨fun g => ?_, fun g => ?_⟩
  · rw [hr.1 g]; simp [vrP]
  · obtain ⟨p, c, e⟩ := hr.2 g
    rw [e]
    exact ⟨(p : Int), c, rfl⟩
theorem lookP_built {s : Sch} (hR : RightS s) {t : Nat} (ht : t < s.n) {x : Tr} (h : chk s 5 t x = 0) (hl : 1 + wds true x ≤ 200) : lookP s (nth (msgL s t x)) (1 + wds true x) = ([], wds true x) := by
  have h8 := hR.2.1
  refine (lookP_part hR ht h (by omega) hl ?_ ?_ (msg_lies s t x _)).1 (Nat.le_refl _)
  · rw [msg_0]; exact (refN_lo (by omega) (by omega)).1
  · rw [msg_0]; exact (refN_lo (by omega) (by omega)).2
theorem lookP_zero {s : Sch} (hR : RightS s) (f : Nat → Nat) : lookP s f 0 = ([(21, 0)], 0) := by
  unfold lookP
  rw [if_neg (by rw [okS_true hR]; decide), if_pos (.inl rfl)]
theorem lookP_wide {s : Sch} (hR : RightS s) (f : Nat → Nat) {N : Nat} (h : 200 < N) : lookP s f N = ([(21, 0)], 0) := by
  unfold lookP
  rw [if_neg (by rw [okS_true hR]; decide), if_pos (.inr h)]
theorem lookP_form {s : Sch} (hR : RightS s) (f : Nat → Nat) {N : Nat} (h1 : 1 ≤ N) (h2 : N ≤ 200) (h : ¬ f 0 % 4294967296 = N) : lookP s f N = ([(0, 0), (10, 0)], 0) := by
  unfold lookP
  rw [if_neg (by rw [okS_true hR]; decide), if_neg (by omega), if_pos (.inl h)]
/-- What a made struct's message is. -/
theorem bmsg_cases {s : Sch} (hR : RightS s) {t : Nat} (ht : t < s.n) {x : Tr} (h : chk s 5 t x = 0) : (200 < 1 + wds true x ∧ bmsg s t x = []) ∨ (1 + wds true x ≤ 200 ∧ bmsg s t x = msgL s t x ∧ (msgL s t x).length = 1 + wds true x) := by
  have hc : chkC s (t : Int) x = 0 := by rw [chkC_ok hR ht]; exact h
  have hz : sizeC s (t : Int) x = 1 + wds true x := if_pos hc
  by_cases g : 200 < 1 + wds true x
  · refine .inl ⟨g, ?_⟩
    have : bcode s (t : Int) x = 21 := by rw [bcode, if_pos hc, if_pos (by omega)]
    rw [bmsg, if_neg (by omega)]
  · refine .inr ⟨by omega, ?_, msgL_len hR ht h⟩
    have : bcode s (t : Int) x = 0 := by rw [bcode, if_pos hc, if_neg (by omega)]
    rw [bmsg, if_pos this, Int.toNat_natCast]

end Go.Proofs.YtkhbhkllnigbgaaDoor

namespace Go.Proofs.YtkhbhkllnigbgaaDoor
open Go.ChangeShapes Go.WideShapes Go.ChangeAt Go.RowKit
theorem exW_look : lookP exS6 (nth exW) 5 = ([], 4) := by
  have hc : chk exS6 5 0 exT = 0 := by
    have h : chkC exS6 ((0 : Nat) : Int) exT = chk exS6 5 0 exT := chkC_ok exS6_right (by decide) exT
    rw [← h]
    exact exT_chk
  have h := lookP_built exS6_right (t := 0) (by decide) hc (by rw [exT_wds]; omega)
  have e := exT_msg
  rw [bmsg, if_pos exT_code, Int.toNat_zero] at e
  rw [exT_wds, e] at h
  exact h
set_option maxRecDepth 100000 in
set_option maxHeartbeats 2000000 in
theorem awake8_any (w : World) (hE : Cs.ErrT w) : Calls Tryd.prog 10 #[] w fun e w' => e = .returned (.bool true) ∧ Below w.heap.size w w' := by
  have HE := Lib.hid hE
  clear hE
  have HS := Lib.hid (exS6_at w)
  go_enter Tryd.func10, Tryd.ntmps10
  go_wp2_with fail
  have hz : ((w.alloc (.cells #[.int .i64 1, .int .i64 0, .int .i64 3, .int .i64 0] 95)).alloc (.cells #[.slice (some ⟨w.heap.size, 0, none⟩) 2 2] 96)).heap.size = w.heap.size + 1 + 1 := by simp
  generalize hW : ((w.alloc (.cells #[.int .i64 1, .int .i64 0, .int .i64 3, .int .i64 0] 95)).alloc (.cells #[.slice (some ⟨w.heap.size, 0, none⟩) 2 2] 96)) = W1 at HS hz ⊢
  have HB1 : Hid (Below w.heap.size w W1) := Lib.hid (by rw [← hW]; exact (by (repeat (first | with_reducible exact Below.refl _ _ | with_reducible refine Below.drew ?_ | (with_reducible refine Below.setCell ?_ ?side _; case side => exact (by first | (simp; done) | (simp; omega) | omega)) | (with_reducible refine Below.alloc ?_ ?side _; case side => exact (by first | (simp; done) | (simp; omega) | omega))))))
  clear hW
  have hcall := vcheck_any exS6 (some ⟨w.heap.size + 1, 0, none⟩) 1 (some ⟨W1.heap.size, 0, none⟩) 5 5 (nth exW) _ (HS.out.below ((Below.refl _ _).alloc (Nat.le_refl _) _)) (exW_row W1) (by omega)
  rw [exW_look, hz] at hcall
  refine hcall.mono ?_
  rintro e w2 ⟨rfl, hb⟩
  rw [show Cs.enc (([], 4) : List (Int × Int) × Nat).1 = .nilIface from rfl]
  have HB2 := Lib.hid (Below.step (B := w.heap.size) (a := w) (HB1.out.alloc HB1.out.size (.cells #[.int .u64 5, .int .u64 7, .int .u64 8589934593, .int .u64 5, .int .u64 6] 26)) hb (by have := HB1.out.size; simp; omega))
  have HS2 := Lib.hid ((HS.out.below ((Below.refl _ _).alloc (Nat.le_refl _) _)).below hb)
  clear hb hcall HS HB1 hz
  go_wp2_with fail
  refine (top_none _ (HE.out.below HB2.out)).mono ?_
  rintro e w3 ⟨rfl, hb⟩
  have HB3 := Lib.hid (Below.step HB2.out hb HB2.out.size)
  have HS3 := Lib.hid (HS2.out.below hb)
  clear hb HB2 HS2
  go_wp2_with fail
  have hcall := visits_any exS6 (some ⟨w.heap.size + 1, 0, none⟩) 1 (some ⟨w3.heap.size, 0, none⟩) 5 5 (nth exW) _ (HS3.out.below ((Below.refl _ _).alloc (Nat.le_refl _) _)) (exW_row w3) (by omega)
  rw [exW_look] at hcall
  refine hcall.mono ?_
  rintro e w4 ⟨rfl, hb⟩
  have HB4 := Lib.hid (Below.step (B := w.heap.size) (a := w) (HB3.out.alloc HB3.out.size (.cells #[.int .u64 5, .int .u64 7, .int .u64 8589934593, .int .u64 5, .int .u64 6] 26)) hb (by have := HB3.out.size; simp; omega))
  clear hb hcall
  go_wp2
  go_ret
  exact ⟨rfl, HB4.out⟩

end Go.Proofs.YtkhbhkllnigbgaaDoor

namespace Go.Proofs.YtkhbhkllnigbgaaDoor
open Go.ChangeShapes Go.WideShapes Go.ChangeAt Go.RowKit
/-- What Spec.made makes: a schema, and a message of a struct of its. -/
structure MadeW (w : World) (d : Nat) (s : Sch) (A : Option Addr) (t : Nat) (x : Tr) (Aw : Option Addr) (cw : Nat) (W : World) : Prop where
  right : RightS s
  four : ∀ i, i < s.n → s.len i ≤ 4
  sat : SAt W A s
  lt : t < s.n
  made : MadeT s d t x
  row : MRow w.heap.size W Aw (bmsg s t x)
  be : Below w.heap.size w W
  cap : (bmsg s t x).length ≤ cw
theorem MadeW.below {w : World} {d : Nat} {s : Sch} {A : Option Addr} {t : Nat} {x : Tr} {Aw : Option Addr} {cw : Nat} {W W' : World} (h : MadeW w d s A t x Aw cw W) (hb : Below W.heap.size W W') : MadeW w d s A t x Aw cw W' :=
  ⟨h.right, h.four, h.sat.below hb, h.lt, h.made, h.row.below hb, Below.step h.be hb h.be.size, h.cap⟩
theorem spec8_row (w : World) (A1 : Option Addr) (L1 c1 : Nat) (A2 : Option Addr) (L2 c2 : Nat) (T : Int) : (w.alloc (.cells #[.slice A1 L1 c1, .slice A2 L2 c2, .int .i64 T] 25)).rowIs w.heap.size 25 3 (fun j => if j = 0 then .slice A1 L1 c1 else if j = 1 then .slice A2 L2 c2 else .int .i64 T) := World.rowIs_alloc w #[.slice A1 L1 c1, .slice A2 L2 c2, .int .i64 T] 25 _ (by intro j hj; match j, hj with | 0, _ => rfl | 1, _ => rfl | 2, _ => rfl)
set_option maxRecDepth 100000 in
set_option maxHeartbeats 4000000 in
theorem s8made_any (d : Nat) (D : Int) (A1 : Option Addr) (L1 c1 : Nat) (A2 : Option Addr) (L2 c2 : Nat) (T : Int) (w : World) (hN1 : NumsAt w A1 L1 c1) (hN2 : NumsAt w A2 L2 c2) (hd : d ≤ 5) (hD1 : D ≤ d + 1) (hD2 : d + 1 ≤ D) :
    Calls Tryd.prog 11 #[.agg #[.slice A1 L1 c1, .slice A2 L2 c2, .int .i64 T], .int .i64 D] w fun e w' => ∃ (s : Sch) (A : Option Addr) (c t : Nat) (x : Tr) (Aw : Option Addr) (cw : Nat), e = .returned (.tuple #[.slice A s.n c, .slice Aw (bmsg s t x).length cw]) ∧ MadeW w (d + 1) s A t x Aw cw w' := by
  have H1 := Lib.hid hN1
  have H2 := Lib.hid hN2
  have hm1 := hN1.max
  have hm2 := hN2.max
  have hc2 := hN2.cap
  clear hN1 hN2
  go_enter Tryd.func11, Tryd.ntmps11
  go_wp2_with fail
  refine (made_any A1 L1 c1 _ hm1 (H1.out.below (by (repeat (first | with_reducible exact Below.refl _ _ | with_reducible refine Below.drew ?_ | (with_reducible refine Below.setCell ?_ ?side _; case side => exact (by first | (simp; done) | (simp; omega) | omega)) | (with_reducible refine Below.alloc ?_ ?side _; case side => exact (by first | (simp; done) | (simp; omega) | omega)))))).row).mono ?_
  rintro e w1 ⟨s, A, c, rfl, hR, hn4, h4, hS, hb⟩
  have hbx := (spec8_row w A1 L1 c1 A2 L2 c2 T).of_block (hb.block _ (by simp))
  have b1 : w1.cell? ⟨w.heap.size, 1, none⟩ = some (.slice A2 L2 c2) := hbx.cell (i := 1) (by omega)
  have b2 : w1.cell? ⟨w.heap.size, 2, none⟩ = some (.int .i64 T) := hbx.cell (i := 2) (by omega)
  have HR := Lib.hid hR
  have H4 := Lib.hid h4
  have HS := Lib.hid hS
  have HB := Lib.hid (Below.step (B := w.heap.size) (a := w) (by (repeat (first | with_reducible exact Below.refl _ _ | with_reducible refine Below.drew ?_ | (with_reducible refine Below.setCell ?_ ?side _; case side => exact (by first | (simp; done) | (simp; omega) | omega)) | (with_reducible refine Below.alloc ?_ ?side _; case side => exact (by first | (simp; done) | (simp; omega) | omega))))) hb (by first | (simp; done) | (simp; omega) | omega))
  have hn1 := hR.1
  clear hbx hR h4 hS hb
  obtain ⟨n, HNN⟩ : ∃ n, Hid (s.n = n) := ⟨_, Lib.hid rfl⟩
  rw [HNN.out] at hn1 hn4 ⊢
  obtain ⟨t, ht, hte⟩ := rest T n hn1 (by omega)
  have hn0 : ((n : Int) == 0) = false := by simp; omega
  have hn0' : ((n : Int) = 0) = False := by simp; omega
  have hn0'' : (n = 0) = False := by simp; omega
  have hR6 := r6Made_any s HR.out A c d t D
  rw [HNN.out] at hR6
  have HR6 := Lib.hid hR6
  have hB7 := fun x An Ak cn ck w hs hS hT => r7build_cap s A c t x An Ak cn ck (d + 1) w hs hS (by omega) hT
  rw [HNN.out] at hB7
  have HB7 := Lib.hid hB7
  clear hR6 hB7
  by_cases h60 : 60 < L2
  · have d60 : decide ((60 : Int) < (L2 : Int)) = true := by simp; omega
    have hc60 : (60 : Int) ≤ (c2 : Int) := by omega
    go_wp2_with fail
    clear hte hn0 hn0' hn0'' d60 hc60 b1 b2
    refine (HR6.out A2 60 c2 _ ht HS.out ((H2.out.cut (by omega)).below HB.out) (by omega) hD1 hD2).mono ?_
    rintro e w2 ⟨x, An, cn, Ak, ck, rfl, hMd, hT, hb⟩
    have HM := Lib.hid hMd
    have HB2 := Lib.hid (Below.step HB.out hb HB.out.size)
    have HSM : Hid (Sm (2 * (d + 1)) x) := Lib.hid (hMd.sm (fun i hi => by have := H4.out i hi; omega) (by rw [HNN.out]; exact ht) (fun i j hi hj => HR.out.tlt hi hj) (by omega))
    have HT := Lib.hid (hT.mono fun _ _ _ => trivial)
    have HS2 := Lib.hid (HS.out.below hb)
    clear hMd hT hb
    go_wp2_with fail
    refine (HB7.out x An Ak cn ck _ HS2.out HSM.out HT.out).mono ?_
    rintro e w3 ⟨A', cap', rfl, hr, hb, hcp⟩
    have HRW := Lib.hid hr
    have HB3 := Lib.hid (Below.step HB2.out hb HB2.out.size)
    have HS3 := Lib.hid (HS2.out.below hb)
    have HCP := Lib.hid hcp
    clear hr hb hcp
    obtain ⟨M, HMM⟩ : ∃ M, Hid ((bmsg s t x).length = M) := ⟨_, Lib.hid rfl⟩
    rw [HMM.out]
    go_wp2
    go_ret2
    exact ⟨s, A, c, t, x, A', cap', by rw [HMM.out, HNN.out]; rfl, HR.out, H4.out, HS3.out, by rw [HNN.out]; exact ht, HM.out, ⟨HRW.out.row, fun h a e => Nat.le_trans HB2.out.size (HRW.out.new h a e)⟩, HB3.out, HCP.out⟩
  · have d60 : decide ((60 : Int) < (L2 : Int)) = false := by simp; omega
    go_wp2_with fail
    clear hte hn0 hn0' hn0'' d60 b1 b2
    refine (HR6.out A2 L2 c2 _ ht HS.out (H2.out.below HB.out) (by omega) hD1 hD2).mono ?_
    rintro e w2 ⟨x, An, cn, Ak, ck, rfl, hMd, hT, hb⟩
    have HM := Lib.hid hMd
    have HB2 := Lib.hid (Below.step HB.out hb HB.out.size)
    have HSM : Hid (Sm (2 * (d + 1)) x) := Lib.hid (hMd.sm (fun i hi => by have := H4.out i hi; omega) (by rw [HNN.out]; exact ht) (fun i j hi hj => HR.out.tlt hi hj) (by omega))
    have HT := Lib.hid (hT.mono fun _ _ _ => trivial)
    have HS2 := Lib.hid (HS.out.below hb)
    clear hMd hT hb
    go_wp2_with fail
    refine (HB7.out x An Ak cn ck _ HS2.out HSM.out HT.out).mono ?_
    rintro e w3 ⟨A', cap', rfl, hr, hb, hcp⟩
    have HRW := Lib.hid hr
    have HB3 := Lib.hid (Below.step HB2.out hb HB2.out.size)
    have HS3 := Lib.hid (HS2.out.below hb)
    have HCP := Lib.hid hcp
    clear hr hb hcp
    obtain ⟨M, HMM⟩ : ∃ M, Hid ((bmsg s t x).length = M) := ⟨_, Lib.hid rfl⟩
    rw [HMM.out]
    go_wp2
    go_ret2
    exact ⟨s, A, c, t, x, A', cap', by rw [HMM.out, HNN.out]; rfl, HR.out, H4.out, HS3.out, by rw [HNN.out]; exact ht, HM.out, ⟨HRW.out.row, fun h a e => Nat.le_trans HB2.out.size (HRW.out.new h a e)⟩, HB3.out, HCP.out⟩

end Go.Proofs.YtkhbhkllnigbgaaDoor

namespace Go.Proofs.YtkhbhkllnigbgaaDoor
open Go.ChangeShapes Go.WideShapes Go.ChangeAt Go.RowKit
/-- What cause.Top tells of a trouble at a word. -/
theorem top_at (p k : Int) (hk : ¬ k = 0) (w : World) (hE : Cs.ErrT w) : Calls Tryd.prog 21 #[Cs.enc [(0, p), (k, 0)]] w fun r w' => r = .returned (.int .i64 k) ∧ Below w.heap.size w w' := by
  have h := Cs.top_any [(0, p), (k, 0)] (by simp [Cs.Ok, hk]) (by simp) w hE
  rw [Cs.top_word, Cs.top_code _ _ hk] at h
  exact h
/-- What is at hand behind made. -/
structure VW (w : World) (d : Nat) (s : Sch) (A : Option Addr) (t : Nat) (x : Tr) (Aw : Option Addr) (cw : Nat) (W : World) : Prop where
  mw : MadeW w d s A t x Aw cw W
  et : Cs.ErrT W
theorem VW.below {w : World} {d : Nat} {s : Sch} {A : Option Addr} {t : Nat} {x : Tr} {Aw : Option Addr} {cw : Nat} {W W' : World} (h : VW w d s A t x Aw cw W) (hb : Below W.heap.size W W') : VW w d s A t x Aw cw W' := ⟨h.mw.below hb, h.et.below hb⟩
theorem MadeW.chk {w : World} {d : Nat} {s : Sch} {A : Option Addr} {t : Nat} {x : Tr} {Aw : Option Addr} {cw : Nat} {W : World} (h : MadeW w d s A t x Aw cw W) (hd : d ≤ 5) : chk s 5 t x = 0 := h.made.chk hd

end Go.Proofs.YtkhbhkllnigbgaaDoor

namespace Go.Proofs.YtkhbhkllnigbgaaDoor
open Go.ChangeShapes Go.WideShapes Go.ChangeAt Go.RowKit
/-- The first m words of a row, as cells that can be appended. -/
theorem copy_news {W : World} {b o N : Nat} {L : List Nat} (h : WRow W (some ⟨b, o, none⟩) N (nth L)) (hN : N ≤ L.length) {m : Nat} (hm : m ≤ N) : ∀ j u, (wcells (L.take m))[j]? = some u → W.cell? ((⟨b, o, none⟩ : Addr).add j) = some u := by
  intro j u hu
  have hj : j < m := by
    have := (List.getElem?_eq_some_iff.1 hu).1
    simp [wcells] at this
    omega
  obtain ⟨b', o', e, hb, hc⟩ := h.some_ (by omega)
  injection e with e
  injection e with e1 e2 e3
  subst e1 e2
  rw [addr_add, hc j (by omega), ← hu]
  simp [wcells, nth, hj, show j < L.length by omega]
theorem wcells_length (L : List Nat) : (wcells L).length = L.length := by simp [wcells]
/-- What was copied: a row of its own. -/
theorem copied {W w1 : World} {c0 : Obj} {b : Nat} (hb : b = W.heap.size) {v' : Value} {k : Nat} {L : List Nat} (hk : k = L.length) (hL : 1 ≤ L.length) (hown : w1.ownsRow 0 26 1 v' k (wcells L)) (hg : (W.alloc c0).grownBy w1 (some b)) (hat : v'.ownBlock = some b ∨ v'.ownBlock = some (W.alloc c0).heap.size) :
    ∃ g cap, v' = .slice (some ⟨g, 0, none⟩) L.length cap ∧ W.heap.size ≤ g ∧ WRw L g cap w1 ∧ Below W.heap.size W w1 := by
  subst hb hk
  obtain ⟨n, hn⟩ : ∃ n, L.length = n + 1 := ⟨L.length - 1, by omega⟩
  have hown' := hown
  rw [hn] at hown'
  obtain ⟨g, cap, rfl⟩ := ownsRow_succ hown'
  refine ⟨g, cap, by rw [hn], ?_, by unfold WRw; rw [hn] at hown ⊢; exact hown, ?_⟩
  · rcases hat with e | e
    · have e' : g = W.heap.size := Option.some.inj e; omega
    · have e' : g = (W.alloc c0).heap.size := Option.some.inj e
      rw [e']; simp
  · refine ⟨hg.os, hg.tape, hg.output, Nat.le_trans (by simp) hg.size, fun i hi => ?_⟩
    rw [hg.block i (by simp; omega) (fun e => by have e' := Option.some.inj e; omega)]
    exact (show Below W.heap.size W (W.alloc c0) from ((Below.refl _ _).alloc (Nat.le_refl _) _)).block i hi
theorem SmL.take {L : List Nat} (h : SmL L) (m : Nat) : SmL (L.take m) := fun x hx => h x (List.mem_of_mem_take hx)
theorem WRw.row {L : List Nat} {g cap : Nat} {W : World} (h : WRw L g cap W) (hL : SmL L) : WRow W (some ⟨g, 0, none⟩) L.length (nth L) := (MRow.of_wrw (B := 0) h hL (Nat.zero_le _)).row
theorem WRw.nth_cell {L : List Nat} {g cap : Nat} {W : World} (h : WRw L g cap W) {p : Nat} (hp : p < L.length) : W.cell? ⟨g, p, none⟩ = some (.int .u64 ((nth L p : Nat) : Int)) := by
  rw [h.cell hp]
  simp [nth, hp]
theorem nth_take {L : List Nat} {m j : Nat} (h : j < m) : nth (L.take m) j = nth L j := by
  simp [nth, List.getD, List.getElem?_take_of_lt h]
theorem nth_set_ne {L : List Nat} {p j x : Nat} (h : ¬ p = j) : nth (L.set p x) j = nth L j := by
  simp [nth, List.getD, List.getElem?_set_ne h]
theorem nth_set_eq {L : List Nat} {p x : Nat} (h : p < L.length) : nth (L.set p x) p = x := by
  simp [nth, List.getD, h]
/-- One word more. -/
theorem copied2 {W w3 w5 : World} {o : Obj} {L : List Nat} {g cap wd n : Nat} {v : Value} (hB : Below W.heap.size W w3) (hg : W.heap.size ≤ g) (hn : n = L.length) (_hW : WRw L g cap w3) (hown : w5.ownsRow 0 26 1 v (n + 1) (wcells L ++ [.int .u64 (wd : Nat)])) (hgrow : (w3.alloc o).grownBy w5 (some g)) :
    ∃ g2 cap2, v = .slice (some ⟨g2, 0, none⟩) (n + 1) cap2 ∧ WRw (L ++ [wd]) g2 cap2 w5 ∧ Below W.heap.size W w5 := by
  subst hn
  obtain ⟨g2, cap2, rfl⟩ := ownsRow_succ hown
  refine ⟨g2, cap2, rfl, ?_, ?_⟩
  · unfold WRw
    have e : wcells (L ++ [wd]) = wcells L ++ [.int .u64 (wd : Nat)] := by simp [wcells]
    rw [e, List.length_append]
    exact hown
  · have h1 : Below W.heap.size W (w3.alloc o) := hB.alloc hB.size _
    refine ⟨hgrow.os.trans h1.os, hgrow.tape.trans h1.tape, hgrow.output.trans h1.output, Nat.le_trans h1.size hgrow.size, fun i hi => ?_⟩
    rw [hgrow.block i (Nat.lt_of_lt_of_le hi h1.size) (fun e => by have e' := Option.some.inj e; omega)]
    exact h1.block i hi
/-- The upper half of a word is kept, and the lower one put. -/
theorem and_hi (X : Nat) (hX : X < 18446744073709551616) : X &&& 18446744069414584320 = X / 4294967296 * 4294967296 := by
  have e : (18446744069414584320 : Nat) = (2 ^ 32 - 1) <<< 32 := rfl
  have e2 : X / 4294967296 * 4294967296 = (X >>> 32) <<< 32 := by rw [Nat.shiftLeft_eq, Nat.shiftRight_eq_div_pow]
  rw [e, e2]
  apply Nat.eq_of_testBit_eq
  intro i
  rw [Nat.testBit_and, Nat.testBit_shiftLeft, Nat.testBit_shiftLeft, Nat.testBit_shiftRight, Nat.testBit_two_pow_sub_one]
  by_cases h : 32 ≤ i
  · rw [show 32 + (i - 32) = i by omega]
    by_cases h2 : i < 64
    · simp [h, show i - 32 < 32 by omega]
    · have : X.testBit i = false := Nat.testBit_lt_two_pow (Nat.lt_of_lt_of_le hX (Nat.pow_le_pow_right (n := 2) (by omega) (show 64 ≤ i by omega)))
      simp [this]
  · simp [h]
theorem lo_cut (X : Nat) (hX : X < 18446744073709551616) : bits .andNot .u64 (X : Int) 4294967295 = ((X / 4294967296 * 4294967296 : Nat) : Int) := by
  have := u64_andNot_nat X 4294967295 hX (by omega)
  rw [← and_hi X hX]
  exact this
theorem lo_put (H N : Nat) (hH : H < 4294967296) (hN : N < 4294967296) : bits .or .u64 ((H * 4294967296 : Nat) : Int) (N : Int) = ((H * 4294967296 + N : Nat) : Int) := by
  rw [u64_or_nat _ _ (by omega) (by omega), nat_join 32 _ _ (Nat.mul_mod_left _ _) (by omega)]

end Go.Proofs.YtkhbhkllnigbgaaDoor
