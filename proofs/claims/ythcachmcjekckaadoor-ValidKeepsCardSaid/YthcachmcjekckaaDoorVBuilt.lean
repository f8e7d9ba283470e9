/- What was built is right: all of it is claimed, one word behind the other. -/
import Derived.Test.YthcachmcjekckaaDoorVMath
import Derived.Test.YthcachmcjekckaaDoorBPiece
import Derived.Test.YthcachmcjekckaaDoorBOwn
import Derived.Test.YthcachmcjekckaaDoorBSmall
namespace Go.Proofs.YthcachmcjekckaaDoor
open Go.RowKit
/-- From z on lie d words, of N: all is claimed if there is room, else a word is out of range. -/
def Res (N z d c : Nat) (r : VR) : Prop := (z + d ≤ N → r = (none, c + d)) ∧ (N < z + d → ∃ p c', r = (some (23, p), c'))
theorem Res.nil {N z c : Nat} (h : z ≤ N) : Res N z 0 c (none, c) := ⟨fun _ => rfl, fun g => absurd g (by omega)⟩
theorem Res.then_ {N z d1 d2 c : Nat} {r : VR} {g : Nat → VR} (h : Res N z d1 c r) (hg : z + d1 ≤ N → Res N (z + d1) d2 (c + d1) (g (c + d1))) : Res N z (d1 + d2) c (thenV r g) := by
  by_cases h1 : z + d1 ≤ N
  · rw [thenV_none (h.1 h1)]
    have h2 := hg h1
    exact ⟨fun g => by rw [h2.1 (by omega), Nat.add_assoc], fun g => h2.2 (by omega)⟩
  · obtain ⟨p, c', e⟩ := h.2 (by omega)
    rw [thenV_some e]
    exact ⟨fun g => absurd g (by omega), fun _ => ⟨p, c', rfl⟩⟩
theorem claimV_res {N p z k c : Nat} (hc : c + 1 ≤ z) : Res N z k c (claimV N p z k c) := by
  unfold claimV
  by_cases h : N < z + k
  · rw [if_pos h]; exact ⟨fun g => absurd g (by omega), fun _ => ⟨_, _, rfl⟩⟩
  · rw [if_neg h, if_neg (by omega)]; exact ⟨fun _ => rfl, fun g => absurd g h⟩
/-- The list L lies from p on, as far as there are words. -/
def Lies (f : Nat → Nat) (N p : Nat) (L : List Nat) : Prop := ∀ i, i < L.length → p + i < N → f (p + i) = nth L i
theorem nth_append_left {L M : List Nat} {i : Nat} (h : i < L.length) : nth (L ++ M) i = nth L i := by simp [nth, List.getD, List.getElem?_append_left h]
theorem nth_append_right {L M : List Nat} (i : Nat) : nth (L ++ M) (L.length + i) = nth M i := by
  simp [nth, List.getD, List.getElem?_append_right (Nat.le_add_right L.length i)]
theorem Lies.left {f : Nat → Nat} {N p : Nat} {L M : List Nat} (h : Lies f N p (L ++ M)) : Lies f N p L := fun i hi hp => by rw [h i (by simp; omega) hp, nth_append_left hi]
theorem Lies.right {f : Nat → Nat} {N p : Nat} {L M : List Nat} (h : Lies f N p (L ++ M)) : Lies f N (p + L.length) M := fun i hi hp => by
  have h1 := h (L.length + i) (by simp; omega) (by omega)
  rw [show p + L.length + i = p + (L.length + i) by omega, h1, nth_append_right]
theorem Lies.head {f : Nat → Nat} {N p x : Nat} {L : List Nat} (h : Lies f N p (x :: L)) (hp : p < N) : f p = x := by
  have := h 0 (by simp) (by omega)
  simpa [nth] using this
theorem Lies.tail {f : Nat → Nat} {N p x : Nat} {L : List Nat} (h : Lies f N p (x :: L)) : Lies f N (p + 1) L := by
  have h2 : Lies f N p ([x] ++ L) := h
  exact h2.right

/-- Fields, one behind the other. -/
def lstV (g : Nat → Fd → Nat → VR) : List Fd → Nat → Nat → VR
  | [], _, c => (none, c)
  | d :: fs, p, c => thenV (g p d c) (lstV g fs (p + 1))
theorem thenV_assoc (r : VR) (g h : Nat → VR) : thenV (thenV r g) h = thenV r fun c => thenV (g c) h := by
  obtain ⟨o, c⟩ := r
  cases o <;> rfl
theorem thenV_id (r : VR) : thenV r (fun c => (none, c)) = r := by
  obtain ⟨o, c⟩ := r
  cases o <;> rfl
theorem lstV_append (g : Nat → Fd → Nat → VR) (gs : List Fd) : ∀ (fs : List Fd) (p c : Nat), lstV g (fs ++ gs) p c = thenV (lstV g fs p c) (lstV g gs (p + fs.length)) := by
  intro fs
  induction fs with
  | nil => intro p c; rfl
  | cons d fs ih =>
    intro p c
    rw [List.cons_append, lstV, lstV, thenV_assoc]
    congr 1
    funext c'
    rw [ih, List.length_cons, show p + (fs.length + 1) = p + 1 + fs.length by omega]
/-- A field, in words. -/
noncomputable def gV (f : Nat → Nat) (N : Nat) (st : Nat → Nat → Nat → Nat → Nat → VR) (p : Nat) (d : Fd) (c : Nat) : VR := fldV f N st d.k d.τ p c
theorem itV_fdsX (s : Sch) (f : Nat → Nat) (N : Nat) (st : Nat → Nat → Nat → Nat → Nat → VR) (t : Nat) (x : Tr) (at_ c n : Nat) : itV (fun i c => fldV f N st (s.k t i) (s.t t i).toNat (at_ + i) c) n c = lstV (gV f N st) (fdsX s t x n) at_ c := by
  induction n with
  | zero => rfl
  | succ n ih =>
    rw [itV, fdsX_succ, lstV_append, ih]
    congr 1
    funext c'
    show _ = thenV _ _
    rw [fdsX_len, show lstV (gV f N st) ([] : List Fd) = fun _ c => (none, c) from rfl, thenV_id]
    rfl
theorem fdsK_len (s : Sch) (t : Nat) (kf : Nat → Tr) (L K : Nat) (h : ∀ j, j < K → (kf j).kl = L) : (fdsK s t kf K).length = K * L := by
  induction K with
  | zero => simp [fdsK]
  | succ K ih => rw [fdsK_succ, List.length_append, ih fun j hj => h j (by omega), fdsX_len, h K (by omega), Nat.succ_mul]
theorem itV_fdsK (s : Sch) (f : Nat → Nat) (N : Nat) (st : Nat → Nat → Nat → Nat → Nat → VR) (t : Nat) (kf : Nat → Tr) (to c n : Nat) (h : ∀ j, j < n → (kf j).kl = s.len t) : itV (fun j c => visV s f N st t (to + j * s.len t) c) n c = lstV (gV f N st) (fdsK s t kf n) to c := by
  induction n with
  | zero => rfl
  | succ n ih =>
    rw [itV, fdsK_succ, lstV_append, ih fun j hj => h j (by omega), fdsK_len s t kf (s.len t) n fun j hj => h j (by omega)]
    congr 1
    funext c'
    rw [h n (by omega)]
    exact itV_fdsX s f N st t (kf n) _ _ _

theorem okT_congr {f g : Nat → Nat} {L : Nat} {n : Int} (h : ∀ j, j < L → f j = g j) (ho : Bt.okT f L n) : Bt.okT g L n :=
  ⟨ho.1, ho.2.1, fun i h1 h2 => by
    have := ho.2.2 i h1 h2
    unfold Bt.byteAt at this ⊢
    rw [← h (i / 8) (by omega)]
    exact this⟩
theorem nth_wordsB (b : ByteArray) {j : Nat} (h : j < cnt b.size) : nth (wordsB b) j = wordOf b j := by simp [nth, wordsB, List.getD, h]
theorem refN_lo {o n : Nat} (ho : o < 4294967296) (hn : n < 4294967296) : refN (o : Int) (n : Int) % 4294967296 = o ∧ refN (o : Int) (n : Int) / 4294967296 = n := by unfold refN; omega
/-- What is asked of a field of a right struct. -/
structure FdOk (s : Sch) (n : Nat) (d : Fd) : Prop where
  ok : kindOk d.k d.y
  lo : 1 ≤ d.k
  hi : d.k ≤ 5
  lt : d.τ < s.n
  kids : ∀ j, j < d.y.kl → chk s n d.τ (d.y.kf j) = 0
theorem FdOk.fpc0 {s : Sch} {n : Nat} {d : Fd} (h : FdOk s n d) (h0 : d.n = 0) : fpc (piece s n) d = [] := by
  obtain ⟨k1, k2, k3, k4, -, -, -, -⟩ := h.ok
  unfold Fd.n at h0
  unfold fpc
  by_cases e2 : d.k = 2
  · rw [if_pos e2] at h0 ⊢
    simp [wordsB, h0, cnt]
  · rw [if_neg e2] at h0 ⊢
    by_cases e3 : d.k = 3
    · rw [if_pos e3] at h0 ⊢
      simp [numsL, h0]
    · rw [if_neg e3] at h0 ⊢
      by_cases e4 : d.k = 4 ∨ d.k = 5
      · rw [if_pos e4] at h0 ⊢
        cases n with
        | zero => rfl
        | succ m => rw [piece, h0]; simp [fdsK, ownWs, refs]
      · rw [if_neg e4]
theorem FdOk.num0 {s : Sch} {n : Nat} {d : Fd} (h : FdOk s n d) (h1 : ¬ d.k = 1) : d.y.num = 0 := h.ok.1 h1
theorem FdOk.n_le {s : Sch} {n : Nat} {d : Fd} (h : FdOk s n d) : d.n ≤ mostV d.k := by
  obtain ⟨-, -, -, -, k5, k6, k7, k8⟩ := h.ok
  unfold Fd.n mostV
  by_cases e2 : d.k = 2
  · rw [if_pos e2, if_pos e2]; exact k5
  · rw [if_neg e2, if_neg e2]
    by_cases e3 : d.k = 3
    · rw [if_pos e3, if_neg (by omega)]; exact k6
    · rw [if_neg e3]
      by_cases e4 : d.k = 4
      · rw [if_pos (.inl e4), if_pos e4]; exact k8 e4
      · rw [if_neg e4]
        split
        · exact k7
        · omega
/-- A field whose word, and what it refers to, lie as they were laid. -/
theorem fld_res {s : Sch} {n : Nat} {f : Nat → Nat} {N : Nat}
    (ih : ∀ (t K p z c : Nat) (kf : Nat → Tr), t < s.n → 0 < K → (∀ j, j < K → chk s n t (kf j) = 0) → Lies f N z (piece s n t K kf) → c + 1 ≤ z → z ≤ N → Res N z (piece s n t K kf).length c (strV s f N n t p z K c))
    {d : Fd} (h : FdOk s n d) {p o c : Nat} (hp : p < N) (ho : 1 ≤ o) (ho2 : o < 4294967296) (hw : f p = ownWd d o) (hL : Lies f N (p + o) (fpc (piece s n) d)) (hc : c + 1 ≤ p + o) (hz : p + o ≤ N) : Res N (p + o) (fpc (piece s n) d).length c (gV f N (strV s f N n) p d c) := by
  unfold gV
  by_cases h0 : d.n = 0
  · rw [h.fpc0 h0]
    have e : fldV f N (strV s f N n) d.k d.τ p c = (none, c) := by
      unfold fldV
      rw [if_pos]
      by_cases h1 : d.k = 1
      · exact .inl h1
      · refine .inr ?_
        rw [hw, ownWd, if_neg (by omega), h.num0 h1]
    rw [e]
    exact .nil hz
  · have h1 : ¬ d.k = 1 := fun e => h0 (by unfold Fd.n; rw [if_neg (by omega), if_neg (by omega), if_neg (by omega)])
    have hn := h.n_le
    have hm := mostV_le d.k
    obtain ⟨e1, e2⟩ := refN_lo ho2 (show d.n < 4294967296 by omega)
    have hw' : f p = refN (o : Int) (d.n : Int) := by rw [hw, ownWd, if_pos (by omega)]
    unfold fldV
    rw [hw', e1, e2, if_neg (by rintro (g | g); exact h1 g; rw [g] at e2; omega), if_neg (by omega)]
    obtain ⟨-, -, -, -, -, -, -, -⟩ := h.ok
    by_cases k2 : d.k = 2
    · have en : d.n = d.y.bs.size := by unfold Fd.n; rw [if_pos k2]
      have ef : fpc (piece s n) d = wordsB d.y.bs := by unfold fpc; rw [if_pos k2]
      rw [if_pos k2, ef, wordsB_length, en]
      rw [ef] at hL
      have := Res.then_ (N := N) (z := p + o) (d1 := cnt d.y.bs.size) (d2 := 0) (c := c) (g := fun c => if Bt.okB (fun j => f (p + o + j)) (cnt d.y.bs.size) ((d.y.bs.size : Nat) : Int) then (none, c) else (some (10, p), c)) (claimV_res (p := p) hc) fun hr => by
        have hok : Bt.okT (fun j => f (p + o + j)) (cnt d.y.bs.size) ((d.y.bs.size : Nat) : Int) :=
          okT_congr (fun j hj => by rw [hL j (by rw [wordsB_length]; exact hj) (by omega), nth_wordsB _ hj]) (Bt.okT_words d.y.bs)
        simp only [Bt.okB_of hok, if_true]
        exact .nil (by omega)
      simpa using this
    · rw [if_neg k2]
      by_cases k3 : d.k = 3
      · have en : d.n = d.y.nl := by unfold Fd.n; rw [if_neg k2, if_pos k3]
        have ef : fpc (piece s n) d = numsL d.y := by unfold fpc; rw [if_neg k2, if_pos k3]
        rw [if_pos k3, ef, numsL_length, en]
        exact claimV_res hc
      · have k4 : d.k = 4 ∨ d.k = 5 := by have := h.lo; have := h.hi; omega
        have en : d.n = d.y.kl := by unfold Fd.n; rw [if_neg k2, if_neg k3, if_pos k4]
        have ef : fpc (piece s n) d = piece s n d.τ d.y.kl d.y.kf := by unfold fpc; rw [if_neg k2, if_neg k3, if_pos k4]
        rw [if_neg k3, ef, en]
        rw [ef] at hL
        exact ih _ _ _ _ _ _ h.lt (by omega) h.kids hL hc hz
/-- Fields whose words, and all that they refer to, lie as they were laid. -/
theorem lst_res {s : Sch} {n : Nat} {f : Nat → Nat} {N : Nat} (hN : N < 4294967296)
    (ih : ∀ (t K p z c : Nat) (kf : Nat → Tr), t < s.n → 0 < K → (∀ j, j < K → chk s n t (kf j) = 0) → Lies f N z (piece s n t K kf) → c + 1 ≤ z → z ≤ N → Res N z (piece s n t K kf).length c (strV s f N n t p z K c)) :
    ∀ (fs : List Fd) (p q c : Nat), (∀ d, d ∈ fs → FdOk s n d) → Lies f N p (ownWs (piece s n) fs q) → Lies f N (p + fs.length + q) (refs (piece s n) fs) → c + 1 ≤ p + fs.length + q → p + fs.length + q ≤ N → Res N (p + fs.length + q) (refs (piece s n) fs).length c (lstV (gV f N (strV s f N n)) fs p c) := by
  intro fs
  induction fs with
  | nil => intro p q c _ _ _ _ hz; exact .nil hz
  | cons d fs ihl =>
    intro p q c hok hO hR hc hz
    simp only [List.length_cons] at hR hc hz ⊢
    rw [refs_cons] at hR ⊢
    rw [List.length_append, lstV]
    have e0 : p + (fs.length + 1) + q = p + (fs.length + 1 + q) := by omega
    have hw := hO.head (by omega)
    refine Res.then_ ?_ fun hr => ?_
    · rw [e0] at hR hc hz ⊢
      exact fld_res ih (hok d (List.mem_cons_self ..)) (by omega) (by omega) (by omega) hw hR.left hc hz
    · have h2 := ihl (p + 1) (q + (fpc (piece s n) d).length) (c + (fpc (piece s n) d).length) (fun g hg => hok g (List.mem_cons_of_mem _ hg)) hO.tail (by
        have := hR.right
        rw [show p + 1 + fs.length + (q + (fpc (piece s n) d).length) = p + (fs.length + 1) + q + (fpc (piece s n) d).length by omega]
        exact this) (by omega) (by omega)
      rw [show p + 1 + fs.length + (q + (fpc (piece s n) d).length) = p + (fs.length + 1) + q + (fpc (piece s n) d).length by omega] at h2
      exact h2
theorem mem_fdsX {s : Sch} (hR : RightS s) {n t : Nat} (ht : t < s.n) {x : Tr} (h : chk s (n + 1) t x = 0) {d : Fd} (hd : d ∈ fdsX s t x x.kl) : FdOk s n d := by
  obtain ⟨e, he, hso, hk⟩ := chk_inv h
  obtain rfl : n = e := by omega
  simp only [fdsX, List.mem_map, List.mem_range] at hd
  obtain ⟨i, hi, rfl⟩ := hd
  have hil : i < s.len t := by rw [← hso.2.2.2]; exact hi
  have hf := hR.field ht hil
  exact ⟨(hk i hi).1, hf.1, hf.2.1, hR.tlt ht hil, (hk i hi).2⟩
theorem chk_kl {s : Sch} {n t : Nat} {x : Tr} (h : chk s n t x = 0) : x.kl = s.len t := by
  obtain ⟨e, he, hso, hk⟩ := chk_inv h
  exact hso.2.2.2
/-- Structs that lie as they were laid. -/
theorem str_res {s : Sch} (hR : RightS s) {f : Nat → Nat} {N : Nat} (hN : N < 4294967296) : ∀ (n t K p z c : Nat) (kf : Nat → Tr), t < s.n → 0 < K → (∀ j, j < K → chk s n t (kf j) = 0) → Lies f N z (piece s n t K kf) → c + 1 ≤ z → z ≤ N → Res N z (piece s n t K kf).length c (strV s f N n t p z K c) := by
  intro n
  induction n with
  | zero => intro t K p z c kf _ hK h; have := h 0 hK; simp [chk] at this
  | succ n ih =>
    intro t K p z c kf ht hK h hL hc hz
    have hlen := fdsK_len s t kf (s.len t) K fun j hj => chk_kl (h j hj)
    have hmem : ∀ d, d ∈ fdsK s t kf K → FdOk s n d := fun d hd => by
      simp only [fdsK, List.mem_flatMap, List.mem_range] at hd
      obtain ⟨j, hj, hd⟩ := hd
      exact mem_fdsX hR ht (h j hj) hd
    rw [piece] at hL ⊢
    rw [List.length_append, ownWs_len, hlen, strV]
    refine Res.then_ (claimV_res hc) fun hr => ?_
    rw [itV_fdsK s f N (strV s f N n) t kf z _ K fun j hj => chk_kl (h j hj)]
    have h2 := hL.right
    rw [ownWs_len, hlen] at h2
    have h3 := lst_res hN ih (fdsK s t kf K) z 0 (c + K * s.len t) hmem hL.left (by rw [hlen, Nat.add_zero]; exact h2) (by rw [hlen]; omega) (by rw [hlen]; omega)
    rw [hlen, Nat.add_zero] at h3
    exact h3
/-- A message, or as much of it as there is. -/
theorem body_res {s : Sch} (hR : RightS s) {t : Nat} (ht : t < s.n) {x : Tr} (h : chk s 5 t x = 0) {f : Nat → Nat} {N : Nat} (hN : N ≤ 200) (h1 : 1 ≤ N) (h0 : f 0 / 4294967296 = t) (hL : Lies f N 1 (piece s 5 t 1 (fun _ => x))) : Res N 1 (piece s 5 t 1 (fun _ => x)).length 0 (bodyV s f N) := by
  have hlen := fdsK_len s t (fun _ => x) (s.len t) 1 fun j hj => chk_kl h
  rw [Nat.one_mul] at hlen
  have e : fdsK s t (fun _ => x) 1 = fdsX s t x x.kl := by simp [fdsK]
  unfold bodyV
  rw [h0]
  rw [piece] at hL ⊢
  rw [List.length_append, ownWs_len, hlen]
  refine Res.then_ (claimV_res (by omega)) fun hr => ?_
  have h2 := hL.right
  rw [ownWs_len, hlen] at h2
  have h3 := lst_res (by omega) (str_res hR (by omega) 4) (fdsK s t (fun _ => x) 1) 1 0 (0 + s.len t) (fun d hd => by rw [e] at hd; exact mem_fdsX hR ht h hd) hL.left (by rw [hlen, Nat.add_zero]; exact h2) (by rw [hlen]; omega) (by rw [hlen]; omega)
  rw [hlen, Nat.add_zero, e, chk_kl h, ← itV_fdsX] at h3
  rw [e, chk_kl h]
  exact h3

end Go.Proofs.YthcachmcjekckaaDoor
