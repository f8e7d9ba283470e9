/- Lists of blocks, and four clients that take and give, as numbers: each block is in one place. -/
import Derived.Test.YtkpffnihnhlghaaDoorPMkM
namespace Go.Proofs.YtkpffnihnhlghaaDoor
open Go.RowKit
namespace Pm
def blk (z : Nat) : Nat := z % 4294967296
def tagN (z : Nat) : Nat := z / 4294967296
def turnN (z b : Nat) : Nat := (z / 4294967296 + 1) % 4294967296 * 4294967296 + b % 4294967296
theorem turnN_blk (z b : Nat) : blk (turnN z b) = b % 4294967296 := by unfold blk turnN; omega
theorem turnN_tag {z : Nat} (b : Nat) (h : tagN z + 1 < 4294967296) : tagN (turnN z b) = tagN z + 1 := by unfold tagN turnN at *; omega
theorem turnN_lt (z b : Nat) : turnN z b < 18446744073709551616 := by unfold turnN; omega
def putN (f : Nat → Nat) (i v : Nat) : Nat → Nat := fun j => if j = i then v else f j
theorem putN_at (f : Nat → Nat) (i v : Nat) : putN f i v i = v := by simp [putN]
theorem putN_ne (f : Nat → Nat) {i j : Nat} (v : Nat) (h : j ≠ i) : putN f i v j = f j := by simp [putN, h]

/-- A list of blocks: from that word on. -/
def Ch (ad : Nat → Nat) (f : Nat → Nat) : Nat → List Nat → Prop
  | i, [] => blk (f i) = 0
  | i, b :: L => blk (f i) = b ∧ b ≠ 0 ∧ Ch ad f (ad b) L
theorem Ch.congr {ad f g : Nat → Nat} : ∀ {L : List Nat} {i : Nat}, Ch ad f i L → blk (g i) = blk (f i) → (∀ b ∈ L, g (ad b) = f (ad b)) → Ch ad g i L
  | [], i, h, h1, _ => by rw [Ch] at *; rw [h1]; exact h
  | b :: L, i, h, h1, h2 => by
    rw [Ch] at *
    exact ⟨by rw [h1]; exact h.1, h.2.1, Ch.congr h.2.2 (by rw [h2 b (by simp)]) fun c hc => h2 c (by simp [hc])⟩
theorem Ch.unique {ad f : Nat → Nat} : ∀ {L M : List Nat} {i : Nat}, Ch ad f i L → Ch ad f i M → L = M
  | [], [], _, _, _ => rfl
  | [], c :: M, _, h, k => by rw [Ch] at h; rw [Ch] at k; exact absurd (k.1.symm.trans h) k.2.1
  | b :: L, [], _, h, k => by rw [Ch] at h; rw [Ch] at k; exact absurd (h.1.symm.trans k) h.2.1
  | b :: L, c :: M, i, h, k => by
    rw [Ch] at h k
    obtain rfl : b = c := h.1.symm.trans k.1
    rw [Ch.unique h.2.2 k.2.2]
/-- The list from another word that leads to the same block. -/
theorem Ch.move {ad f : Nat → Nat} {i j : Nat} : ∀ {L : List Nat}, Ch ad f i L → blk (f j) = blk (f i) → Ch ad f j L
  | [], h, e => by rw [Ch] at *; rw [e]; exact h
  | b :: L, h, e => by rw [Ch] at *; exact ⟨e.trans h.1, h.2⟩
theorem Ch.first {ad f : Nat → Nat} {i : Nat} {L : List Nat} (h : Ch ad f i L) (h0 : blk (f i) ≠ 0) : ∃ M, L = blk (f i) :: M ∧ Ch ad f (ad (blk (f i))) M := by
  cases L with
  | nil => rw [Ch] at h; exact absurd h h0
  | cons b M => rw [Ch] at h; obtain ⟨h1, h2, h3⟩ := h; subst h1; exact ⟨M, rfl, h3⟩
theorem Ch.none {ad f : Nat → Nat} {i : Nat} {L : List Nat} (h : Ch ad f i L) (h0 : blk (f i) = 0) : L = [] := by
  cases L with
  | nil => rfl
  | cons b M => rw [Ch] at h; obtain ⟨h1, h2, h3⟩ := h; omega
/-- The first one is taken. -/
theorem Ch.pop {ad f : Nat → Nat} {i b : Nat} {L : List Nat} (h : Ch ad f i (b :: L)) (hi : ∀ c ∈ b :: L, ad c ≠ i) : Ch ad (putN f i (turnN (f i) (blk (f (ad b))))) i L := by
  rw [Ch] at h
  have h3 : Ch ad f (ad b) L := h.2.2
  have h4 : Ch ad (putN f i (turnN (f i) (blk (f (ad b))))) (ad b) L := h3.congr (by rw [putN_ne _ _ (hi b (by simp))]) fun c hc => putN_ne _ _ (hi c (by simp [hc]))
  refine h4.move ?_
  rw [putN_at, turnN_blk, putN_ne _ _ (hi b (by simp))]
  unfold blk; omega
/-- A block is put ahead. -/
theorem Ch.push {ad f : Nat → Nat} {i b : Nat} {L : List Nat} (h : Ch ad f i L) (hb : b ≠ 0) (hb2 : b < 4294967296) (e : blk (f (ad b)) = blk (f i)) (hi : ∀ c ∈ b :: L, ad c ≠ i) : Ch ad (putN f i (turnN (f i) b)) i (b :: L) := by
  rw [Ch]
  refine ⟨by rw [putN_at, turnN_blk]; omega, hb, ?_⟩
  refine (h.move e).congr (by rw [putN_ne _ _ (hi b (by simp))]) fun c hc => putN_ne _ _ (hi c (by simp [hc]))

/-- What a client does. -/
inductive Job where
  | idle
  | take (c k h r : Nat)
  | give (b k h : Nat)
def Job.giv : Job → List Nat
  | .give b _ _ => [b]
  | _ => []
/-- Where blocks lie, and of what class they are. -/
structure Env where
  n : Nat
  cl : Nat → Nat
  ad : Nat → Nat
  lo : ∀ b, 1 ≤ b → b ≤ n → 7 ≤ ad b
  inj : ∀ a b, 1 ≤ a → a ≤ n → 1 ≤ b → b ≤ n → ad a = ad b → a = b
  two : ∀ b, 1 ≤ b → b ≤ n → cl b < 2
  out : ∀ b, ¬ (1 ≤ b ∧ b ≤ n) → 2 ≤ cl b
  sm : n < 4294967296
/-- What is said of a client's job. -/
def JobOk (E : Env) (f : Nat → Nat) : Job → Prop
  | .idle => True
  | .take c k h r => c < 2 ∧ 1 ≤ k ∧ k ≤ 3 ∧ (2 ≤ k → E.cl (blk h) = c ∧ (tagN h < tagN (f (3 + c)) ∨ h = f (3 + c))) ∧ (k = 3 → tagN h < tagN (f (3 + c)) ∨ blk (f (E.ad (blk h))) = r)
  | .give b k h => 1 ≤ b ∧ b ≤ E.n ∧ 1 ≤ k ∧ k ≤ 3 ∧ (2 ≤ k → tagN h < tagN (f (3 + E.cl b)) ∨ h = f (3 + E.cl b)) ∧ (k = 3 → blk (f (E.ad b)) = blk h)
structure S where
  f : Nat → Nat
  L : Nat → List Nat
  own : Nat → List Nat
  job : Nat → Job
def upd {α : Type} (g : Nat → α) (k : Nat) (v : α) : Nat → α := fun j => if j = k then v else g j
theorem upd_at {α : Type} (g : Nat → α) (k : Nat) (v : α) : upd g k v k = v := by simp [upd]
theorem upd_ne {α : Type} (g : Nat → α) {k j : Nat} (v : α) (h : j ≠ k) : upd g k v j = g j := by simp [upd, h]
/-- How often a client has a block. -/
def S.has (s : S) (b k : Nat) : Nat := (s.own k).count b + (s.job k).giv.count b
def S.all (s : S) (b : Nat) : Nat := (s.L 0).count b + (s.L 1).count b + (s.has b 0 + s.has b 1 + s.has b 2 + s.has b 3)
structure Inv (E : Env) (i : Nat) (s : S) : Prop where
  ch : ∀ c, c < 2 → Ch E.ad s.f (3 + c) (s.L c)
  cl : ∀ c, c < 2 → ∀ b ∈ s.L c, E.cl b = c
  cnt : ∀ b, s.all b = if 1 ≤ b ∧ b ≤ E.n then 1 else 0
  tag : ∀ c, c < 2 → tagN (s.f (3 + c)) ≤ i
  job : ∀ k, k < 4 → JobOk E s.f (s.job k)
section
variable {E : Env} {i : Nat} {s : S}
theorem S.has_le (s : S) (b k : Nat) (hk : k < 4) : s.has b k ≤ s.all b := by
  unfold S.all
  rcases (show k = 0 ∨ k = 1 ∨ k = 2 ∨ k = 3 by omega) with rfl | rfl | rfl | rfl <;> omega
theorem Inv.range (h : Inv E i s) {b : Nat} (hb : 0 < s.all b) : 1 ≤ b ∧ b ≤ E.n := by
  have := h.cnt b
  by_cases g : 1 ≤ b ∧ b ≤ E.n
  · exact g
  · rw [if_neg g] at this; omega
theorem Inv.list_in (h : Inv E i s) {c : Nat} (hc : c < 2) {b : Nat} (hb : b ∈ s.L c) : 1 ≤ b ∧ b ≤ E.n := by
  have := List.count_pos_iff.2 hb
  refine h.range ?_
  unfold S.all
  rcases (show c = 0 ∨ c = 1 by omega) with rfl | rfl <;> omega
theorem Inv.ad_ne (h : Inv E i s) {c c' : Nat} (hc : c < 2) (hc' : c' < 2) : ∀ b ∈ s.L c, E.ad b ≠ 3 + c' := fun b hb => by
  have := h.list_in hc hb
  have := E.lo b this.1 this.2
  omega
/-- Who gives a block back has it alone. -/
theorem Inv.giv_list (h : Inv E i s) {k b m w : Nat} (hk : k < 4) (hj : s.job k = .give b m w) {c : Nat} (hc : c < 2) : ¬ b ∈ s.L c := fun hb => by
  have h1 := List.count_pos_iff.2 hb
  have h2 : 0 < s.has b k := by unfold S.has; rw [hj]; simp [Job.giv]
  have h3 := h.cnt b
  have h4 : s.all b ≤ 1 := by rw [h3]; split <;> omega
  unfold S.all at h4
  rcases (show k = 0 ∨ k = 1 ∨ k = 2 ∨ k = 3 by omega) with rfl | rfl | rfl | rfl <;> rcases (show c = 0 ∨ c = 1 by omega) with rfl | rfl <;> omega
theorem Inv.giv_giv (h : Inv E i s) {k k' b m w m' w' : Nat} (hk : k < 4) (hk' : k' < 4) (hj : s.job k = .give b m w) (hj' : s.job k' = .give b m' w') : k = k' := by
  have h2 : 0 < s.has b k := by unfold S.has; rw [hj]; simp [Job.giv]
  have h2' : 0 < s.has b k' := by unfold S.has; rw [hj']; simp [Job.giv]
  have h3 := h.cnt b
  have h4 : s.all b ≤ 1 := by rw [h3]; split <;> omega
  unfold S.all at h4
  rcases (show k = 0 ∨ k = 1 ∨ k = 2 ∨ k = 3 by omega) with rfl | rfl | rfl | rfl <;> rcases (show k' = 0 ∨ k' = 1 ∨ k' = 2 ∨ k' = 3 by omega) with rfl | rfl | rfl | rfl <;> first | rfl | omega
theorem all_upd {s t : S} {k : Nat} (hk : k < 4) (hL : ∀ b, (t.L 0).count b + (t.L 1).count b + t.has b k = (s.L 0).count b + (s.L 1).count b + s.has b k) (hh : ∀ b j, j ≠ k → t.has b j = s.has b j) (b : Nat) : t.all b = s.all b := by
  unfold S.all
  have h1 := hL b
  have h2 := hh b
  rcases (show k = 0 ∨ k = 1 ∨ k = 2 ∨ k = 3 by omega) with rfl | rfl | rfl | rfl
  · rw [h2 1 (by omega), h2 2 (by omega), h2 3 (by omega)]; omega
  · rw [h2 0 (by omega), h2 2 (by omega), h2 3 (by omega)]; omega
  · rw [h2 1 (by omega), h2 0 (by omega), h2 3 (by omega)]; omega
  · rw [h2 1 (by omega), h2 2 (by omega), h2 0 (by omega)]; omega
/-- A step that changes no word, and of the clients what one does alone. -/
theorem Inv.quiet (h : Inv E i s) {k : Nat} (hk : k < 4) (j : Job) (hg : j.giv = (s.job k).giv) (hj : JobOk E s.f j) : Inv E (i + 1) { s with job := upd s.job k j } := by
  refine ⟨h.ch, h.cl, fun b => (all_upd hk (fun b => ?_) (fun b m hm => ?_) b).trans (h.cnt b), fun c hc => Nat.le_succ_of_le (h.tag c hc), fun m hm => ?_⟩
  · show _ + _ + ((s.own k).count b + (upd s.job k j k).giv.count b) = _
    rw [upd_at, hg]; rfl
  · show (s.own m).count b + (upd s.job k j m).giv.count b = _
    rw [upd_ne _ _ hm]; rfl
  · by_cases e : m = k
    · subst e; show JobOk E s.f (upd s.job m j m); rw [upd_at]; exact hj
    · show JobOk E s.f (upd s.job k j m); rw [upd_ne _ _ e]; exact h.job m hm
theorem Inv.later (h : Inv E i s) {i' : Nat} (hi : i ≤ i') : Inv E i' s := ⟨h.ch, h.cl, h.cnt, fun c hc => Nat.le_trans (h.tag c hc) hi, h.job⟩
/-- A client begins to take. -/
theorem Inv.begin_take (h : Inv E i s) {k : Nat} (hk : k < 4) (hj : s.job k = .idle) (c : Nat) (hc : c < 2) : Inv E i { s with job := upd s.job k (.take c 1 0 0) } := by
  have h1 := h.quiet hk (.take c 1 0 0) (by rw [hj]; rfl) ⟨hc, by omega, by omega, fun h => by omega, fun h => by omega⟩
  exact ⟨h1.ch, h1.cl, h1.cnt, h.tag, h1.job⟩
/-- .. to give one of its own back. -/
theorem Inv.begin_give (h : Inv E i s) {k : Nat} (hk : k < 4) (hj : s.job k = .idle) (A B : List Nat) (b : Nat) (ho : s.own k = A ++ b :: B) : Inv E i { s with own := upd s.own k (A ++ B), job := upd s.job k (.give b 1 0) } := by
  have hin : 1 ≤ b ∧ b ≤ E.n := h.range (Nat.lt_of_lt_of_le (by unfold S.has; rw [ho]; simp; omega) (s.has_le b k hk))
  refine ⟨h.ch, h.cl, fun b' => (all_upd hk (fun b' => ?_) (fun b' m hm => ?_) b').trans (h.cnt b'), h.tag, fun m hm => ?_⟩
  · show _ + _ + ((upd s.own k (A ++ B) k).count b' + (upd s.job k (.give b 1 0) k).giv.count b') = _ + _ + ((s.own k).count b' + (s.job k).giv.count b')
    rw [upd_at, upd_at, ho, hj]
    simp only [Job.giv, List.count_append, List.count_cons, List.count_nil]
    omega
  · show (upd s.own k (A ++ B) m).count b' + (upd s.job k (.give b 1 0) m).giv.count b' = _
    rw [upd_ne _ _ hm, upd_ne _ _ hm]; rfl
  · by_cases e : m = k
    · subst e; show JobOk E s.f (upd s.job m _ m); rw [upd_at]; exact ⟨hin.1, hin.2, by omega, by omega, fun h => by omega, fun h => by omega⟩
    · show JobOk E s.f (upd s.job k _ m); rw [upd_ne _ _ e]; exact h.job m hm
/-- Step 1 of a take. -/
theorem Inv.take1 (h : Inv E i s) {k c w r : Nat} (hk : k < 4) (hj : s.job k = .take c 1 w r) (r' : Nat) (hcl : E.cl (blk (s.f (3 + c))) = c) : Inv E (i + 1) { s with job := upd s.job k (.take c 2 (s.f (3 + c)) r') } := by
  have h0 := h.job k hk
  rw [hj] at h0
  exact h.quiet hk _ (by rw [hj]; rfl) ⟨h0.1, by omega, by omega, fun _ => ⟨hcl, .inr rfl⟩, fun h => by omega⟩
theorem Inv.take1_none (h : Inv E i s) {k c w r : Nat} (hk : k < 4) (hj : s.job k = .take c 1 w r) : Inv E (i + 1) { s with job := upd s.job k .idle } :=
  h.quiet hk _ (by rw [hj]; rfl) trivial
theorem Inv.take2 (h : Inv E i s) {k c w r : Nat} (hk : k < 4) (hj : s.job k = .take c 2 w r) : Inv E (i + 1) { s with job := upd s.job k (.take c 3 w (blk (s.f (E.ad (blk w))))) } := by
  have h0 := h.job k hk
  rw [hj] at h0
  exact h.quiet hk _ (by rw [hj]; rfl) ⟨h0.1, by omega, by omega, fun _ => h0.2.2.2.1 (by omega), fun _ => .inr rfl⟩
theorem Inv.take3_no (h : Inv E i s) {k c w r : Nat} (hk : k < 4) (hj : s.job k = .take c 3 w r) : Inv E (i + 1) { s with job := upd s.job k (.take c 1 w r) } := by
  have h0 := h.job k hk
  rw [hj] at h0
  exact h.quiet hk _ (by rw [hj]; rfl) ⟨h0.1, by omega, by omega, fun h => by omega, fun h => by omega⟩
theorem Inv.give1 (h : Inv E i s) {k b w : Nat} (hk : k < 4) (hj : s.job k = .give b 1 w) : Inv E (i + 1) { s with job := upd s.job k (.give b 2 (s.f (3 + E.cl b))) } := by
  have h0 := h.job k hk
  rw [hj] at h0
  exact h.quiet hk _ (by rw [hj]; rfl) ⟨h0.1, h0.2.1, by omega, by omega, fun _ => .inr rfl, fun h => by omega⟩
theorem Inv.give3_no (h : Inv E i s) {k b w : Nat} (hk : k < 4) (hj : s.job k = .give b 3 w) : Inv E (i + 1) { s with job := upd s.job k (.give b 1 w) } := by
  have h0 := h.job k hk
  rw [hj] at h0
  exact h.quiet hk _ (by rw [hj]; rfl) ⟨h0.1, h0.2.1, by omega, by omega, fun h => by omega, fun h => by omega⟩
/-- Step 2 of a give: the block leads to what the list began with. -/
theorem Inv.give2 (h : Inv E i s) {k b w : Nat} (hk : k < 4) (hj : s.job k = .give b 2 w) : Inv E (i + 1) { s with f := putN s.f (E.ad b) (blk w), job := upd s.job k (.give b 3 w) } := by
  have h0 := h.job k hk
  rw [hj] at h0
  have hlo := E.lo b h0.1 h0.2.1
  have hf : ∀ c, c < 2 → putN s.f (E.ad b) (blk w) (3 + c) = s.f (3 + c) := fun c hc => putN_ne _ _ (by omega)
  have hcb := E.two b h0.1 h0.2.1
  refine ⟨fun c hc => ?_, h.cl, fun b' => (all_upd hk (fun b' => ?_) (fun b' m hm => ?_) b').trans (h.cnt b'), fun c hc => ?_, fun m hm => ?_⟩
  · refine (h.ch c hc).congr ?_ fun a ha => putN_ne _ _ fun e => ?_
    · show blk (putN s.f (E.ad b) (blk w) (3 + c)) = _; rw [hf c hc]
    · have hl := h.list_in hc ha
      have := E.inj a b hl.1 hl.2 h0.1 h0.2.1 e
      subst this
      exact h.giv_list hk hj hc ha
  · show _ + _ + ((s.own k).count b' + (upd s.job k _ k).giv.count b') = _ + _ + ((s.own k).count b' + (s.job k).giv.count b')
    rw [upd_at, hj]; rfl
  · show (s.own m).count b' + (upd s.job k _ m).giv.count b' = _
    rw [upd_ne _ _ hm]; rfl
  · show tagN (putN s.f (E.ad b) (blk w) (3 + c)) ≤ _
    rw [hf c hc]; exact Nat.le_succ_of_le (h.tag c hc)
  · by_cases e : m = k
    · subst e
      show JobOk E _ (upd s.job m _ m)
      rw [upd_at]
      refine ⟨h0.1, h0.2.1, by omega, by omega, fun _ => ?_, fun _ => ?_⟩
      · show tagN w < tagN (putN s.f (E.ad b) (blk w) (3 + E.cl b)) ∨ _ = putN s.f (E.ad b) (blk w) (3 + E.cl b)
        rw [hf _ hcb]; exact h0.2.2.2.2.1 (by omega)
      · show blk (putN s.f (E.ad b) (blk w) (E.ad b)) = _
        rw [putN_at]; unfold blk; omega
    · show JobOk E _ (upd s.job k _ m)
      rw [upd_ne _ _ e]
      have h1 := h.job m hm
      cases hm' : s.job m with
      | idle => trivial
      | take c' k' h' r' =>
        rw [hm'] at h1
        obtain ⟨a1, a2, a3, a4, a5⟩ := h1
        refine ⟨a1, a2, a3, fun g => ?_, fun g => ?_⟩
        · show _ ∧ (tagN h' < tagN (putN s.f (E.ad b) (blk w) (3 + c')) ∨ h' = putN s.f (E.ad b) (blk w) (3 + c'))
          rw [hf _ a1]; exact a4 g
        · show tagN h' < tagN (putN s.f (E.ad b) (blk w) (3 + c')) ∨ blk (putN s.f (E.ad b) (blk w) (E.ad (blk h'))) = r'
          rw [hf _ a1]
          obtain ⟨b1, b2⟩ := a4 (by omega)
          rcases b2 with b2 | b2
          · exact .inl b2
          · right
            have hbin : 1 ≤ blk h' ∧ blk h' ≤ E.n := Decidable.byContradiction fun g => by have := E.out _ g; omega
            obtain ⟨M, hM, -⟩ := (h.ch c' a1).first (by rw [← b2]; omega)
            have hmem : blk h' ∈ s.L c' := by rw [hM, b2]; simp
            rw [putN_ne _ _ fun e => ?_]
            · rcases a5 g with g | g
              · rw [b2] at g; omega
              · exact g
            · have := E.inj _ _ hbin.1 hbin.2 h0.1 h0.2.1 e
              rw [this] at hmem
              exact h.giv_list hk hj a1 hmem
      | give b' k' h' =>
        rw [hm'] at h1
        obtain ⟨a1, a2, a3, a4, a5, a6⟩ := h1
        refine ⟨a1, a2, a3, a4, fun g => ?_, fun g => ?_⟩
        · show tagN h' < tagN (putN s.f (E.ad b) (blk w) (3 + E.cl b')) ∨ h' = putN s.f (E.ad b) (blk w) (3 + E.cl b')
          rw [hf _ (E.two b' a1 a2)]; exact a5 g
        · show blk (putN s.f (E.ad b) (blk w) (E.ad b')) = _
          rw [putN_ne _ _ fun e => ?_]
          · exact a6 g
          · have := E.inj _ _ a1 a2 h0.1 h0.2.1 e
            subst this
            exact absurd (h.giv_giv hm hk hm' hj) (by omega)
/-- A head that is turned: what others have seen is behind. -/
theorem job_turn {f : Nat → Nat} {c v : Nat} (hc : c < 2) {j : Job} (h : JobOk E f j) (ht : tagN (f (3 + c)) < tagN v) : JobOk E (putN f (3 + c) v) j := by
  cases j with
  | idle => trivial
  | take c' k' h' r' =>
    obtain ⟨a1, a2, a3, a4, a5⟩ := h
    refine ⟨a1, a2, a3, fun g => ?_, fun g => ?_⟩
    · obtain ⟨b1, b2⟩ := a4 g
      refine ⟨b1, ?_⟩
      by_cases e : c' = c
      · subst e; rw [putN_at]; left; rcases b2 with b2 | b2
        · omega
        · rw [b2]; exact ht
      · rw [putN_ne _ _ (by omega)]; exact b2
    · obtain ⟨b1, b2⟩ := a4 (by omega)
      have hbin : 1 ≤ blk h' ∧ blk h' ≤ E.n := Decidable.byContradiction fun g => by have := E.out _ g; omega
      have hlo := E.lo _ hbin.1 hbin.2
      by_cases e : c' = c
      · subst e; rw [putN_at]; left; rcases b2 with b2 | b2
        · omega
        · rw [b2]; exact ht
      · rw [putN_ne _ _ (by omega), putN_ne _ _ (by omega)]; exact a5 g
  | give b' k' h' =>
    obtain ⟨a1, a2, a3, a4, a5, a6⟩ := h
    have hlo := E.lo _ a1 a2
    refine ⟨a1, a2, a3, a4, fun g => ?_, fun g => ?_⟩
    · have b2 := a5 g
      by_cases e : E.cl b' = c
      · rw [e] at b2 ⊢; rw [putN_at]; left; rcases b2 with b2 | b2
        · omega
        · rw [b2]; exact ht
      · rw [putN_ne _ _ (by omega)]; exact b2
    · rw [putN_ne _ _ (by omega)]; exact a6 g
/-- Step 3 of a take: it has the block. -/
theorem Inv.take3 (h : Inv E i s) {k c w r : Nat} (hk : k < 4) (hi : i + 1 < 4294967296) (hj : s.job k = .take c 3 w r) (hw : s.f (3 + c) = w) : ∃ M, s.L c = blk w :: M ∧ E.cl (blk w) = c ∧ 1 ≤ blk w ∧ blk w ≤ E.n ∧ Inv E (i + 1) ⟨putN s.f (3 + c) (turnN w r), upd s.L c M, upd s.own k (s.own k ++ [blk w]), upd s.job k .idle⟩ := by
  have h0 := h.job k hk
  rw [hj] at h0
  obtain ⟨a1, -, -, a4, a5⟩ := h0
  obtain ⟨b1, -⟩ := a4 (by omega)
  have b3 : blk (s.f (E.ad (blk w))) = r := by
    rcases a5 rfl with g | g
    · rw [hw] at g; omega
    · exact g
  have hbin : 1 ≤ blk w ∧ blk w ≤ E.n := Decidable.byContradiction fun g => by have := E.out _ g; omega
  obtain ⟨M, hM, -⟩ := (h.ch c a1).first (by rw [hw]; omega)
  rw [hw] at hM
  have htag := h.tag c a1
  rw [hw] at htag
  have htn : tagN (turnN w r) = tagN w + 1 := turnN_tag r (by omega)
  refine ⟨M, hM, b1, hbin.1, hbin.2, fun c' hc' => ?_, fun c' hc' b' hb' => ?_, fun b' => (all_upd hk (fun b' => ?_) (fun b' m hm => ?_) b').trans (h.cnt b'), fun c' hc' => ?_, fun m hm => ?_⟩
  · show Ch E.ad (putN s.f (3 + c) (turnN w r)) (3 + c') (upd s.L c M c')
    by_cases e : c' = c
    · subst e
      rw [upd_at]
      have hp := (hM ▸ h.ch c' hc' : Ch E.ad s.f (3 + c') (blk w :: M)).pop (fun a ha => h.ad_ne hc' hc' a (hM ▸ ha))
      rw [hw, b3] at hp
      exact hp
    · rw [upd_ne _ _ e]
      exact (h.ch c' hc').congr (by rw [putN_ne _ _ (by omega)]) fun a ha => putN_ne _ _ (h.ad_ne hc' a1 a ha)
  · have hb2 : b' ∈ upd s.L c M c' := hb'
    by_cases e : c' = c
    · subst e
      rw [upd_at] at hb2
      exact h.cl c' hc' b' (by rw [hM]; simp [hb2])
    · rw [upd_ne _ _ e] at hb2
      exact h.cl c' hc' b' hb2
  · show (upd s.L c M 0).count b' + (upd s.L c M 1).count b' + ((upd s.own k (s.own k ++ [blk w]) k).count b' + (upd s.job k .idle k).giv.count b') = _ + _ + ((s.own k).count b' + (s.job k).giv.count b')
    rw [upd_at, upd_at, hj]
    rcases (show c = 0 ∨ c = 1 by omega) with rfl | rfl
    · rw [upd_at, upd_ne _ _ (by omega), hM]
      simp only [Job.giv, List.count_append, List.count_cons, List.count_nil]
      omega
    · rw [upd_at, upd_ne _ _ (by omega), hM]
      simp only [Job.giv, List.count_append, List.count_cons, List.count_nil]
      omega
  · show (upd s.own k _ m).count b' + (upd s.job k _ m).giv.count b' = _
    rw [upd_ne _ _ hm, upd_ne _ _ hm]; rfl
  · show tagN (putN s.f (3 + c) (turnN w r) (3 + c')) ≤ _
    by_cases e : c' = c
    · subst e; rw [putN_at, htn]; omega
    · rw [putN_ne _ _ (by omega)]; exact Nat.le_succ_of_le (h.tag c' hc')
  · by_cases e : m = k
    · subst e; show JobOk E _ (upd s.job m _ m); rw [upd_at]; trivial
    · show JobOk E _ (upd s.job k _ m); rw [upd_ne _ _ e]
      exact job_turn a1 (h.job m hm) (by rw [hw, htn]; omega)
/-- Step 3 of a give: the list begins with the block. -/
theorem Inv.give3 (h : Inv E i s) {k b w : Nat} (hk : k < 4) (hi : i + 1 < 4294967296) (hj : s.job k = .give b 3 w) (hw : s.f (3 + E.cl b) = w) : Inv E (i + 1) ⟨putN s.f (3 + E.cl b) (turnN w b), upd s.L (E.cl b) (b :: s.L (E.cl b)), s.own, upd s.job k .idle⟩ := by
  have h0 := h.job k hk
  rw [hj] at h0
  obtain ⟨a1, a2, -, -, -, a6⟩ := h0
  have hc := E.two b a1 a2
  have hsm := E.sm
  have hlo := E.lo b a1 a2
  have htag := h.tag _ hc
  rw [hw] at htag
  have htn : tagN (turnN w b) = tagN w + 1 := turnN_tag b (by omega)
  refine ⟨fun c' hc' => ?_, fun c' hc' b' hb' => ?_, fun b' => (all_upd hk (fun b' => ?_) (fun b' m hm => ?_) b').trans (h.cnt b'), fun c' hc' => ?_, fun m hm => ?_⟩
  · show Ch E.ad (putN s.f (3 + E.cl b) (turnN w b)) (3 + c') (upd s.L (E.cl b) (b :: s.L (E.cl b)) c')
    by_cases e : c' = E.cl b
    · subst e
      rw [upd_at]
      have hp := (h.ch _ hc').push (b := b) (by omega) (by omega) (by rw [a6 rfl, hw]) (fun a ha => by
        rcases List.mem_cons.1 ha with rfl | ha
        · omega
        · exact h.ad_ne hc' hc' a ha)
      rw [hw] at hp
      exact hp
    · rw [upd_ne _ _ e]
      exact (h.ch c' hc').congr (by rw [putN_ne _ _ (by omega)]) fun a ha => putN_ne _ _ (h.ad_ne hc' hc a ha)
  · have hb2 : b' ∈ upd s.L (E.cl b) (b :: s.L (E.cl b)) c' := hb'
    by_cases e : c' = E.cl b
    · subst e
      rw [upd_at] at hb2
      rcases List.mem_cons.1 hb2 with rfl | hb2
      · rfl
      · exact h.cl _ hc' b' hb2
    · rw [upd_ne _ _ e] at hb2
      exact h.cl c' hc' b' hb2
  · show (upd s.L (E.cl b) (b :: s.L (E.cl b)) 0).count b' + (upd s.L (E.cl b) (b :: s.L (E.cl b)) 1).count b' + ((s.own k).count b' + (upd s.job k .idle k).giv.count b') = _ + _ + ((s.own k).count b' + (s.job k).giv.count b')
    rw [upd_at, hj]
    generalize E.cl b = c at hc ⊢
    rcases (show c = 0 ∨ c = 1 by omega) with rfl | rfl
    · rw [upd_at, upd_ne _ _ (by omega)]
      simp only [Job.giv, List.count_cons, List.count_nil]
      omega
    · rw [upd_at, upd_ne _ _ (by omega)]
      simp only [Job.giv, List.count_cons, List.count_nil]
      omega
  · show (s.own m).count b' + (upd s.job k _ m).giv.count b' = _
    rw [upd_ne _ _ hm]; rfl
  · show tagN (putN s.f (3 + E.cl b) (turnN w b) (3 + c')) ≤ _
    by_cases e : c' = E.cl b
    · subst e; rw [putN_at, htn]; omega
    · rw [putN_ne _ _ (by omega)]; exact Nat.le_succ_of_le (h.tag c' hc')
  · by_cases e : m = k
    · subst e; show JobOk E _ (upd s.job m _ m); rw [upd_at]; trivial
    · show JobOk E _ (upd s.job k _ m); rw [upd_ne _ _ e]
      exact job_turn hc (h.job m hm) (by rw [hw, htn]; omega)
end
end Pm

end Go.Proofs.YtkpffnihnhlghaaDoor
