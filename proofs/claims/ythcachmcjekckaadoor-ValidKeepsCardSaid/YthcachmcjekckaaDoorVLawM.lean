/- What is told of a message that was built, whole, cut, or changed. -/
import Derived.Test.YthcachmcjekckaaDoorVBuilt
import Derived.Test.YthcachmcjekckaaDoorVOne
import Derived.Test.YthcachmcjekckaaDoorBMsg
namespace Go.Proofs.YthcachmcjekckaaDoor
open Go.RowKit
theorem msg_0 (s : Sch) (t : Nat) (x : Tr) : nth (msgL s t x) 0 = refN ((1 + wds true x : Nat) : Int) (t : Int) := by rw [msgL_piece, nth, List.getD_cons_zero]
theorem msg_lies (s : Sch) (t : Nat) (x : Tr) (N : Nat) : Lies (nth (msgL s t x)) N 1 (piece s 5 t 1 (fun _ => x)) := fun i _ _ => by
  rw [msgL_piece]
  exact nth_append_right (L := [refN ((1 + wds true x : Nat) : Int) (t : Int)]) (M := piece s 5 t 1 (fun _ => x)) i
theorem msg_piece_len {s : Sch} (hR : RightS s) {t : Nat} (ht : t < s.n) {x : Tr} (h : chk s 5 t x = 0) : (piece s 5 t 1 (fun _ => x)).length = wds true x := by
  have := msgL_len hR ht h
  rw [msgL_piece, List.length_cons] at this
  omega
/-- A message, or as much of it as there is, its first word saying how much. -/
theorem lookP_part {s : Sch} (hR : RightS s) {t : Nat} (ht : t < s.n) {x : Tr} (h : chk s 5 t x = 0) {f : Nat → Nat} {N : Nat} (h1 : 1 ≤ N) (h2 : N ≤ 200) (hlo : f 0 % 4294967296 = N) (hhi : f 0 / 4294967296 = t) (hL : Lies f N 1 (piece s 5 t 1 (fun _ => x))) :
    (1 + wds true x ≤ N → lookP s f N = ([], wds true x)) ∧ (N < 1 + wds true x → ∃ p c, lookP s f N = ([(0, p), (23, 0)], c)) := by
  have hr := body_res hR ht h h2 h1 hhi hL
  rw [msg_piece_len hR ht h] at hr
  have e : lookP s f N = vrP (bodyV s f N) := by
    unfold lookP
    rw [if_neg (by rw [okS_true hR]; decide), if_neg (by omega), if_neg (by rw [hhi]; omega)]
  rw [e]
  refine ⟨fun g => ?_, fun g => ?_⟩
  · rw [hr.1 g]; simp [vrP]
  · obtain ⟨p, c, e⟩ := hr.2 g
    rw [e]
    exact ⟨(p : Int), c, rfl⟩
theorem lookP_built {s : Sch} (hR : RightS s) {t : Nat} (ht : t < s.n) {x : Tr} (h : chk s 5 t x = 0) (hl : 1 + wds true x ≤ 200) : lookP s (nth (msgL s t x)) (1 + wds true x) = ([], wds true x) := by
  have h8 := hR.2.1
  refine (lookP_part hR ht h (by omega) hl ?_ ?_ (msg_lies s t x _)).1 (Nat.le_refl _)
  · rw [msg_0]; exact (refN_lo (by omega) (by omega)).1
  · rw [msg_0]; exact (refN_lo (by omega) (by omega)).2
theorem lookP_zero {s : Sch} (hR : RightS s) (f : Nat → Nat) : lookP s f 0 = ([(21, 0)], 0) := by
  unfold lookP
  rw [if_neg (by rw [okS_true hR]; decide), if_pos (.inl rfl)]
theorem lookP_wide {s : Sch} (hR : RightS s) (f : Nat → Nat) {N : Nat} (h : 200 < N) : lookP s f N = ([(21, 0)], 0) := by
  unfold lookP
  rw [if_neg (by rw [okS_true hR]; decide), if_pos (.inr h)]
theorem lookP_form {s : Sch} (hR : RightS s) (f : Nat → Nat) {N : Nat} (h1 : 1 ≤ N) (h2 : N ≤ 200) (h : ¬ f 0 % 4294967296 = N) : lookP s f N = ([(0, 0), (10, 0)], 0) := by
  unfold lookP
  rw [if_neg (by rw [okS_true hR]; decide), if_neg (by omega), if_pos (.inl h)]
/-- What a made struct's message is. -/
theorem bmsg_cases {s : Sch} (hR : RightS s) {t : Nat} (ht : t < s.n) {x : Tr} (h : chk s 5 t x = 0) : (200 < 1 + wds true x ∧ bmsg s t x = []) ∨ (1 + wds true x ≤ 200 ∧ bmsg s t x = msgL s t x ∧ (msgL s t x).length = 1 + wds true x) := by
  have hc : chkC s (t : Int) x = 0 := by rw [chkC_ok hR ht]; exact h
  have hz : sizeC s (t : Int) x = 1 + wds true x := if_pos hc
  by_cases g : 200 < 1 + wds true x
  · refine .inl ⟨g, ?_⟩
    have : bcode s (t : Int) x = 21 := by rw [bcode, if_pos hc, if_pos (by omega)]
    rw [bmsg, if_neg (by omega)]
  · refine .inr ⟨by omega, ?_, msgL_len hR ht h⟩
    have : bcode s (t : Int) x = 0 := by rw [bcode, if_pos hc, if_neg (by omega)]
    rw [bmsg, if_pos this, Int.toNat_natCast]

end Go.Proofs.YthcachmcjekckaaDoor
