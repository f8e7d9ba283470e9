/- A message of which one field of its struct is changed, or left out. -/
import Derived.Test.YthcachmcjekckaaDoorVTwo
namespace Go.Proofs.YthcachmcjekckaaDoor
open Go.RowKit
theorem Lies.set {L M : List Nat} {N p pos z : Nat} (h : Lies (nth L) N p M) (hp : pos < p ∨ p + M.length ≤ pos) : Lies (nth (L.set pos z)) N p M := fun i hi hlt => by
  rw [nth_set_ne (by omega)]
  exact h i hi hlt
/-- Fields, of which one is as if it had nothing. -/
theorem lst_but {s : Sch} {n : Nat} {f : Nat → Nat} {N : Nat} (hN : N < 4294967296)
    (ih : ∀ (t K p z c : Nat) (kf : Nat → Tr), t < s.n → 0 < K → (∀ j, j < K → chk s n t (kf j) = 0) → Lies f N z (piece s n t K kf) → c + 1 ≤ z → z ≤ N → Res N z (piece s n t K kf).length c (strV s f N n t p z K c))
    (fs1 fs2 : List Fd) (d : Fd) (p c : Nat) (hok1 : ∀ d, d ∈ fs1 → FdOk s n d) (hok2 : ∀ d, d ∈ fs2 → FdOk s n d)
    (h1 : Lies f N p (ownWs (piece s n) fs1 (fs2.length + 1))) (h2 : Lies f N (p + fs1.length + 1) (ownWs (piece s n) fs2 ((refs (piece s n) fs1).length + (fpc (piece s n) d).length)))
    (hR : Lies f N (p + fs1.length + 1 + fs2.length) (refs (piece s n) (fs1 ++ d :: fs2))) (hc : c + 1 = p + fs1.length + 1 + fs2.length) (hz : p + fs1.length + 1 + fs2.length + (refs (piece s n) (fs1 ++ d :: fs2)).length ≤ N)
    (hd : ∀ c, gV f N (strV s f N n) (p + fs1.length) d c = (none, c)) :
    ∃ c', lstV (gV f N (strV s f N n)) (fs1 ++ d :: fs2) p c = (none, c') := by
  rw [refs_append, refs_cons, List.length_append, List.length_append] at hz
  rw [refs_append, refs_cons] at hR
  have hR1 := hR.left
  have hR2 := hR.right.right
  have e1 : p + fs1.length + 1 + fs2.length = p + fs1.length + (fs2.length + 1) := by omega
  rw [e1] at hR1
  have r1 := lst_res hN ih fs1 p (fs2.length + 1) c hok1 h1 hR1 (by omega) (by omega)
  rw [lstV_append, r1.1 (by omega)]
  show ∃ c', lstV (gV f N (strV s f N n)) (d :: fs2) (p + fs1.length) (c + (refs (piece s n) fs1).length) = (none, c')
  rw [lstV, hd]
  show ∃ c', lstV (gV f N (strV s f N n)) fs2 (p + fs1.length + 1) (c + (refs (piece s n) fs1).length) = (none, c')
  have e2 : p + fs1.length + 1 + fs2.length + ((refs (piece s n) fs1).length + (fpc (piece s n) d).length) = p + fs1.length + 1 + fs2.length + (refs (piece s n) fs1).length + (fpc (piece s n) d).length := by omega
  have r2 := lst_res hN ih fs2 (p + fs1.length + 1) ((refs (piece s n) fs1).length + (fpc (piece s n) d).length) (c + (refs (piece s n) fs1).length) hok2 h2 (by rw [e2]; exact hR2) (by omega) (by omega)
  exact ⟨_, r2.1 (by omega)⟩
/-- A message of which a Num of its struct is another number, or another field is 0, is right. -/
theorem lookP_keeps {s : Sch} (hR : RightS s) {t : Nat} (ht : t < s.n) {x : Tr} (h : chk s 5 t x = 0) (hl : 1 + wds true x ≤ 200) {i z : Nat} (hi : i < s.len t) (hz : s.k t i = 1 ∨ z = 0) : ∃ c, lookP s (nth ((msgL s t x).set (1 + i) z)) (1 + wds true x) = ([], c) := by
  have h8 := hR.2.1
  have hlen := msgL_len hR ht h
  have hkl := chk_kl h
  have hpl := msg_piece_len hR ht h
  have h6 := (hR.2.2 t ht).2.1
  have e0 : nth ((msgL s t x).set (1 + i) z) 0 = refN ((1 + wds true x : Nat) : Int) (t : Int) := by rw [nth_set_ne (by omega), msg_0]
  have hlo : nth ((msgL s t x).set (1 + i) z) 0 % 4294967296 = 1 + wds true x := by rw [e0]; exact (refN_lo (by omega) (by omega)).1
  have hhi : nth ((msgL s t x).set (1 + i) z) 0 / 4294967296 = t := by rw [e0]; exact (refN_lo (by omega) (by omega)).2
  have hfsl : (fdsX s t x x.kl).length = x.kl := fdsX_len s t x x.kl
  obtain ⟨fs1, fs2, d, hfs, hl1, hdk⟩ : ∃ fs1 fs2 d, fdsX s t x x.kl = fs1 ++ d :: fs2 ∧ fs1.length = i ∧ d.k = s.k t i := by
    refine ⟨(fdsX s t x x.kl).take i, (fdsX s t x x.kl).drop (i + 1), (fdsX s t x x.kl)[i]'(by rw [hfsl]; omega), ?_, by rw [List.length_take, hfsl]; omega, by simp [fdsX]⟩
    rw [← List.drop_eq_getElem_cons, List.take_append_drop]
  have hmem : ∀ d, d ∈ fdsX s t x x.kl → FdOk s 4 d := fun d hd => mem_fdsX hR ht h hd
  have hll : fs1.length + 1 + fs2.length = s.len t := by
    have := hfsl
    rw [hfs, List.length_append, List.length_cons] at this
    omega
  have epc : piece s 5 t 1 (fun _ => x) = ownWs (piece s 4) (fs1 ++ d :: fs2) 0 ++ refs (piece s 4) (fs1 ++ d :: fs2) := by
    rw [piece, show fdsK s t (fun _ => x) 1 = fdsX s t x x.kl by simp [fdsK], hfs]
  have hL := msg_lies s t x (1 + wds true x)
  rw [epc] at hL hpl
  rw [List.length_append, ownWs_len, List.length_append, List.length_cons] at hpl
  have hLo := hL.left
  have hLr := hL.right
  rw [ownWs_len, List.length_append, List.length_cons] at hLr
  rw [ownWs_append] at hLo
  have hLo1 := hLo.left
  have hLo2 := hLo.right
  rw [ownWs_len] at hLo2
  have hLo3 : Lies (nth (msgL s t x)) (1 + wds true x) (1 + fs1.length + 1) (ownWs (piece s 4) fs2 ((refs (piece s 4) fs1).length + (fpc (piece s 4) d).length)) := by
    have h9 := hLo2
    rw [ownWs, Nat.zero_add] at h9
    exact h9.tail
  have e : lookP s (nth ((msgL s t x).set (1 + i) z)) (1 + wds true x) = vrP (bodyV s (nth ((msgL s t x).set (1 + i) z)) (1 + wds true x)) := by
    unfold lookP
    rw [if_neg (by rw [okS_true hR]; decide), if_neg (by omega), if_neg (by rw [hhi]; omega)]
  rw [e]
  unfold bodyV
  rw [hhi]
  have hcl := (claimV_res (N := 1 + wds true x) (p := 0) (z := 1) (k := s.len t) (c := 0) (by omega)).1 (by omega)
  rw [hcl, thenV_none rfl, visV, ← hkl, itV_fdsX, hfs]
  have hps : 1 + i < (msgL s t x).length := by omega
  obtain ⟨c', hc'⟩ := lst_but (f := nth ((msgL s t x).set (1 + i) z)) (N := 1 + wds true x) (by omega) (str_res hR (by omega) 4) fs1 fs2 d 1 (0 + x.kl) (fun d hd => hmem d (by rw [hfs]; exact List.mem_append_left _ hd)) (fun d hd => hmem d (by rw [hfs]; exact List.mem_append_right _ (List.mem_cons_of_mem _ hd)))
    (by
      have h9 := hLo1
      rw [List.length_cons, Nat.add_zero] at h9
      exact h9.set (by rw [ownWs_len]; omega))
    (hLo3.set (by omega))
    (by
      have h9 := hLr
      rw [show 1 + (fs1.length + (fs2.length + 1)) = 1 + fs1.length + 1 + fs2.length by omega] at h9
      exact h9.set (by omega))
    (by omega) (by omega)
    (fun c => by
      unfold gV fldV
      rw [if_pos]
      rcases hz with hz | hz
      · exact .inl (by rw [hdk]; exact hz)
      · refine .inr ?_
        rw [hl1, nth_set_eq hps, hz])
  rw [hc']
  exact ⟨c', rfl⟩

end Go.Proofs.YthcachmcjekckaaDoor
