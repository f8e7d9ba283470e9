/- Check; a config in one word: Pack and Unpack. -/
import Derived.Test.YtkpffnihnhlghaaDoorPBits
import Derived.Test.YtkpffnihnhlghaaDoorCsOne
namespace Go.Proofs.YtkpffnihnhlghaaDoor
open Go.RowKit
set_option maxHeartbeats 1000000 in
theorem check_yes (x : Cfg) (w : World) (hL : Lim w) (h : rightB x = true) : Calls Tryd.prog 62 #[(.agg #[.int .i64 x.t, .int .i64 x.s, .int .i64 x.l, .int .i64 x.c, .int .i64 x.s0, .int .i64 x.n0, .int .i64 x.s1, .int .i64 x.n1, .int .i64 x.r])] w fun e w' => e = .returned .nilIface ∧ Below w.heap.size w w' := by
  have HL := Lib.hid hL
  have HR := Lib.hid h
  clear hL h
  go_enter Tryd.func62, Tryd.ntmps62
  go_wp2_with fail
  refine (isRight_any x _ (HL.out.below ((Below.refl _ _).alloc (Nat.le_refl _) _))).mono ?_
  rintro e w1 ⟨rfl, hb⟩
  have H1 := Lib.hid (Below.step (B := w.heap.size) (a := w) (by (repeat (first | with_reducible exact Below.refl _ _ | with_reducible refine Below.drew ?_ | (with_reducible refine Below.setCell ?_ ?side _; case side => exact (by first | (simp; done) | (simp; omega) | omega)) | (with_reducible refine Below.alloc ?_ ?side _; case side => exact (by first | (simp; done) | (simp; omega) | omega))))) hb (by first | (simp; done) | (simp; omega) | omega))
  clear hb
  rw [HR.out]
  go_wp2
  go_ret
  exact ⟨rfl, H1.out⟩

set_option maxHeartbeats 1000000 in
theorem check_no (x : Cfg) (w : World) (hL : Lim w) (h : rightB x = false) : Calls Tryd.prog 62 #[(.agg #[.int .i64 x.t, .int .i64 x.s, .int .i64 x.l, .int .i64 x.c, .int .i64 x.s0, .int .i64 x.n0, .int .i64 x.s1, .int .i64 x.n1, .int .i64 x.r])] w fun e w' => e = .returned (.iface 46 (.int .i64 1)) ∧ Below w.heap.size w w' := by
  have HL := Lib.hid hL
  have HR := Lib.hid h
  clear hL h
  go_enter Tryd.func62, Tryd.ntmps62
  go_wp2_with fail
  refine (isRight_any x _ (HL.out.below ((Below.refl _ _).alloc (Nat.le_refl _) _))).mono ?_
  rintro e w1 ⟨rfl, hb⟩
  have H1 := Lib.hid (Below.step (B := w.heap.size) (a := w) (by (repeat (first | with_reducible exact Below.refl _ _ | with_reducible refine Below.drew ?_ | (with_reducible refine Below.setCell ?_ ?side _; case side => exact (by first | (simp; done) | (simp; omega) | omega)) | (with_reducible refine Below.alloc ?_ ?side _; case side => exact (by first | (simp; done) | (simp; omega) | omega))))) hb (by first | (simp; done) | (simp; omega) | omega))
  clear hb
  rw [HR.out]
  go_wp2_with fail
  refine (Cs.new_code 1 _ rfl).mono ?_
  rintro e w' ⟨rfl, rfl⟩
  go_wp2
  go_ret
  exact ⟨rfl, H1.out⟩

/-- Parts as the digits of a number. -/
def fsum (d : Nat → Nat) : Nat → Nat
  | 0 => 0
  | k + 1 => fsum d k + d k * 128 ^ k
theorem fsum_lt (d : Nat → Nat) (k : Nat) (h : ∀ j, j < k → d j < 128) : fsum d k < 128 ^ k := by
  induction k with
  | zero => simp [fsum]
  | succ k ih =>
    have h1 := ih fun j hj => h j (by omega)
    have h2 := h k (by omega)
    have h3 : d k * 128 ^ k ≤ 127 * 128 ^ k := Nat.mul_le_mul_right _ (by omega)
    rw [fsum, Nat.pow_succ]
    omega
def packN (x : Cfg) : Nat := fsum (fun j => (x.p j).toNat) 9
/-- The packed one. -/
noncomputable def packV (x : Cfg) : Nat := if rightB x then packN x else 0

theorem Right.part {x : Cfg} (h : Right x) (k : Nat) (hk : k < 9) : 0 ≤ x.p k ∧ x.p k < 128 := by
  have := h.b
  obtain rfl | rfl | rfl | rfl | rfl | rfl | rfl | rfl | rfl : k = 0 ∨ k = 1 ∨ k = 2 ∨ k = 3 ∨ k = 4 ∨ k = 5 ∨ k = 6 ∨ k = 7 ∨ k = 8 := by omega
  all_goals simp only [Cfg.p]; omega

set_option maxRecDepth 100000 in
set_option maxHeartbeats 2000000 in
theorem pack_yes (x : Cfg) (w : World) (hL : Lim w) (h : rightB x = true) : Calls Tryd.prog 112 #[(.agg #[.int .i64 x.t, .int .i64 x.s, .int .i64 x.l, .int .i64 x.c, .int .i64 x.s0, .int .i64 x.n0, .int .i64 x.s1, .int .i64 x.n1, .int .i64 x.r])] w fun e w' => e = .returned (.int .u64 (packN x : Int)) ∧ Below w.heap.size w w' := by
  have HL := Lib.hid hL
  have HR := Lib.hid h
  clear hL h
  go_enter Tryd.func112, Tryd.ntmps112
  go_wp2_with fail
  refine (check_yes x _ (HL.out.below ((Below.refl _ _).alloc (Nat.le_refl _) _)) HR.out).mono ?_
  rintro e w1 ⟨rfl, hb⟩
  have H1 := Lib.hid (Below.step (B := w.heap.size) (a := w) (by (repeat (first | with_reducible exact Below.refl _ _ | with_reducible refine Below.drew ?_ | (with_reducible refine Below.setCell ?_ ?side _; case side => exact (by first | (simp; done) | (simp; omega) | omega)) | (with_reducible refine Below.alloc ?_ ?side _; case side => exact (by first | (simp; done) | (simp; omega) | omega))))) hb (by first | (simp; done) | (simp; omega) | omega))
  obtain ⟨c0, c1, c2, c3, c4, c5, c6, c7, c8⟩ := ((cfgAt_box w x).below hb).cells
  clear hb
  go_wp2_with fail
  refine (partsOf_any x _).mono ?_
  rintro e w2 ⟨rfl, hb⟩
  have H2 := Lib.hid (Below.step H1.out hb H1.out.size)
  clear hb H1 c0 c1 c2 c3 c4 c5 c6 c7 c8
  go_wp2_with fail
  go_loopw [3, 11] (fun v i wr => ∃ k : Nat, k ≤ 9 ∧ i = .int .i64 k ∧ v = .int .u64 (fsum (fun j => (x.p j).toNat) k : Int) ∧ Below w.heap.size w wr) (fun _ i _ => 9 - (intOf i).toNat)
  case atStart => exact ⟨0, by omega, rfl, rfl, H2.out⟩
  case round =>
    obtain ⟨k, hk, rfl, rfl, hB⟩ := hrel
    have HB := Lib.hid hB
    clear hB
    by_cases hlt : k < 9
    · have hi1 := idx_parts x k hlt
      obtain ⟨p0, p1⟩ := (right_of HR.out).part k hlt
      have HF := Lib.hid (fsum_lt (fun j => (x.p j).toNat) k (fun j hj => by have := (right_of HR.out).part j (by omega); omega))
      have HN := Lib.hid (show fsum (fun j => (x.p j).toNat) (k + 1) = fsum (fun j => (x.p j).toNat) k + (x.p k).toNat * 128 ^ k from rfl)
      have HT := Lib.hid (Int.toNat_of_nonneg p0)
      obtain ⟨F, EF⟩ : ∃ F, F = fsum (fun j => (x.p j).toNat) k := ⟨_, rfl⟩
      rw [← EF] at HF HN ⊢
      have HEF := Lib.hid EF
      clear EF
      obtain ⟨q, hq⟩ : ∃ q : Nat, x.p k = (q : Int) := ⟨(x.p k).toNat, by omega⟩
      have hqk : q < 128 := by omega
      rw [hq] at hi1
      have HQ := Lib.hid hq
      clear hq p0 p1
      go_wp2_with fail
      refine (set_part F q k hlt HF.out hqk _).mono ?_
      rintro e w' ⟨rfl, m, rfl⟩
      go_wp2
      go_roundw
      case rel =>
        refine ⟨k + 1, by omega, by go_num, ?_, below_drewN HB.out _⟩
        rw [HN.out, HQ.out]
        simp
      case measure => simp [intOf]; omega
    · go_wp2
      go_ret
      have hk9 : k = 9 := by omega
      subst hk9
      exact ⟨rfl, HB.out⟩

set_option maxHeartbeats 1000000 in
theorem pack_no (x : Cfg) (w : World) (hL : Lim w) (h : rightB x = false) : Calls Tryd.prog 112 #[(.agg #[.int .i64 x.t, .int .i64 x.s, .int .i64 x.l, .int .i64 x.c, .int .i64 x.s0, .int .i64 x.n0, .int .i64 x.s1, .int .i64 x.n1, .int .i64 x.r])] w fun e w' => e = .returned (.int .u64 0) ∧ Below w.heap.size w w' := by
  have HL := Lib.hid hL
  have HR := Lib.hid h
  clear hL h
  go_enter Tryd.func112, Tryd.ntmps112
  go_wp2_with fail
  refine (check_no x _ (HL.out.below ((Below.refl _ _).alloc (Nat.le_refl _) _)) HR.out).mono ?_
  rintro e w1 ⟨rfl, hb⟩
  have H1 := Lib.hid (Below.step (B := w.heap.size) (a := w) (by (repeat (first | with_reducible exact Below.refl _ _ | with_reducible refine Below.drew ?_ | (with_reducible refine Below.setCell ?_ ?side _; case side => exact (by first | (simp; done) | (simp; omega) | omega)) | (with_reducible refine Below.alloc ?_ ?side _; case side => exact (by first | (simp; done) | (simp; omega) | omega))))) hb (by first | (simp; done) | (simp; omega) | omega))
  clear hb
  go_wp2
  go_ret
  exact ⟨rfl, H1.out⟩

theorem pack_any (x : Cfg) (w : World) (hL : Lim w) : Calls Tryd.prog 112 #[(.agg #[.int .i64 x.t, .int .i64 x.s, .int .i64 x.l, .int .i64 x.c, .int .i64 x.s0, .int .i64 x.n0, .int .i64 x.s1, .int .i64 x.n1, .int .i64 x.r])] w fun e w' => e = .returned (.int .u64 (packV x : Int)) ∧ Below w.heap.size w w' := by
  by_cases h : rightB x = true
  · rw [packV, if_pos h]; exact pack_yes x w hL h
  · rw [packV, if_neg h]; exact pack_no x w hL (by simpa using h)

/-- The k-th digit. -/
def dg (n k : Nat) : Nat := n / 128 ^ k % 128
/-- The config of a word's parts. -/
def unpC (n : Nat) : Cfg := ⟨dg n 0, dg n 1, dg n 2, dg n 3, dg n 5, dg n 6, dg n 7, dg n 8, dg n 4⟩
theorem unp_p (n k : Nat) (hk : k < 9) : (unpC n).p k = (dg n k : Int) := by
  obtain rfl | rfl | rfl | rfl | rfl | rfl | rfl | rfl | rfl : k = 0 ∨ k = 1 ∨ k = 2 ∨ k = 3 ∨ k = 4 ∨ k = 5 ∨ k = 6 ∨ k = 7 ∨ k = 8 := by omega
  all_goals rfl
theorem fsum_dg (n k : Nat) : fsum (dg n) k = n % 128 ^ k := by
  induction k with
  | zero => simp [fsum, Nat.mod_one]
  | succ k ih => rw [fsum, ih, Nat.mod_pow_succ, dg, Nat.mul_comm]
theorem fsum_congr {d d' : Nat → Nat} {k : Nat} (h : ∀ j, j < k → d j = d' j) : fsum d k = fsum d' k := by
  induction k with
  | zero => rfl
  | succ k ih => rw [fsum, fsum, ih fun j hj => h j (by omega), h k (by omega)]
theorem pack_unp (n : Nat) : packN (unpC n) = n % 9223372036854775808 := by
  rw [packN, fsum_congr (d' := dg n) fun j hj => by rw [unp_p n j hj]; simp, fsum_dg]
theorem dg_fsum (d : Nat → Nat) (m k : Nat) (hk : k < m) (h : ∀ j, j < m → d j < 128) : dg (fsum d m) k = d k := by
  induction m with
  | zero => omega
  | succ m ih =>
    by_cases e : k = m
    · subst e
      have h1 := fsum_lt d k fun j hj => h j (by omega)
      have h2 := h k (by omega)
      rw [dg, fsum, Nat.add_mul_div_right _ _ (Nat.pow_pos (by omega)), Nat.div_eq_of_lt h1, Nat.zero_add, Nat.mod_eq_of_lt h2]
    · rw [← ih (by omega) fun j hj => h j (by omega)]
      obtain ⟨i, hi⟩ : ∃ i, m = k + 1 + i := ⟨m - k - 1, by omega⟩
      have e1 : d m * 128 ^ m = d m * 128 ^ i * 128 * 128 ^ k := by
        rw [hi, show k + 1 + i = i + 1 + k by omega, Nat.pow_add, Nat.pow_add, ← Nat.mul_assoc, ← Nat.mul_assoc]
      rw [dg, fsum, e1, Nat.add_mul_div_right _ _ (Nat.pow_pos (by omega)), Nat.add_mul_mod_self_right, dg]
theorem unp_pack {x : Cfg} (h : Right x) : unpC (packN x) = x := by
  have e : ∀ k, k < 9 → ((dg (packN x) k : Nat) : Int) = x.p k := fun k hk => by
    rw [packN, dg_fsum _ 9 k hk fun j hj => by have := h.part j hj; omega]
    exact Int.toNat_of_nonneg (h.part k hk).1
  have e0 := e 0 (by omega)
  have e1 := e 1 (by omega)
  have e2 := e 2 (by omega)
  have e3 := e 3 (by omega)
  have e4 := e 4 (by omega)
  have e5 := e 5 (by omega)
  have e6 := e 6 (by omega)
  have e7 := e 7 (by omega)
  have e8 := e 8 (by omega)
  simp only [Cfg.p] at e0 e1 e2 e3 e4 e5 e6 e7 e8
  unfold unpC
  rw [e0, e1, e2, e3, e4, e5, e6, e7, e8]
theorem pack_lt {x : Cfg} (h : Right x) : packN x < 9223372036854775808 :=
  fsum_lt _ 9 fun j hj => by have := h.part j hj; omega
theorem pack_pos {x : Cfg} (h : Right x) : 0 < packN x := by
  have e := unp_pack h
  have h1 := h.b
  rcases Nat.eq_zero_or_pos (packN x) with g | g
  · rw [g] at e
    have e2 : (unpC 0).t = x.t := by rw [e]
    have e3 : (unpC 0).t = 0 := by decide
    omega
  · exact g

end Go.Proofs.YtkpffnihnhlghaaDoor
