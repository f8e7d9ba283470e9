/- Check; a config in one word: Pack and Unpack. -/
import Derived.Test.YtkpffnihnhlghaaGreatDoorPBits
import Derived.Test.YtkpffnihnhlghaaGreatDoorCsOne
namespace Go.Proofs.YtkpffnihnhlghaaGreatDoor
open Go.RowKit
set_option maxHeartbeats 1000000 in
theorem check_yes (x : Cfg) (w : World) (hL : Lim w) (h : rightB x = true) : Calls Tryz.prog 25 #[(.agg #[.int .i64 x.t, .int .i64 x.s, .int .i64 x.l, .int .i64 x.c, .int .i64 x.s0, .int .i64 x.n0, .int .i64 x.s1, .int .i64 x.n1, .int .i64 x.r])] w fun e w' => e = .returned .nilIface ∧ Below w.heap.size w w' := by
  have HL := Lib.hid hL
  have HR := Lib.hid h
  clear hL h
  go_enter Tryz.func25, Tryz.ntmps25
  go_wp2_with fail
  refine (isRight_any x _ (HL.out.below ((Below.refl _ _).alloc (Nat.le_refl _) _))).mono ?_
  rintro e w1 ⟨rfl, hb⟩
  have H1 := Lib.hid (Below.step (B := w.heap.size) (a := w) (by (repeat (first | with_reducible exact Below.refl _ _ | with_reducible refine Below.drew ?_ | (with_reducible refine Below.setCell ?_ ?side _; case side => exact (by first | (simp; done) | (simp; omega) | omega)) | (with_reducible refine Below.alloc ?_ ?side _; case side => exact (by first | (simp; done) | (simp; omega) | omega))))) hb (by first | (simp; done) | (simp; omega) | omega))
  clear hb
  rw [HR.out]
  go_wp2
  go_ret
  exact ⟨rfl, H1.out⟩

set_option maxHeartbeats 1000000 in
theorem check_no (x : Cfg) (w : World) (hL : Lim w) (h : rightB x = false) : Calls Tryz.prog 25 #[(.agg #[.int .i64 x.t, .int .i64 x.s, .int .i64 x.l, .int .i64 x.c, .int .i64 x.s0, .int .i64 x.n0, .int .i64 x.s1, .int .i64 x.n1, .int .i64 x.r])] w fun e w' => e = .returned (.iface 50 (.int .i64 1)) ∧ Below w.heap.size w w' := by
  have HL := Lib.hid hL
  have HR := Lib.hid h
  clear hL h
  go_enter Tryz.func25, Tryz.ntmps25
  go_wp2_with fail
  refine (isRight_any x _ (HL.out.below ((Below.refl _ _).alloc (Nat.le_refl _) _))).mono ?_
  rintro e w1 ⟨rfl, hb⟩
  have H1 := Lib.hid (Below.step (B := w.heap.size) (a := w) (by (repeat (first | with_reducible exact Below.refl _ _ | with_reducible refine Below.drew ?_ | (with_reducible refine Below.setCell ?_ ?side _; case side => exact (by first | (simp; done) | (simp; omega) | omega)) | (with_reducible refine Below.alloc ?_ ?side _; case side => exact (by first | (simp; done) | (simp; omega) | omega))))) hb (by first | (simp; done) | (simp; omega) | omega))
  clear hb
  rw [HR.out]
  go_wp2_with fail
  refine (Cs.new_code 1 _ rfl).mono ?_
  rintro e w' ⟨rfl, rfl⟩
  go_wp2
  go_ret
  exact ⟨rfl, H1.out⟩

/-- Parts as the digits of a number. -/
def fsum (d : Nat → Nat) : Nat → Nat
  | 0 => 0
  | k + 1 => fsum d k + d k * 128 ^ k
theorem fsum_lt (d : Nat → Nat) (k : Nat) (h : ∀ j, j < k → d j < 128) : fsum d k < 128 ^ k := by
  induction k with
  | zero => simp [fsum]
  | succ k ih =>
    have h1 := ih fun j hj => h j (by omega)
    have h2 := h k (by omega)
    have h3 : d k * 128 ^ k ≤ 127 * 128 ^ k := Nat.mul_le_mul_right _ (by omega)
    rw [fsum, Nat.pow_succ]
    omega
def packN (x : Cfg) : Nat := fsum (fun j => (x.p j).toNat) 9
/-- The packed one. -/
noncomputable def packV (x : Cfg) : Nat := if rightB x then packN x else 0

theorem Right.part {x : Cfg} (h : Right x) (k : Nat) (hk : k < 9) : 0 ≤ x.p k ∧ x.p k < 128 := by
  have := h.b
  obtain rfl | rfl | rfl | rfl | rfl | rfl | rfl | rfl | rfl : k = 0 ∨ k = 1 ∨ k = 2 ∨ k = 3 ∨ k = 4 ∨ k = 5 ∨ k = 6 ∨ k = 7 ∨ k = 8 := by omega
  all_goals simp only [Cfg.p]; omega

/-- The k-th digit. -/
def dg (n k : Nat) : Nat := n / 128 ^ k % 128
/-- The config of a word's parts. -/
def unpC (n : Nat) : Cfg := ⟨dg n 0, dg n 1, dg n 2, dg n 3, dg n 5, dg n 6, dg n 7, dg n 8, dg n 4⟩
theorem unp_p (n k : Nat) (hk : k < 9) : (unpC n).p k = (dg n k : Int) := by
  obtain rfl | rfl | rfl | rfl | rfl | rfl | rfl | rfl | rfl : k = 0 ∨ k = 1 ∨ k = 2 ∨ k = 3 ∨ k = 4 ∨ k = 5 ∨ k = 6 ∨ k = 7 ∨ k = 8 := by omega
  all_goals rfl
theorem fsum_dg (n k : Nat) : fsum (dg n) k = n % 128 ^ k := by
  induction k with
  | zero => simp [fsum, Nat.mod_one]
  | succ k ih => rw [fsum, ih, Nat.mod_pow_succ, dg, Nat.mul_comm]
theorem fsum_congr {d d' : Nat → Nat} {k : Nat} (h : ∀ j, j < k → d j = d' j) : fsum d k = fsum d' k := by
  induction k with
  | zero => rfl
  | succ k ih => rw [fsum, fsum, ih fun j hj => h j (by omega), h k (by omega)]
theorem pack_unp (n : Nat) : packN (unpC n) = n % 9223372036854775808 := by
  rw [packN, fsum_congr (d' := dg n) fun j hj => by rw [unp_p n j hj]; simp, fsum_dg]
theorem dg_fsum (d : Nat → Nat) (m k : Nat) (hk : k < m) (h : ∀ j, j < m → d j < 128) : dg (fsum d m) k = d k := by
  induction m with
  | zero => omega
  | succ m ih =>
    by_cases e : k = m
    · subst e
      have h1 := fsum_lt d k fun j hj => h j (by omega)
      have h2 := h k (by omega)
      rw [dg, fsum, Nat.add_mul_div_right _ _ (Nat.pow_pos (by omega)), Nat.div_eq_of_lt h1, Nat.zero_add, Nat.mod_eq_of_lt h2]
    · rw [← ih (by omega) fun j hj => h j (by omega)]
      obtain ⟨i, hi⟩ : ∃ i, m = k + 1 + i := ⟨m - k - 1, by omega⟩
      have e1 : d m * 128 ^ m = d m * 128 ^ i * 128 * 128 ^ k := by
        rw [hi, show k + 1 + i = i + 1 + k by omega, Nat.pow_add, Nat.pow_add, ← Nat.mul_assoc, ← Nat.mul_assoc]
      rw [dg, fsum, e1, Nat.add_mul_div_right _ _ (Nat.pow_pos (by omega)), Nat.add_mul_mod_self_right, dg]
theorem unp_pack {x : Cfg} (h : Right x) : unpC (packN x) = x := by
  have e : ∀ k, k < 9 → ((dg (packN x) k : Nat) : Int) = x.p k := fun k hk => by
    rw [packN, dg_fsum _ 9 k hk fun j hj => by have := h.part j hj; omega]
    exact Int.toNat_of_nonneg (h.part k hk).1
  have e0 := e 0 (by omega)
  have e1 := e 1 (by omega)
  have e2 := e 2 (by omega)
  have e3 := e 3 (by omega)
  have e4 := e 4 (by omega)
  have e5 := e 5 (by omega)
  have e6 := e 6 (by omega)
  have e7 := e 7 (by omega)
  have e8 := e 8 (by omega)
  simp only [Cfg.p] at e0 e1 e2 e3 e4 e5 e6 e7 e8
  unfold unpC
  rw [e0, e1, e2, e3, e4, e5, e6, e7, e8]
theorem pack_lt {x : Cfg} (h : Right x) : packN x < 9223372036854775808 :=
  fsum_lt _ 9 fun j hj => by have := h.part j hj; omega
theorem pack_pos {x : Cfg} (h : Right x) : 0 < packN x := by
  have e := unp_pack h
  have h1 := h.b
  rcases Nat.eq_zero_or_pos (packN x) with g | g
  · rw [g] at e
    have e2 : (unpC 0).t = x.t := by rw [e]
    have e3 : (unpC 0).t = 0 := by decide
    omega
  · exact g

end Go.Proofs.YtkpffnihnhlghaaGreatDoor
