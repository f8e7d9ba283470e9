/- The document's Right, Parts, Pack, Size. -/
import Derived.Test.YtkpffnihnhlghaaDoorPLay
import Derived.Test.YtkpffnihnhlghaaDoorPUnp
import Derived.OwnWalk
namespace Go.Proofs.YtkpffnihnhlghaaDoor
open Go.RowKit
set_option maxHeartbeats 400000 in
theorem in_yes (n a b : Int) (h1 : a ≤ n) (h2 : n ≤ b) (w : World) : Calls Tryd.prog 120 #[.int .i64 n, .int .i64 a, .int .i64 b] w fun e w' => e = .returned (.bool true) ∧ w = w' := by
  have d1 : decide (a ≤ n) = true := by simpa using h1
  have d2 : decide (n ≤ b) = true := by simpa using h2
  go_enter Tryd.func120, Tryd.ntmps120
  go_wp2
  go_ret
  exact ⟨rfl, rfl⟩
set_option maxHeartbeats 400000 in
theorem in_no (n a b : Int) (h : ¬ (a ≤ n ∧ n ≤ b)) (w : World) : Calls Tryd.prog 120 #[.int .i64 n, .int .i64 a, .int .i64 b] w fun e w' => e = .returned (.bool false) ∧ w = w' := by
  by_cases h1 : a ≤ n
  · have d1 : decide (a ≤ n) = true := by simpa using h1
    have d2 : decide (n ≤ b) = false := by simp; omega
    clear h
    go_enter Tryd.func120, Tryd.ntmps120
    go_wp2
    go_ret
    exact ⟨rfl, rfl⟩
  · have d1 : decide (a ≤ n) = false := by simpa using h1
    clear h
    go_enter Tryd.func120, Tryd.ntmps120
    go_wp2
    go_ret
    exact ⟨rfl, rfl⟩

set_option maxRecDepth 100000 in
set_option maxHeartbeats 4000000 in
theorem r4Right_any (x : Cfg) (w : World) : Calls Tryd.prog 80 #[(.agg #[.int .i64 x.t, .int .i64 x.s, .int .i64 x.l, .int .i64 x.c, .int .i64 x.s0, .int .i64 x.n0, .int .i64 x.s1, .int .i64 x.n1, .int .i64 x.r])] w fun e w' => e = .returned (.bool (rightB x)) ∧ Below w.heap.size w w' := by
  go_enter Tryd.func80, Tryd.ntmps80
  go_wp2_with fail
  by_cases h0 : 1 ≤ x.t ∧ x.t ≤ 8
  case neg =>
    have HN := Lib.hid h0
    refine (in_no _ _ _ h0 _).mono ?_
    rintro e w' ⟨rfl, rfl⟩
    clear h0
    go_wp2
    go_ret
    refine ⟨ret_bool (rightB_false fun h => HN.out (by have := h.b; omega)).symm, ?_⟩
    (repeat (first | with_reducible exact Below.refl _ _ | with_reducible refine Below.drew ?_ | (with_reducible refine Below.setCell ?_ ?side _; case side => exact (by first | (simp; done) | (simp; omega) | omega)) | (with_reducible refine Below.alloc ?_ ?side _; case side => exact (by first | (simp; done) | (simp; omega) | omega))))
  refine (in_yes _ _ _ h0.1 h0.2 _).mono ?_
  rintro e w' ⟨rfl, rfl⟩
  go_wp2_with fail
  by_cases h1 : 4 ≤ x.s ∧ x.s ≤ 32
  case neg =>
    have HN := Lib.hid h1
    refine (in_no _ _ _ h1 _).mono ?_
    rintro e w' ⟨rfl, rfl⟩
    clear h1
    go_wp2
    go_ret
    refine ⟨ret_bool (rightB_false fun h => HN.out (by have := h.b; omega)).symm, ?_⟩
    (repeat (first | with_reducible exact Below.refl _ _ | with_reducible refine Below.drew ?_ | (with_reducible refine Below.setCell ?_ ?side _; case side => exact (by first | (simp; done) | (simp; omega) | omega)) | (with_reducible refine Below.alloc ?_ ?side _; case side => exact (by first | (simp; done) | (simp; omega) | omega))))
  refine (in_yes _ _ _ h1.1 h1.2 _).mono ?_
  rintro e w' ⟨rfl, rfl⟩
  go_wp2_with fail
  by_cases h2 : 1 ≤ x.l ∧ x.l ≤ 8
  case neg =>
    have HN := Lib.hid h2
    refine (in_no _ _ _ h2 _).mono ?_
    rintro e w' ⟨rfl, rfl⟩
    clear h2
    go_wp2
    go_ret
    refine ⟨ret_bool (rightB_false fun h => HN.out (by have := h.b; omega)).symm, ?_⟩
    (repeat (first | with_reducible exact Below.refl _ _ | with_reducible refine Below.drew ?_ | (with_reducible refine Below.setCell ?_ ?side _; case side => exact (by first | (simp; done) | (simp; omega) | omega)) | (with_reducible refine Below.alloc ?_ ?side _; case side => exact (by first | (simp; done) | (simp; omega) | omega))))
  refine (in_yes _ _ _ h2.1 h2.2 _).mono ?_
  rintro e w' ⟨rfl, rfl⟩
  go_wp2_with fail
  by_cases h3 : 1 ≤ x.c ∧ x.c ≤ 8
  case neg =>
    have HN := Lib.hid h3
    refine (in_no _ _ _ h3 _).mono ?_
    rintro e w' ⟨rfl, rfl⟩
    clear h3
    go_wp2
    go_ret
    refine ⟨ret_bool (rightB_false fun h => HN.out (by have := h.b; omega)).symm, ?_⟩
    (repeat (first | with_reducible exact Below.refl _ _ | with_reducible refine Below.drew ?_ | (with_reducible refine Below.setCell ?_ ?side _; case side => exact (by first | (simp; done) | (simp; omega) | omega)) | (with_reducible refine Below.alloc ?_ ?side _; case side => exact (by first | (simp; done) | (simp; omega) | omega))))
  refine (in_yes _ _ _ h3.1 h3.2 _).mono ?_
  rintro e w' ⟨rfl, rfl⟩
  go_wp2_with fail
  by_cases h4 : 1 ≤ x.r ∧ x.r ≤ 8
  case neg =>
    have HN := Lib.hid h4
    refine (in_no _ _ _ h4 _).mono ?_
    rintro e w' ⟨rfl, rfl⟩
    clear h4
    go_wp2
    go_ret
    refine ⟨ret_bool (rightB_false fun h => HN.out (by have := h.b; omega)).symm, ?_⟩
    (repeat (first | with_reducible exact Below.refl _ _ | with_reducible refine Below.drew ?_ | (with_reducible refine Below.setCell ?_ ?side _; case side => exact (by first | (simp; done) | (simp; omega) | omega)) | (with_reducible refine Below.alloc ?_ ?side _; case side => exact (by first | (simp; done) | (simp; omega) | omega))))
  refine (in_yes _ _ _ h4.1 h4.2 _).mono ?_
  rintro e w' ⟨rfl, rfl⟩
  go_wp2_with fail
  by_cases h5 : 4 ≤ x.s0 ∧ x.s0 ≤ 96
  case neg =>
    have HN := Lib.hid h5
    refine (in_no _ _ _ h5 _).mono ?_
    rintro e w' ⟨rfl, rfl⟩
    clear h5
    go_wp2
    go_ret
    refine ⟨ret_bool (rightB_false fun h => HN.out (by have := h.b; omega)).symm, ?_⟩
    (repeat (first | with_reducible exact Below.refl _ _ | with_reducible refine Below.drew ?_ | (with_reducible refine Below.setCell ?_ ?side _; case side => exact (by first | (simp; done) | (simp; omega) | omega)) | (with_reducible refine Below.alloc ?_ ?side _; case side => exact (by first | (simp; done) | (simp; omega) | omega))))
  refine (in_yes _ _ _ h5.1 h5.2 _).mono ?_
  rintro e w' ⟨rfl, rfl⟩
  have s0a : 4 ≤ x.s0 := h5.1
  have s0b : x.s0 ≤ 96 := h5.2
  go_wp2_with fail
  by_cases h6 : (x.s0 + 1) ≤ x.s1 ∧ x.s1 ≤ 96
  case neg =>
    have HN := Lib.hid h6
    refine (in_no _ _ _ h6 _).mono ?_
    rintro e w' ⟨rfl, rfl⟩
    clear h6
    go_wp2
    go_ret
    refine ⟨ret_bool (rightB_false fun h => HN.out (by have := h.b; omega)).symm, ?_⟩
    (repeat (first | with_reducible exact Below.refl _ _ | with_reducible refine Below.drew ?_ | (with_reducible refine Below.setCell ?_ ?side _; case side => exact (by first | (simp; done) | (simp; omega) | omega)) | (with_reducible refine Below.alloc ?_ ?side _; case side => exact (by first | (simp; done) | (simp; omega) | omega))))
  refine (in_yes _ _ _ h6.1 h6.2 _).mono ?_
  rintro e w' ⟨rfl, rfl⟩
  go_wp2_with fail
  by_cases h7 : 0 ≤ x.n0 ∧ x.n0 ≤ 12
  case neg =>
    have HN := Lib.hid h7
    refine (in_no _ _ _ h7 _).mono ?_
    rintro e w' ⟨rfl, rfl⟩
    clear h7
    go_wp2
    go_ret
    refine ⟨ret_bool (rightB_false fun h => HN.out (by have := h.b; omega)).symm, ?_⟩
    (repeat (first | with_reducible exact Below.refl _ _ | with_reducible refine Below.drew ?_ | (with_reducible refine Below.setCell ?_ ?side _; case side => exact (by first | (simp; done) | (simp; omega) | omega)) | (with_reducible refine Below.alloc ?_ ?side _; case side => exact (by first | (simp; done) | (simp; omega) | omega))))
  refine (in_yes _ _ _ h7.1 h7.2 _).mono ?_
  rintro e w' ⟨rfl, rfl⟩
  go_wp2_with fail
  by_cases h8 : 0 ≤ x.n1 ∧ x.n1 ≤ 12
  case neg =>
    have HN := Lib.hid h8
    refine (in_no _ _ _ h8 _).mono ?_
    rintro e w' ⟨rfl, rfl⟩
    clear h8
    go_wp2
    go_ret
    refine ⟨ret_bool (rightB_false fun h => HN.out (by have := h.b; omega)).symm, ?_⟩
    (repeat (first | with_reducible exact Below.refl _ _ | with_reducible refine Below.drew ?_ | (with_reducible refine Below.setCell ?_ ?side _; case side => exact (by first | (simp; done) | (simp; omega) | omega)) | (with_reducible refine Below.alloc ?_ ?side _; case side => exact (by first | (simp; done) | (simp; omega) | omega))))
  refine (in_yes _ _ _ h8.1 h8.2 _).mono ?_
  rintro e w' ⟨rfl, rfl⟩
  have HR := Lib.hid (Right.of (x := x) (by omega))
  go_wp2
  go_ret
  refine ⟨ret_bool (rightB_true HR.out).symm, ?_⟩
  (repeat (first | with_reducible exact Below.refl _ _ | with_reducible refine Below.drew ?_ | (with_reducible refine Below.setCell ?_ ?side _; case side => exact (by first | (simp; done) | (simp; omega) | omega)) | (with_reducible refine Below.alloc ?_ ?side _; case side => exact (by first | (simp; done) | (simp; omega) | omega))))

/-- A slice of nine numbers: a config's parts. -/
def PartsAt (w : World) (g : Nat) (x : Cfg) : Prop := ∀ j, j < 9 → w.cell? ⟨g, j, none⟩ = some (.int .i64 (x.p j))
set_option maxRecDepth 100000 in
set_option maxHeartbeats 1000000 in
theorem r4Parts_any (x : Cfg) (w : World) : Calls Tryd.prog 116 #[(.agg #[.int .i64 x.t, .int .i64 x.s, .int .i64 x.l, .int .i64 x.c, .int .i64 x.s0, .int .i64 x.n0, .int .i64 x.s1, .int .i64 x.n1, .int .i64 x.r])] w fun e w' => ∃ g, e = .returned (.slice (some ⟨g, 0, none⟩) 9 9) ∧ w.heap.size ≤ g ∧ PartsAt w' g x ∧ Below w.heap.size w w' := by
  go_enter Tryd.func116, Tryd.ntmps116
  go_wp2
  go_ret
  refine ⟨_, rfl, by omega, ?_, ?_⟩
  · intro j hj
    obtain rfl | rfl | rfl | rfl | rfl | rfl | rfl | rfl | rfl : j = 0 ∨ j = 1 ∨ j = 2 ∨ j = 3 ∨ j = 4 ∨ j = 5 ∨ j = 6 ∨ j = 7 ∨ j = 8 := by omega
    all_goals (go_simp; try rfl)
  · (repeat (first | with_reducible exact Below.refl _ _ | with_reducible refine Below.drew ?_ | (with_reducible refine Below.setCell ?_ ?side _; case side => exact (by first | (simp; done) | (simp; omega) | omega)) | (with_reducible refine Below.alloc ?_ ?side _; case side => exact (by first | (simp; done) | (simp; omega) | omega))))

/-- Parts from the last one on. -/
def hs (d : Nat → Nat) : Nat → Nat
  | 0 => 0
  | m + 1 => hs d m * 128 + d (8 - m)
theorem hs_lt (d : Nat → Nat) (h : ∀ j, j < 9 → d j < 128) (m : Nat) : m ≤ 9 → hs d m < 128 ^ m := by
  induction m with
  | zero => intro _; simp [hs]
  | succ m ih =>
    intro hm
    have h1 := ih (by omega)
    have h2 := h (8 - m) (by omega)
    rw [hs, Nat.pow_succ]
    omega
theorem hs_fsum (d : Nat → Nat) : hs d 9 = fsum d 9 := by
  simp [hs, fsum]
  omega

set_option maxRecDepth 100000 in
set_option maxHeartbeats 4000000 in
theorem r4Pack_yes (x : Cfg) (w : World) (hr : rightB x = true) : Calls Tryd.prog 69 #[(.agg #[.int .i64 x.t, .int .i64 x.s, .int .i64 x.l, .int .i64 x.c, .int .i64 x.s0, .int .i64 x.n0, .int .i64 x.s1, .int .i64 x.n1, .int .i64 x.r])] w fun e w' => e = .returned (.int .u64 (packN x : Int)) ∧ Below w.heap.size w w' := by
  have HR := Lib.hid hr
  have HP := Lib.hid (show packN x = hs (fun j => (x.p j).toNat) 9 by rw [hs_fsum, packN])
  clear hr
  go_enter Tryd.func69, Tryd.ntmps69
  go_wp2_with fail
  refine (r4Right_any x _).mono ?_
  rintro e w1 ⟨rfl, hb⟩
  have H1 := Lib.hid (Below.step (B := w.heap.size) (a := w) (by (repeat (first | with_reducible exact Below.refl _ _ | with_reducible refine Below.drew ?_ | (with_reducible refine Below.setCell ?_ ?side _; case side => exact (by first | (simp; done) | (simp; omega) | omega)) | (with_reducible refine Below.alloc ?_ ?side _; case side => exact (by first | (simp; done) | (simp; omega) | omega))))) hb (by first | (simp; done) | (simp; omega) | omega))
  obtain ⟨c0, c1, c2, c3, c4, c5, c6, c7, c8⟩ := ((cfgAt_box w x).below hb).cells
  clear hb
  rw [HR.out]
  go_wp2_with fail
  refine (r4Parts_any x _).mono ?_
  rintro e w2 ⟨g, rfl, hg, hp, hb⟩
  have H2 := Lib.hid (Below.step H1.out hb H1.out.size)
  have HA := Lib.hid hp
  clear hb hp H1 c0 c1 c2 c3 c4 c5 c6 c7 c8
  go_wp2_with fail
  go_loop [5, 6] (fun v i => ∃ m : Nat, m ≤ 9 ∧ i = .int .i64 (8 - (m : Int)) ∧ v = .int .u64 (hs (fun j => (x.p j).toNat) m : Int)) (fun _ i => (1 + intOf i).toNat)
  case atStart => exact ⟨0, by omega, by go_num, rfl⟩
  case round =>
    obtain ⟨m, hm, rfl, rfl⟩ := hrel
    by_cases hlt : m < 9
    · have HF := Lib.hid (hs_lt (fun j => (x.p j).toNat) (fun j hj => by have := (right_of HR.out).part j hj; omega) m (by omega))
      have HN := Lib.hid (show hs (fun j => (x.p j).toNat) (m + 1) = hs (fun j => (x.p j).toNat) m * 128 + (x.p (8 - m)).toNat from rfl)
      obtain ⟨p0, p1⟩ := (right_of HR.out).part (8 - m) (by omega)
      have cm := HA.out (8 - m) (by omega)
      obtain ⟨q, hq⟩ : ∃ q : Nat, x.p (8 - m) = (q : Int) := ⟨(x.p (8 - m)).toNat, by omega⟩
      have hqk : q < 128 := by omega
      rw [hq] at cm HN
      clear hq p0 p1
      generalize hs (fun j => (x.p j).toNat) m = F at HF HN ⊢
      have hF : F < 128 ^ 8 := Nat.lt_of_lt_of_le HF.out (Nat.pow_le_pow_right (by omega) (by omega))
      have hF' : (F : Int) < 72057594037927936 := by omega
      have hF0 : (0 : Int) ≤ (F : Int) := by omega
      have hw1 : IntKind.u64.wrap ((F : Int) * 128) = (F : Int) * 128 := by rw [IntKind.wrap_u64]; omega
      have hw2 : IntKind.u64.wrap ((F : Int) * 128 + (q : Int)) = (F : Int) * 128 + (q : Int) := by rw [IntKind.wrap_u64]; omega
      have hw3 : IntKind.u64.wrap (q : Int) = (q : Int) := by rw [IntKind.wrap_u64]; omega
      have k1 : (0 : Int) ≤ 8 - (m : Int) := by omega
      have k2 : 8 - (m : Int) < 9 := by omega
      have k3 : (8 - (m : Int)).toNat = 8 - m := by omega
      clear hF hF'
      go_wp2
      go_round
      case rel => exact ⟨m + 1, by omega, by go_num, by rw [HN.out]; simp⟩
      case measure => simp [intOf]; omega
    · obtain rfl : m = 9 := by omega
      go_wp2
      go_ret
      exact ⟨by rw [HP.out]; rfl, H2.out⟩
set_option maxRecDepth 100000 in
set_option maxHeartbeats 1000000 in
theorem r4Pack_no (x : Cfg) (w : World) (hr : rightB x = false) : Calls Tryd.prog 69 #[(.agg #[.int .i64 x.t, .int .i64 x.s, .int .i64 x.l, .int .i64 x.c, .int .i64 x.s0, .int .i64 x.n0, .int .i64 x.s1, .int .i64 x.n1, .int .i64 x.r])] w fun e w' => e = .returned (.int .u64 0) ∧ Below w.heap.size w w' := by
  have HR := Lib.hid hr
  clear hr
  go_enter Tryd.func69, Tryd.ntmps69
  go_wp2_with fail
  refine (r4Right_any x _).mono ?_
  rintro e w1 ⟨rfl, hb⟩
  have H1 := Lib.hid (Below.step (B := w.heap.size) (a := w) (by (repeat (first | with_reducible exact Below.refl _ _ | with_reducible refine Below.drew ?_ | (with_reducible refine Below.setCell ?_ ?side _; case side => exact (by first | (simp; done) | (simp; omega) | omega)) | (with_reducible refine Below.alloc ?_ ?side _; case side => exact (by first | (simp; done) | (simp; omega) | omega))))) hb (by first | (simp; done) | (simp; omega) | omega))
  clear hb
  rw [HR.out]
  go_wp2
  go_ret
  exact ⟨rfl, H1.out⟩

set_option maxRecDepth 100000 in
set_option maxHeartbeats 1000000 in
theorem r4Size_any (x : Cfg) (w : World) (hr : Right x) : Calls Tryd.prog 68 #[(.agg #[.int .i64 x.t, .int .i64 x.s, .int .i64 x.l, .int .i64 x.c, .int .i64 x.s0, .int .i64 x.n0, .int .i64 x.s1, .int .i64 x.n1, .int .i64 x.r])] w fun e w' => e = .returned (.int .i64 (sizeC x)) ∧ Below w.heap.size w w' := by
  have hcb := hr.b
  obtain ⟨s1, s2, s3, s4, s5, s6, s7, s8, s9, s10⟩ := hr.sizes
  have m0 : 0 ≤ x.t * (1 + 2 * x.s) := Int.mul_nonneg (by omega) (by omega)
  have m1 : x.t * (1 + 2 * x.s) ≤ 8 * 65 := Int.mul_le_mul (by omega) (by omega) (by omega) (by omega)
  have m2 : 0 ≤ x.n0 * (1 + x.s0) := Int.mul_nonneg (by omega) (by omega)
  have m3 : x.n0 * (1 + x.s0) ≤ 12 * 97 := Int.mul_le_mul (by omega) (by omega) (by omega) (by omega)
  have m4 : 0 ≤ x.n1 * (1 + x.s1) := Int.mul_nonneg (by omega) (by omega)
  have m5 : x.n1 * (1 + x.s1) ≤ 12 * 97 := Int.mul_le_mul (by omega) (by omega) (by omega) (by omega)
  have HB := Lib.hid (show 5 + x.l + x.t + x.t * (1 + 2 * x.s) = bB x by rw [bB, bC, bE])
  have HB1 := Lib.hid (show bB x + x.n0 * (1 + x.s0) = bB1 x from rfl)
  have HB2 := Lib.hid (show bB1 x + x.n1 * (1 + x.s1) = sizeC x from rfl)
  clear hr
  go_enter Tryd.func68, Tryd.ntmps68
  go_wp2_with fail
  rw [HB.out]
  have HC : Hid (CfgAt (w.alloc (.cells #[.int .i64 x.t, .int .i64 x.s, .int .i64 x.l, .int .i64 x.c, .int .i64 x.s0, .int .i64 x.n0, .int .i64 x.s1, .int .i64 x.n1, .int .i64 x.r] 60)) w.heap.size x) := Lib.hid (cfgAt_box w x)
  have HW : Hid (Below w.heap.size w (w.alloc (.cells #[.int .i64 x.t, .int .i64 x.s, .int .i64 x.l, .int .i64 x.c, .int .i64 x.s0, .int .i64 x.n0, .int .i64 x.s1, .int .i64 x.n1, .int .i64 x.r] 60))) := Lib.hid ((Below.refl _ _).alloc (Nat.le_refl _) _)
  generalize w.alloc (.cells #[.int .i64 x.t, .int .i64 x.s, .int .i64 x.l, .int .i64 x.c, .int .i64 x.s0, .int .i64 x.n0, .int .i64 x.s1, .int .i64 x.n1, .int .i64 x.r] 60) = W at HC HW ⊢
  go_loopw [3, 4] (fun n i wr => ∃ k : Nat, k ≤ 2 ∧ i = .int .i64 k ∧ n = .int .i64 (nx x k) ∧ CfgAt wr w.heap.size x ∧ Below w.heap.size w wr) (fun _ i _ => 2 - (intOf i).toNat)
  case atStart => exact ⟨0, by omega, rfl, rfl, HC.out, HW.out⟩
  case round =>
    clear HC HW
    obtain ⟨k, hk, rfl, rfl, hC, hW⟩ := hrel
    have HC := Lib.hid hC
    have HW := Lib.hid hW
    obtain ⟨c0, c1, c2, c3, c4, c5, c6, c7, c8⟩ := hC.cells
    clear hC hW
    by_cases hlt : k < 2
    · obtain rfl | rfl : k = 0 ∨ k = 1 := by omega
      · have e : nx x 0 = bB x := rfl
        rw [e]
        have hs1 : IntKind.i64.wrap (1 + x.s0) = 1 + x.s0 := IntWalk.i64_in _ (by omega)
        have hs2 : IntKind.i64.wrap (x.n0 * (1 + x.s0)) = x.n0 * (1 + x.s0) := IntWalk.i64_in _ (by omega)
        have hs3 : IntKind.i64.wrap (bB x + x.n0 * (1 + x.s0)) = bB x + x.n0 * (1 + x.s0) := IntWalk.i64_in _ (by omega)
        clear e
        go_wp2_with fail
        go_quiet (fail)
        clear hs1 hs2 hs3
        go_wp2
        go_roundw
        case rel => exact ⟨1, by omega, rfl, by rw [HB1.out]; rfl, drewN_row HC.out, below_drewN HW.out _⟩
        case measure => simp [intOf]
      · have e : nx x 1 = bB1 x := rfl
        rw [e]
        have hs1 : IntKind.i64.wrap (1 + x.s1) = 1 + x.s1 := IntWalk.i64_in _ (by omega)
        have hs2 : IntKind.i64.wrap (x.n1 * (1 + x.s1)) = x.n1 * (1 + x.s1) := IntWalk.i64_in _ (by omega)
        have hs3 : IntKind.i64.wrap (bB1 x + x.n1 * (1 + x.s1)) = bB1 x + x.n1 * (1 + x.s1) := IntWalk.i64_in _ (by omega)
        clear e
        go_wp2_with fail
        go_quiet (fail)
        clear hs1 hs2 hs3
        go_wp2
        go_roundw
        case rel => exact ⟨2, by omega, rfl, by rw [HB2.out]; rfl, drewN_row HC.out, below_drewN HW.out _⟩
        case measure => simp [intOf]
    · obtain rfl : k = 2 := by omega
      go_wp2
      go_ret
      exact ⟨rfl, HW.out⟩

end Go.Proofs.YtkpffnihnhlghaaDoor
