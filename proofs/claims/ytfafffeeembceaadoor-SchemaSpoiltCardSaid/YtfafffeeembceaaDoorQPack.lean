/- A type in one word; a schema's words. -/
import Derived.Test.YtfafffeeembceaaDoorQTell
import Derived.ProofKit
import Derived.OpenShut
import Derived.ShutString
import Derived.Laws.Bits64
import Derived.Laws.BitsAllLaws
namespace Go.Proofs.YtfafffeeembceaaDoor
open Go.ChangeShapes Go.WideShapes Go.ChangeAt Go.RowKit
theorem fieldAt_any (j : Nat) (hj : j < 8) (w : World) : Calls Tryd.prog 39 #[.int .i64 j] w fun e w' => e = .returned (.int .i64 ((3 + j * 6 : Nat) : Int)) ∧ w = w' := by
  go_enter Tryd.func39, Tryd.ntmps39
  go_wp2
  go_ret
  exact ⟨by simp, rfl⟩

theorem quiet_eq {P : Program} {f : FuncId} {args : Array Value} {w : World} {n : Nat} {v : Value}
    (h : Calls P f args (w.drewN n) fun e w' => e = .returned v ∧ w.drewN n = w') : Calls P f args (w.drewN n) fun e w'' => e = .returned v ∧ ∃ m, w'' = w.drewN m :=
  h.mono fun _ _ ⟨he, hm⟩ => ⟨he, n, hm.symm⟩
theorem below_drewN {B : Nat} {a b : World} (h : Below B a b) (m : Nat) : Below B a (b.drewN m) := ⟨h.os, h.tape, h.output, h.size, h.block⟩
theorem pow6 (j : Nat) : 2 ^ (j * 6) = 64 ^ j := by rw [Nat.mul_comm, Nat.pow_mul]
/-- A part more is put into a word. -/
theorem or_part (a x p : Nat) (ha : a < 2 ^ p) (h : a + x * 2 ^ p < 18446744073709551616) : bits .or .u64 (a : Int) (IntKind.u64.wrap ((x : Int) * 2 ^ p)) = ((a + x * 2 ^ p : Nat) : Int) := by
  have e : (x : Int) * 2 ^ p = ((x * 2 ^ p : Nat) : Int) := by rw [Int.natCast_mul, Int.natCast_pow]; rfl
  have e2 : IntKind.u64.wrap ((x * 2 ^ p : Nat) : Int) = ((x * 2 ^ p : Nat) : Int) := by rw [IntKind.wrap_u64]; omega
  rw [e, e2, u64_or_nat _ _ (by omega) (by omega), Nat.or_comm, ← Nat.shiftLeft_eq, ← Nat.shiftLeft_add_eq_or_of_lt ha, Nat.add_comm]

set_option maxRecDepth 100000 in
set_option maxHeartbeats 2000000 in
theorem packed_any (L : Nat) (hL : L ≤ 6) (A : Option Addr) (c : Nat) (k t : Nat → Int) (w : World) (hr : FRow w A L k t) (hf : ∀ j, j < L → 1 ≤ k j ∧ k j ≤ 5 ∧ 0 ≤ t j ∧ t j < 8) : Calls Tryd.prog 32 #[.slice A L c] w fun e w' => e = .returned (.int .u64 ((L + 8 * hs (fun j => (k j).toNat + 8 * (t j).toNat) L : Nat) : Int)) ∧ Below w.heap.size w w' := by
  have HF := Lib.hid hf
  have HR := Lib.hid hr
  clear hf hr
  go_enter Tryd.func32, Tryd.ntmps32
  go_wp2
  go_loopw [3, 11] (fun v i wr => ∃ m : Nat, m ≤ L ∧ i = .int .i64 m ∧ v = .int .u64 ((L + 8 * hs (fun j => (k j).toNat + 8 * (t j).toNat) m : Nat) : Int) ∧ Below w.heap.size w wr) (fun _ i _ => L - (intOf i).toNat)
  case atStart => exact ⟨0, by omega, rfl, by simp [hs], Below.refl _ _⟩
  case round =>
    obtain ⟨m, hm, rfl, rfl, hB⟩ := hrel
    have HB := Lib.hid hB
    clear hB
    by_cases hlt : m < L
    · obtain ⟨b, off, rfl, hb, hc⟩ := HR.out.some_ (by omega)
      have c1 := (HB.out.cell (p := ⟨b, off + m * 2, none⟩) hb).trans (hc m hlt).1
      have c2 := (HB.out.cell (p := ⟨b, off + m * 2 + 1, none⟩) hb).trans (hc m hlt).2
      clear hc
      obtain ⟨x, hx⟩ : ∃ x : Nat, k m = x := ⟨(k m).toNat, by have := HF.out m hlt; omega⟩
      obtain ⟨y, hy⟩ : ∃ y : Nat, t m = y := ⟨(t m).toNat, by have := HF.out m hlt; omega⟩
      have hxy := HF.out m hlt
      rw [hx, hy] at hxy
      rw [hx] at c1
      rw [hy] at c2
      have hS := hs_lt (fun j => (k j).toNat + 8 * (t j).toNat) m (fun j hj => by have := HF.out j (by omega); omega)
      have HN := Lib.hid (show hs (fun j => (k j).toNat + 8 * (t j).toNat) (m + 1) = hs (fun j => (k j).toNat + 8 * (t j).toNat) m + (x + 8 * y) * 64 ^ m by rw [hs, hx, hy]; simp)
      obtain ⟨H, HH⟩ : ∃ H, Hid (H = hs (fun j => (k j).toNat + 8 * (t j).toNat) m) := ⟨_, Lib.hid rfl⟩
      rw [← HH.out] at hS HN ⊢
      have hp := pow6 m
      have hp6 : 64 ^ m ≤ 64 ^ 5 := Nat.pow_le_pow_right (by omega) (by omega)
      have e3 : 2 ^ (3 + m * 6) = 8 * 64 ^ m := by rw [Nat.pow_add, hp]
      have e6 : 2 ^ (3 + m * 6 + 3) = 64 * 64 ^ m := by rw [Nat.pow_add, e3]; omega
      have hx8 : x * (8 * 64 ^ m) ≤ 7 * (8 * 64 ^ m) := Nat.mul_le_mul_right _ (by omega)
      have hy8 : y * (64 * 64 ^ m) ≤ 7 * (64 * 64 ^ m) := Nat.mul_le_mul_right _ (by omega)
      have HO1 := Lib.hid (or_part (L + 8 * H) x (3 + m * 6) (by rw [e3]; omega) (by rw [e3]; omega))
      have HO2 := Lib.hid (or_part (L + 8 * H + x * 2 ^ (3 + m * 6)) y (3 + m * 6 + 3) (by rw [e3, e6]; omega) (by rw [e3, e6]; omega))
      have HE3 := Lib.hid e3
      have HE6 := Lib.hid e6
      clear e3 e6 hx8 hy8 hp hp6 hS
      have hzw := HB.out.size
      go_wp2_with fail
      go_quiet ((go_at_call 39; exact quiet_eq (fieldAt_any m (by omega) _)))
      go_wp2_with fail
      rw [show ((L : Int) + 8 * (H : Int)) = ((L + 8 * H : Nat) : Int) by simp, HO1.out]
      obtain ⟨N, HNN⟩ : ∃ N, Hid (N = L + 8 * H + x * 2 ^ (3 + m * 6)) := ⟨_, Lib.hid rfl⟩
      rw [← HNN.out] at HO2 ⊢
      have hB2 : Below w.heap.size w ((wr.alloc (.cells #[.int .i64 (x : Int), .int .i64 (y : Int)] 48)).drewN nq) := below_drewN (by (repeat (first | with_reducible exact Below.refl _ _ | with_reducible exact HB.out | with_reducible refine Below.drew ?_ | (with_reducible refine Below.setCell ?_ ?side _; case side => exact (by have := (HB.out).size; first | (simp; done) | (simp; omega) | omega)) | (with_reducible refine Below.alloc ?_ ?side _; case side => exact (by have := (HB.out).size; first | (simp; done) | (simp; omega) | omega))))) _
      have c3 : ((wr.alloc (.cells #[.int .i64 (x : Int), .int .i64 (y : Int)] 48)).drewN nq).cell? ⟨wr.heap.size, 1, none⟩ = some (.int .i64 (y : Int)) := by
        show (wr.alloc (.cells #[.int .i64 (x : Int), .int .i64 (y : Int)] 48)).cell? ⟨wr.heap.size, 1, none⟩ = some (.int .i64 (y : Int))
        simp [go_sem]
      have HB2 := Lib.hid hB2
      clear hB2 HB
      generalize (wr.alloc (.cells #[.int .i64 (x : Int), .int .i64 (y : Int)] 48)).drewN nq = W2 at c3 HB2 ⊢
      go_quiet ((go_at_call 39; exact quiet_eq (fieldAt_any m (by omega) _)))
      go_wp2
      go_roundw
      case rel =>
        refine ⟨m + 1, by omega, by go_num, ?_, below_drewN HB2.out _⟩
        have e : N + y * 2 ^ (3 + m * 6 + 3) = L + 8 * (H + (x + 8 * y) * 64 ^ m) := by
          rw [HNN.out, HE3.out, HE6.out, Nat.add_mul]
          have e1 : x * (8 * 64 ^ m) = 8 * (x * 64 ^ m) := by rw [Nat.mul_left_comm]
          have e2 : y * (64 * 64 ^ m) = 64 * (y * 64 ^ m) := by rw [Nat.mul_left_comm]
          have e3 : 8 * y * 64 ^ m = 8 * (y * 64 ^ m) := by rw [Nat.mul_assoc]
          omega
        rw [HO2.out, HN.out, e]
      case measure => simp [intOf]; omega
    · go_wp2
      go_ret
      have e : m = L := by omega
      subst e
      exact ⟨rfl, HB.out⟩

theorem row_put (f : Nat → Nat) (m j : Nat) : (if j = m then Value.int .u64 (f m : Nat) else .int .u64 (if j < m then f j else 0 : Nat)) = .int .u64 (if j < m + 1 then f j else 0 : Nat) := by
  by_cases e : j = m
  · subst e; simp
  · by_cases h : j < m
    · rw [if_neg e, if_pos h, if_pos (by omega)]
    · rw [if_neg e, if_neg h, if_neg (by omega)]
theorem info_u64 : (Tryd.prog.info? 34).map (fun i => (i.zero, i.size, i.bytes)) = some (some (.int .u64 0), 1, 8) := by kernel_rfl
set_option maxRecDepth 100000 in
set_option maxHeartbeats 2000000 in
theorem pack_yes (s : Sch) (A : Option Addr) (c : Nat) (w : World) (hr : SAt w A s) (h : RightS s) : Calls Tryd.prog 14 #[.slice A s.n c] w fun e w' => ∃ g, e = .returned (.slice (some ⟨g, 0, none⟩) s.n s.n) ∧ w.heap.size ≤ g ∧ w'.rowIs g 34 s.n (fun j => .int .u64 (wd s j : Nat)) ∧ Below w.heap.size w w' := by
  have HS := Lib.hid hr
  have HR := Lib.hid h
  clear hr
  obtain ⟨h1, h8, -⟩ := h
  have hk := check_yes s A c w HS.out (okS_true HR.out)
  obtain ⟨n, HN⟩ : ∃ n, Hid (s.n = n) := ⟨_, Lib.hid rfl⟩
  rw [HN.out] at h1 h8 hk ⊢
  go_enter Tryd.func14, Tryd.ntmps14
  go_wp2_with fail
  refine hk.mono ?_
  rintro e w1 ⟨rfl, hb⟩
  have HB := Lib.hid hb
  clear hb hk
  have hmk := run_make_row' (P := Tryd.prog) 31 34 (.int .u64 0) 8 Tryd.underlying31 info_u64 rfl .i64 .i64 n (by omega) (by omega)
  go_wp2
  have hw1 := HB.out.size
  have hB1 : Below w.heap.size w (w1.alloc (.cells (madeCells #[.int .u64 0] n) 34)) := by (repeat (first | with_reducible exact Below.refl _ _ | with_reducible exact HB.out | with_reducible refine Below.drew ?_ | (with_reducible refine Below.setCell ?_ ?side _; case side => exact (by have := (HB.out).size; first | (simp; done) | (simp; omega) | omega)) | (with_reducible refine Below.alloc ?_ ?side _; case side => exact (by have := (HB.out).size; first | (simp; done) | (simp; omega) | omega))))
  have hR1 := World.rowIs_made w1 (.int .u64 0) n 34
  clear hmk
  generalize w1.heap.size = g at hR1 hw1 ⊢
  generalize w1.alloc (.cells (madeCells #[.int .u64 0] n) 34) = W1 at hB1 hR1 ⊢
  clear HB
  go_loopw [14] (fun i wr => ∃ m : Nat, m ≤ n ∧ i = .int .i64 m ∧ Hid (wr.rowIs g 34 n (fun j => .int .u64 (if j < m then wd s j else 0 : Nat))) ∧ Hid (Below w.heap.size w wr)) (fun i _ => n - (intOf i).toNat)
  case atStart => exact ⟨0, Nat.zero_le _, rfl, Lib.hid (hR1.congr fun j _ => by simp), Lib.hid hB1⟩
  case round =>
    clear hB1 hR1
    obtain ⟨m, hm, rfl, Hrow, HB⟩ := hrel
    by_cases hlt : m < n
    · obtain ⟨b, off, rfl, hb, hc⟩ := HS.out.some_ (by rw [HN.out]; omega)
      obtain ⟨Ai, ci, hcell, hf⟩ := hc m (by rw [HN.out]; exact hlt)
      have HF := Lib.hid (hf.below HB.out)
      have c1 := (HB.out.cell (p := ⟨b, off + m, none⟩) hb).trans hcell
      clear hc hcell hf
      have hm' : m < s.n := by rw [HN.out]; exact hlt
      have hk := packed_any (s.len m) ((HR.out.2.2 m hm').2.1) Ai ci (s.k m) (s.t m) wr HF.out (fun j hj => HR.out.field hm' hj)
      rw [show s.len m + 8 * hs (fun j => (s.k m j).toNat + 8 * (s.t m j).toNat) (s.len m) = wd s m from rfl] at hk
      have HK := Lib.hid hk
      clear hk HF hm'
      go_wp2_with fail
      refine HK.out.mono ?_
      rintro e w2 ⟨rfl, hb2⟩
      have Hrow2 := Lib.hid (Hrow.out.of_block (hb2.block _ Hrow.out.lt))
      have HB2 := Lib.hid (Below.step HB.out hb2 HB.out.size)
      clear hb2 Hrow HB HK c1
      have hfz := Hrow2.out.frozen m
      have hcl := Hrow2.out.cell hlt
      go_wp2
      go_roundw
      case rel => exact ⟨m + 1, by omega, by go_num, Lib.hid ((Hrow2.out.set m _).congr fun j hj => row_put (wd s) m j), Lib.hid (HB2.out.setCell hw1 _)⟩
      case measure => simp [intOf]; omega
    · have he : m = n := by omega
      subst he
      go_wp2
      go_ret
      exact ⟨g, rfl, hw1, Hrow.out.congr fun j hj => by simp [hj], HB.out⟩

set_option maxHeartbeats 2000000 in
theorem pack_no (s : Sch) (A : Option Addr) (c : Nat) (w : World) (hr : SAt w A s) (h : okS s = false) : Calls Tryd.prog 14 #[.slice A s.n c] w fun e w' => e = .returned (.slice none 0 0) ∧ Below w.heap.size w w' := by
  have hk := check_no s A c w hr h
  clear hr h
  go_enter Tryd.func14, Tryd.ntmps14
  go_wp2_with fail
  refine hk.mono ?_
  rintro e w1 ⟨rfl, hb⟩
  clear hk
  go_wp2
  go_ret
  exact ⟨rfl, hb⟩

end Go.Proofs.YtfafffeeembceaaDoor
