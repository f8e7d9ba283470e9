/- The document's Of; the law's config: a right one. -/
import Derived.Test.YtkpffnihnhlghaaDoorPUnp
namespace Go.Proofs.YtkpffnihnhlghaaDoor
open Go.RowKit
theorem below_setG {W : World} {b m : Nat} (j : Nat) (u : Value) (hb : b ≤ m) {w : World} (h : Below b W w) : Below b W (w.setCell ⟨m, j, none⟩ u) := h.setCell (p := ⟨m, j, none⟩) hb u

set_option maxRecDepth 100000 in
set_option maxHeartbeats 4000000 in
theorem of_any (x : Cfg) (b : Nat) (w : World) (hc : ∀ j, j < 9 → w.cell? ⟨b, j, none⟩ = some (.int .i64 (x.p j))) : Calls Tryd.prog 61 #[.slice (some ⟨b, 0, none⟩) 9 9] w fun e w' => e = .returned (.agg #[.int .i64 x.t, .int .i64 x.s, .int .i64 x.l, .int .i64 x.c, .int .i64 x.s0, .int .i64 x.n0, .int .i64 x.s1, .int .i64 x.n1, .int .i64 x.r]) ∧ Below w.heap.size w w' := by
  have hl : b < w.heap.size := World.block_lt_of_cell? w _ (hc 0 (by omega))
  have p0 := hc 0 (by omega)
  have p1 := hc 1 (by omega)
  have p2 := hc 2 (by omega)
  have p3 := hc 3 (by omega)
  have p4 := hc 4 (by omega)
  have p5 := hc 5 (by omega)
  have p6 := hc 6 (by omega)
  have p7 := hc 7 (by omega)
  have p8 := hc 8 (by omega)
  simp only [Cfg.p] at p0 p1 p2 p3 p4 p5 p6 p7 p8
  clear hc
  have hne : b ≠ w.heap.size := by omega
  have hne1 : b ≠ w.heap.size + 1 := by omega
  go_enter Tryd.func61, Tryd.ntmps61
  go_wp2_with fail
  go_region
  go_wp2_with fail
  go_region
  go_wp2_with fail
  go_region
  go_wp2
  refine bodyPost_ret (v := (.agg #[.int .i64 x.t, .int .i64 x.s, .int .i64 x.l, .int .i64 x.c, .int .i64 x.s0, .int .i64 x.n0, .int .i64 x.s1, .int .i64 x.n1, .int .i64 x.r])) (by simp [results, Tryd.results61, go_sem]) rfl ⟨rfl, ?_⟩
  (repeat (first | with_reducible exact Below.refl _ _ | with_reducible refine Below.drew ?_ | (with_reducible refine Below.setCell ?_ ?side _; case side => exact (by first | (simp; done) | (simp; omega) | omega)) | (with_reducible refine Below.alloc ?_ ?side _; case side => exact (by first | (simp; done) | (simp; omega) | omega))))

/-- A number by a mask. -/
theorem and_mask (q : Int) (M : Nat) (hM : M < 4611686018427387904) : ∃ m : Nat, m ≤ M ∧ bits .and .i64 q (M : Int) = (m : Int) := by
  have e : (BitVec.ofInt 64 (M : Int)).toNat = M := by
    rw [BitVec.ofInt_natCast, BitVec.toNat_ofNat]; exact Nat.mod_eq_of_lt (by omega)
  refine ⟨(BitVec.ofInt 64 q &&& BitVec.ofInt 64 (M : Int)).toNat, ?_, ?_⟩
  · rw [BitVec.toNat_and, e]; exact Nat.and_le_right
  · have h : (BitVec.ofInt 64 q &&& BitVec.ofInt 64 (M : Int)).toNat ≤ M := by rw [BitVec.toNat_and, e]; exact Nat.and_le_right
    show IntKind.i64.wrap ((BitVec.ofInt 64 q &&& BitVec.ofInt 64 (M : Int)).toNat : Int) = _
    generalize (BitVec.ofInt 64 q &&& BitVec.ofInt 64 (M : Int)).toNat = m at h ⊢
    simp [IntKind.wrap, IntKind.bits, IntKind.signed]
    omega
theorem mask7 (q : Int) : ∃ m : Nat, m ≤ 7 ∧ bits .and .i64 q 7 = (m : Int) := and_mask q 7 (by omega)
theorem mask31 (q : Int) : ∃ m : Nat, m ≤ 31 ∧ bits .and .i64 q 31 = (m : Int) := and_mask q 31 (by omega)
theorem rest (q : Int) (n : Nat) (h1 : 1 ≤ n) (h2 : n ≤ 1000) : ∃ m : Nat, m < n ∧ (wrap64 (q.tmod (n : Int) + (n : Int))).tmod (n : Int) = (m : Int) := by
  have b1 : -(n : Int) < q.tmod (n : Int) := Int.lt_tmod_of_pos q (by omega)
  have b2 : q.tmod (n : Int) < (n : Int) := Int.tmod_lt_of_pos q (by omega)
  have e1 : wrap64 (q.tmod (n : Int) + (n : Int)) = q.tmod (n : Int) + (n : Int) := by unfold wrap64; omega
  rw [e1]
  have b3 : (q.tmod (n : Int) + (n : Int)).tmod (n : Int) < (n : Int) := Int.tmod_lt_of_pos _ (by omega)
  have b4 : 0 ≤ (q.tmod (n : Int) + (n : Int)).tmod (n : Int) := Int.tmod_nonneg _ (by omega)
  exact ⟨((q.tmod (n : Int) + (n : Int)).tmod (n : Int)).toNat, by omega, by omega⟩


end Go.Proofs.YtkpffnihnhlghaaDoor
