/- The document's Unpack. -/
import Derived.Test.YtohncolnnkmljaaDoorPRef
namespace Go.Proofs.YtohncolnnkmljaaDoor
open Go.RowKit
set_option maxRecDepth 100000 in
set_option maxHeartbeats 4000000 in
theorem of_cap (x : Cfg) (b cap : Nat) (w : World) (hc : ∀ j, j < 9 → w.cell? ⟨b, j, none⟩ = some (.int .i64 (x.p j))) : Calls Tryd.prog 42 #[.slice (some ⟨b, 0, none⟩) 9 cap] w fun e w' => e = .returned (.agg #[.int .i64 x.t, .int .i64 x.s, .int .i64 x.l, .int .i64 x.c, .int .i64 x.s0, .int .i64 x.n0, .int .i64 x.s1, .int .i64 x.n1, .int .i64 x.r]) ∧ Below w.heap.size w w' := by
  have hl : b < w.heap.size := World.block_lt_of_cell? w _ (hc 0 (by omega))
  have p0 := hc 0 (by omega)
  have p1 := hc 1 (by omega)
  have p2 := hc 2 (by omega)
  have p3 := hc 3 (by omega)
  have p4 := hc 4 (by omega)
  have p5 := hc 5 (by omega)
  have p6 := hc 6 (by omega)
  have p7 := hc 7 (by omega)
  have p8 := hc 8 (by omega)
  simp only [Cfg.p] at p0 p1 p2 p3 p4 p5 p6 p7 p8
  clear hc
  have hne : b ≠ w.heap.size := by omega
  have hne1 : b ≠ w.heap.size + 1 := by omega
  go_enter Tryd.func42, Tryd.ntmps42
  go_wp2_with fail
  go_region
  go_wp2_with fail
  go_region
  go_wp2_with fail
  go_region
  go_wp2
  refine bodyPost_ret (v := (.agg #[.int .i64 x.t, .int .i64 x.s, .int .i64 x.l, .int .i64 x.c, .int .i64 x.s0, .int .i64 x.n0, .int .i64 x.s1, .int .i64 x.n1, .int .i64 x.r])) (by simp [results, Tryd.results42, go_sem]) rfl ⟨rfl, ?_⟩
  (repeat (first | with_reducible exact Below.refl _ _ | with_reducible refine Below.drew ?_ | (with_reducible refine Below.setCell ?_ ?side _; case side => exact (by first | (simp; done) | (simp; omega) | omega)) | (with_reducible refine Below.alloc ?_ ?side _; case side => exact (by first | (simp; done) | (simp; omega) | omega))))

def digs (n k : Nat) : List Value := (List.range k).map fun j => .int .i64 (dg n j : Int)
theorem digs_succ (n k : Nat) : digs n (k + 1) = digs n k ++ [.int .i64 (dg n k : Int)] := by simp [digs, List.range_succ]
theorem info_int : ∃ i : TypeInfo, Tryd.prog.info? 3 = some i ∧ i.zero = some (.int .i64 0) ∧ i.size = 1 ∧ i.bytes = 8 := by
  have h : (Tryd.prog.info? 3).map (fun i => (i.zero, i.size, i.bytes)) = some (some (.int .i64 0), 1, 8) := by kernel_rfl
  obtain ⟨i, h, h'⟩ := Option.map_eq_some_iff.1 h
  simp only [Prod.mk.injEq] at h'
  exact ⟨i, h, h'⟩
theorem cell_new1 (w : World) (v : Value) (t : TypeId) : ∀ j u, [v][j]? = some u → (w.alloc (.cells #[v] t)).cell? ((⟨w.heap.size, 0, none⟩ : Addr).add j) = some u := by
  intro j u h
  match j, h with
  | 0, h =>
    simp at h
    subst h
    have e : ((⟨w.heap.size, 0, none⟩ : Addr).add 0) = ⟨w.heap.size, 0, none⟩ := rfl
    rw [e]
    exact (World.rowIs_alloc w #[v] t (fun _ => v) (by intro j hj; match j, hj with | 0, _ => rfl)).cell (i := 0) (by simp)
theorem owns_cells {w : World} {B t n cap g : Nat} {xs : List Value} (h : w.ownsRow B t 1 (.slice (some ⟨g, 0, none⟩) n cap) n xs) (j : Nat) (hj : j < n) : w.cell? ⟨g, j, none⟩ = xs[j]? := h.cellAt j (by omega)
theorem owns_succ {W : World} {base : Nat} {e : TypeId} {size : Nat} {v : Value} {k : Nat} {xs : List Value} (h : W.ownsRow base e size v (k + 1) xs) : ∃ g cap, v = .slice (some ⟨g, 0, none⟩) (k + 1) cap := by
  rcases h.2 with ⟨_, h2⟩ | ⟨g, cap, cur, h1, _⟩
  · omega
  · exact ⟨g, cap, h1⟩

set_option maxRecDepth 100000 in
set_option maxHeartbeats 4000000 in
theorem r4Unpack_any (W : V) (w : World) : Calls Tryd.prog 36 #[.int .u64 (W.toNat : Int)] w fun e w' => e = .returned (.tuple #[(.agg #[.int .i64 (unpV W.toNat).t, .int .i64 (unpV W.toNat).s, .int .i64 (unpV W.toNat).l, .int .i64 (unpV W.toNat).c, .int .i64 (unpV W.toNat).s0, .int .i64 (unpV W.toNat).n0, .int .i64 (unpV W.toNat).s1, .int .i64 (unpV W.toNat).n1, .int .i64 (unpV W.toNat).r]), .bool (unpOk W.toNat)]) ∧ Below w.heap.size w w' := by
  obtain ⟨i0, hi, hz0, hz1, hz2⟩ := info_int
  have hWl := vlt W
  go_enter Tryd.func36, Tryd.ntmps36
  go_wp2_with fail
  have HZ : Hid (CfgAt (w.alloc (.cells #[.int .i64 zeroC.t, .int .i64 zeroC.s, .int .i64 zeroC.l, .int .i64 zeroC.c, .int .i64 zeroC.s0, .int .i64 zeroC.n0, .int .i64 zeroC.s1, .int .i64 zeroC.n1, .int .i64 zeroC.r] 26)) w.heap.size zeroC) := Lib.hid (cfgAt_box w zeroC)
  have HB : Hid (Below w.heap.size w (w.alloc (.cells #[.int .i64 zeroC.t, .int .i64 zeroC.s, .int .i64 zeroC.l, .int .i64 zeroC.c, .int .i64 zeroC.s0, .int .i64 zeroC.n0, .int .i64 zeroC.s1, .int .i64 zeroC.n1, .int .i64 zeroC.r] 26))) := Lib.hid ((Below.refl _ _).alloc (Nat.le_refl _) _)
  have HO : Hid (World.ownsRow (w.alloc (.cells #[.int .i64 zeroC.t, .int .i64 zeroC.s, .int .i64 zeroC.l, .int .i64 zeroC.c, .int .i64 zeroC.s0, .int .i64 zeroC.n0, .int .i64 zeroC.s1, .int .i64 zeroC.n1, .int .i64 zeroC.r] 26)) (w.heap.size + 1) 3 1 (.slice none 0 0) 0 []) := Lib.hid (World.ownsRow_nil _ _ _ _)
  go_loopw [0, 4, 5] (fun a l i wr => ∃ k : Nat, k ≤ 9 ∧ i = .int .i64 k ∧ a = .int .u64 ((W.toNat / 128 ^ k : Nat) : Int) ∧ wr.ownsRow (w.heap.size + 1) 3 1 l k (digs W.toNat k) ∧ CfgAt wr w.heap.size zeroC ∧ Below w.heap.size w wr) (fun _ _ i _ => 9 - (intOf i).toNat)
  case atStart => exact ⟨0, by omega, rfl, by simp, HO.out, HZ.out, HB.out⟩
  case round =>
    clear HZ HB HO
    obtain ⟨k, hk, rfl, rfl, hO, hZ, hB⟩ := hrel
    have HO := Lib.hid hO
    have HZ := Lib.hid hZ
    have HB := Lib.hid hB
    clear hO hZ hB
    by_cases hlt : k < 9
    · have HD := Lib.hid (digs_succ W.toNat k)
      have HQ := Lib.hid (show W.toNat / 128 ^ (k + 1) = W.toNat / 128 ^ k / 128 by rw [Nat.pow_succ, Nat.div_div_eq_div_mul])
      rw [show dg W.toNat k = W.toNat / 128 ^ k % 128 from rfl] at HD
      have hA : W.toNat / 128 ^ k < 18446744073709551616 := Nat.lt_of_le_of_lt (Nat.div_le_self _ _) hWl
      generalize W.toNat / 128 ^ k = A at HD HQ hA ⊢
      obtain ⟨q, hq⟩ : ∃ q : Nat, A % 128 = q := ⟨_, rfl⟩
      rw [hq] at HD
      have hq1 : q < 128 := by omega
      have e1 : (A : Int) % 128 = (q : Int) := by omega
      have e2 : (A : Int).tmod 128 = (q : Int) := by rw [Int.tmod_eq_emod_of_nonneg (by omega)]; exact e1
      obtain ⟨D, hD⟩ : ∃ D : Nat, A / 128 = D := ⟨_, rfl⟩
      rw [hD] at HQ
      have e3 : (A : Int) / 128 = (D : Int) := by omega
      have e4 : (A : Int).tdiv 128 = (D : Int) := by rw [Int.tdiv_eq_ediv_of_nonneg (by omega)]; exact e3
      have e5 : IntKind.u64.wrap (D : Int) = (D : Int) := by rw [IntKind.wrap_u64]; omega
      have ew : IntKind.i64.wrap (q : Int) = (q : Int) := IntWalk.i64_in _ (by omega)
      have hsz : w.heap.size + 1 ≤ wr.heap.size := by have := HZ.out.lt; omega
      clear hq hA hWl hD
      go_wp2_with (at_builtin; refine wpList_append_own _ rfl (.tmp 12) (.tmp 16) 40 rfl (w.heap.size + 1) 3 i0 (.int .i64 0) 1 8 Tryd.underlying40 hi hz0 hz1 hz2 rfl (by decide) _ k (digs W.toNat k) rfl (HO.out.alloc _) ⟨wr.heap.size, 0, none⟩ 1 1 [.int .i64 (q : Int)] rfl rfl (cell_new1 _ _ _) (by simp [Value.oneCell']) (by unfold maxLen; omega) (by omega) (by simp; omega) ?_; intro v4 w4 hown4 hgrow4 hnil4; have Hown4 := Lib.hid hown4; have Hgrow4 := Lib.hid hgrow4; have Hlt4 := Lib.hid (HO.out.lt); clear hown4 hgrow4 hnil4)
      go_wp2
      have HBe := Lib.hid (show Below (w.heap.size + 1) wr w4 from ((Below.refl (w.heap.size + 1) wr).alloc hsz _).grown Hgrow4.out (by simp; omega) (fun b hb => (Hlt4.out b hb).1))
      go_roundw
      case rel =>
        refine ⟨k + 1, by omega, by go_num, by rw [HQ.out], ?_, HZ.out.of_block (HBe.out.block _ (by omega)), HB.out.trans (HBe.out.mono (by omega))⟩
        rw [HD.out]
        exact Hown4.out
      case measure => simp [intOf]; omega
    · obtain rfl : k = 9 := by omega
      obtain ⟨g, cap, rfl⟩ := owns_succ HO.out
      have HC := Lib.hid (show ∀ j, j < 9 → wr.cell? ⟨g, j, none⟩ = some (.int .i64 ((unpC W.toNat).p j)) from fun j hj => by
        rw [owns_cells HO.out j hj, unp_p _ _ hj]
        simp [digs, hj])
      clear HO hk hlt
      go_wp2_with fail
      refine (of_cap (unpC W.toNat) g cap _ HC.out).mono ?_
      rintro e w2 ⟨rfl, hb⟩
      have HB2 := Lib.hid (Below.step HB.out hb HB.out.size)
      have HZ2 := Lib.hid (HZ.out.below hb)
      clear hb HB HZ HC
      have HV : Hid (unpV W.toNat = if unpOk W.toNat then unpC W.toNat else zeroC) := Lib.hid rfl
      have HO : Hid (unpOk W.toNat = (rightB (unpC W.toNat) && decide (W.toNat < 9223372036854775808))) := Lib.hid rfl
      have HN : Hid (W.toNat / 128 ^ 9 = 0 ↔ W.toNat < 9223372036854775808) := Lib.hid (by
        rw [show (128 : Nat) ^ 9 = 9223372036854775808 from rfl]
        omega)
      generalize W.toNat / 128 ^ 9 = D at HN ⊢
      generalize unpC W.toNat = x at HV HO ⊢
      have hzw := HB2.out.size
      go_wp2_with fail
      refine (r4Right_any x _).mono ?_
      rintro e w3 ⟨rfl, hb⟩
      have HB3 := Lib.hid (Below.step (B := w.heap.size) (a := w) (by (repeat (first | with_reducible exact Below.refl _ _ | with_reducible exact HB2.out | with_reducible refine Below.drew ?_ | (with_reducible refine Below.setCell ?_ ?side _; case side => exact (by have := (HB2.out).size; first | (simp; done) | (simp; omega) | omega)) | (with_reducible refine Below.alloc ?_ ?side _; case side => exact (by have := (HB2.out).size; first | (simp; done) | (simp; omega) | omega))))) hb (by have := (HB2.out).size; first | (simp; done) | (simp; omega) | omega))
      have HC3 := Lib.hid ((cfgAt_box w2 x).below hb)
      have HZ3 := Lib.hid (CfgAt.below (HZ2.out.alloc _) hb)
      clear hb HB2 HZ2
      obtain ⟨z0, z1, z2, z3, z4, z5, z6, z7, z8⟩ := HZ3.out.cells
      have zf := HZ3.out.frozen
      obtain ⟨c0, c1, c2, c3, c4, c5, c6, c7, c8⟩ := HC3.out.cells
      by_cases hr : rightB x = true
      · by_cases hD : D = 0
        · subst hD
          have HF : Hid (unpOk W.toNat = true) := Lib.hid (by rw [HO.out, hr]; simpa using HN.out.1 rfl)
          rw [hr]
          go_wp2
          rw [HV.out, HF.out]
          refine bodyPost_ret (v := .tuple #[(.agg #[.int .i64 x.t, .int .i64 x.s, .int .i64 x.l, .int .i64 x.c, .int .i64 x.s0, .int .i64 x.n0, .int .i64 x.s1, .int .i64 x.n1, .int .i64 x.r]), .bool true]) (by simp [results, Tryd.results36, go_sem, z0, z1, z2, z3, z4, z5, z6, z7, z8]) rfl ⟨rfl, ?_⟩
          (repeat (first | with_reducible exact Below.refl _ _ | with_reducible exact HB3.out | with_reducible refine Below.drew ?_ | (with_reducible refine Below.setCell ?_ ?side _; case side => exact (by have := (HB3.out).size; first | (simp; done) | (simp; omega) | omega)) | (with_reducible refine Below.alloc ?_ ?side _; case side => exact (by have := (HB3.out).size; first | (simp; done) | (simp; omega) | omega))))
        · have hne : ((D : Int) != 0) = true := by simp; omega
          have hne' : (D != 0) = true := by simpa using hD
          have HF : Hid (unpOk W.toNat = false) := Lib.hid (by
            rw [HO.out]
            have : ¬ W.toNat < 9223372036854775808 := fun h => hD (HN.out.2 h)
            simp [this])
          rw [hr]
          clear hD
          go_wp2
          rw [HV.out, HF.out]
          refine bodyPost_ret (v := .tuple #[(.agg #[.int .i64 zeroC.t, .int .i64 zeroC.s, .int .i64 zeroC.l, .int .i64 zeroC.c, .int .i64 zeroC.s0, .int .i64 zeroC.n0, .int .i64 zeroC.s1, .int .i64 zeroC.n1, .int .i64 zeroC.r]), .bool false]) (by simp [results, Tryd.results36, go_sem, z0, z1, z2, z3, z4, z5, z6, z7, z8, zeroC]) rfl ⟨rfl, ?_⟩
          (repeat (first | with_reducible exact Below.refl _ _ | with_reducible exact HB3.out | with_reducible refine Below.drew ?_ | (with_reducible refine Below.setCell ?_ ?side _; case side => exact (by have := (HB3.out).size; first | (simp; done) | (simp; omega) | omega)) | (with_reducible refine Below.alloc ?_ ?side _; case side => exact (by have := (HB3.out).size; first | (simp; done) | (simp; omega) | omega))))
      · have hr' : rightB x = false := by simpa using hr
        have HF : Hid (unpOk W.toNat = false) := Lib.hid (by rw [HO.out]; simp [hr'])
        rw [hr']
        go_wp2
        rw [HV.out, HF.out]
        refine bodyPost_ret (v := .tuple #[(.agg #[.int .i64 zeroC.t, .int .i64 zeroC.s, .int .i64 zeroC.l, .int .i64 zeroC.c, .int .i64 zeroC.s0, .int .i64 zeroC.n0, .int .i64 zeroC.s1, .int .i64 zeroC.n1, .int .i64 zeroC.r]), .bool false]) (by simp [results, Tryd.results36, go_sem, z0, z1, z2, z3, z4, z5, z6, z7, z8, zeroC]) rfl ⟨rfl, ?_⟩
        (repeat (first | with_reducible exact Below.refl _ _ | with_reducible exact HB3.out | with_reducible refine Below.drew ?_ | (with_reducible refine Below.setCell ?_ ?side _; case side => exact (by have := (HB3.out).size; first | (simp; done) | (simp; omega) | omega)) | (with_reducible refine Below.alloc ?_ ?side _; case side => exact (by have := (HB3.out).size; first | (simp; done) | (simp; omega) | omega))))

end Go.Proofs.YtohncolnnkmljaaDoor
