/- Make. -/
import Derived.Test.YtkpffnihnhlghaaDoorPMkW
import Derived.Test.YtkpffnihnhlghaaDoorDMeth
namespace Go.Proofs.YtkpffnihnhlghaaDoor
open Go.RowKit
/-- An arena of a config has been made; nothing else. -/
def Made (x : Cfg) (N : Nat) (w : World) (e : Ending) (w' : World) : Prop := ∃ p c y, e = .returned (.tuple #[.pointer (some ⟨p, 0, none⟩), .nilIface]) ∧ ArS w' p c N y ∧ (∀ j, j < N → y.f j = wordsC x j) ∧ y.s = nz (wordsC x) N ∧ w.heap.size ≤ p ∧ w.heap.size ≤ c ∧ Below w.heap.size w w'

theorem store_in (y : St) (N i : Nat) (h : i < N) (u : Int) : y.store N i u = y.made 2 i u := by
  have hb : inB N (i : Int) = true := by simp [inB, h]
  rw [St.store, if_pos hb]

set_option maxHeartbeats 1000000 in
theorem make_no (x : Cfg) (w : World) (hL : Lim w) (hr : rightB x = false) : Calls Tryd.prog 21 #[(.agg #[.int .i64 x.t, .int .i64 x.s, .int .i64 x.l, .int .i64 x.c, .int .i64 x.s0, .int .i64 x.n0, .int .i64 x.s1, .int .i64 x.n1, .int .i64 x.r])] w fun e w' => e = .returned (.tuple #[.pointer none, .iface 46 (.int .i64 1)]) ∧ Below w.heap.size w w' := by
  have HL := Lib.hid hL
  have HR := Lib.hid hr
  clear hL hr
  go_enter Tryd.func21, Tryd.ntmps21
  go_wp2_with fail
  refine (check_no x _ (HL.out.below ((Below.refl _ _).alloc (Nat.le_refl _) _)) HR.out).mono ?_
  rintro e w1 ⟨rfl, hb⟩
  have H1 := Lib.hid (Below.step (B := w.heap.size) (a := w) (by (repeat (first | with_reducible exact Below.refl _ _ | with_reducible refine Below.drew ?_ | (with_reducible refine Below.setCell ?_ ?side _; case side => exact (by first | (simp; done) | (simp; omega) | omega)) | (with_reducible refine Below.alloc ?_ ?side _; case side => exact (by first | (simp; done) | (simp; omega) | omega))))) hb (by first | (simp; done) | (simp; omega) | omega))
  clear hb
  go_wp2
  go_ret2
  exact ⟨rfl, H1.out⟩

/-- How far Make has come: i words have been looked at. -/
structure MS (w0 : World) (p c g N : Nat) (F : Nat → Int) (i : Nat) (W : World) : Prop where
  a : ∃ y : St, ArS W p c N y ∧ (∀ j, j < N → y.f j = if j < i then F j else 0) ∧ y.s = nz F i
  row : W.rowIs g 29 N (fun j => .int .u64 (F j))
  gp : g ≠ p
  gc : g ≠ c
  hp : w0.heap.size ≤ p
  hc : w0.heap.size ≤ c
  be : Below w0.heap.size w0 W

set_option maxRecDepth 100000 in
set_option maxHeartbeats 4000000 in
theorem make_yes (x : Cfg) (N : Nat) (w : World) (hL : Lim w) (hr : Right x) (hN : sizeC x = (N : Int)) : Calls Tryd.prog 21 #[(.agg #[.int .i64 x.t, .int .i64 x.s, .int .i64 x.l, .int .i64 x.c, .int .i64 x.s0, .int .i64 x.n0, .int .i64 x.s1, .int .i64 x.n1, .int .i64 x.r])] w (Made x N w) := by
  have HL := Lib.hid hL
  have HR := Lib.hid hr
  have HN := Lib.hid hN
  have N1 : 7 ≤ N := by have := hr.sizes; omega
  have N2 : N ≤ 2869 := by have := hr.sizes; omega
  clear hL hr hN
  go_enter Tryd.func21, Tryd.ntmps21
  go_wp2_with fail
  refine (check_yes x _ (HL.out.below ((Below.refl _ _).alloc (Nat.le_refl _) _)) (rightB_true HR.out)).mono ?_
  rintro e w1 ⟨rfl, hb⟩
  have H1 := Lib.hid (show CW w w.heap.size x w1 from ⟨(cfgAt_box w x).below hb, Below.step (B := w.heap.size) (a := w) (by (repeat (first | with_reducible exact Below.refl _ _ | with_reducible refine Below.drew ?_ | (with_reducible refine Below.setCell ?_ ?side _; case side => exact (by first | (simp; done) | (simp; omega) | omega)) | (with_reducible refine Below.alloc ?_ ?side _; case side => exact (by first | (simp; done) | (simp; omega) | omega))))) hb (by first | (simp; done) | (simp; omega) | omega)⟩)
  clear hb
  obtain ⟨c0, c1, c2, c3, c4, c5, c6, c7, c8⟩ := H1.out.cfg.cells
  go_wp2_with fail
  refine (size_yes x _ (HL.out.below H1.out.be) HR.out).mono ?_
  rintro e w2 ⟨rfl, hb⟩
  have H2 := Lib.hid (H1.out.below hb)
  clear hb H1 c0 c1 c2 c3 c4 c5 c6 c7 c8
  rw [HN.out]
  go_wp2_with fail
  refine (new_some N (by omega) (by omega) _).mono ?_
  rintro e w3 ⟨rfl, hA, hb⟩
  have H3 := Lib.hid (H2.out.below hb)
  have HA := Lib.hid hA
  have HZ := Lib.hid H2.out.be.size
  clear hb H2 hA
  obtain ⟨c0, c1, c2, c3, c4, c5, c6, c7, c8⟩ := H3.out.cfg.cells
  go_wp2_with fail
  refine (firstWords_any x N _ (HL.out.below H3.out.be) HR.out HN.out).mono ?_
  rintro e w4 ⟨g, rfl, hg, hrow, hb⟩
  have hA4 := Ar.below HA.out hb HA.out.obj.lt HA.out.row.lt
  have l1 := HA.out.obj.lt
  have l2 := HA.out.row.lt
  have HS0 : Hid (MS w (w2.heap.size + 1) w2.heap.size g N (wordsC x) 0 w4) := Lib.hid ⟨⟨St.zero, hA4, fun j _ => by simp [St.zero], rfl⟩, hrow, by omega, by omega, by have := HZ.out; omega, HZ.out, (H3.out.below hb).be⟩
  clear hb hrow hg hA4 l1 l2 H3 HA HZ c0 c1 c2 c3 c4 c5 c6 c7 c8
  generalize w2.heap.size + 1 = p at HS0 ⊢
  generalize w2.heap.size = c at HS0 ⊢
  go_wp2_with fail
  go_loopw [19] (fun i wr => ∃ k : Nat, k ≤ N ∧ i = .int .i64 k ∧ MS w p c g N (wordsC x) k wr) (fun i _ => N - (intOf i).toNat)
  case atStart => exact ⟨0, by omega, rfl, HS0.out⟩
  case round =>
    clear HS0
    obtain ⟨k, hk, rfl, hS⟩ := hrel
    have HS := Lib.hid hS
    clear hS
    by_cases hlt : k < N
    · have ck := HS.out.row.cell hlt
      have HNZ := Lib.hid (show nz (wordsC x) (k + 1) = nz (wordsC x) k + if wordsC x k = 0 then 0 else 1 from rfl)
      by_cases hz : wordsC x k = 0
      · have HZ := Lib.hid hz
        rw [hz] at ck
        clear hz
        go_wp2
        go_roundw
        case rel =>
          refine ⟨k + 1, by omega, by go_num, ?_⟩
          obtain ⟨y, hy1, hy2, hy3⟩ := HS.out.a
          refine { HS.out with a := ⟨y, hy1, fun j hj => ?_, ?_⟩ }
          · rw [hy2 j hj]
            by_cases e : j = k
            · subst e; rw [if_neg (by omega), if_pos (by omega), HZ.out]
            · by_cases e2 : j < k
              · rw [if_pos e2, if_pos (by omega)]
              · rw [if_neg e2, if_neg (by omega)]
          · rw [hy3, HNZ.out, if_pos HZ.out, Int.add_zero]
        case measure => simp [intOf]; omega
      · have HZ := Lib.hid hz
        have dz : (wordsC x k != 0) = true := by simpa using hz
        obtain ⟨y, hy1, hy2, hy3⟩ := HS.out.a
        have HY1 := Lib.hid hy1
        have HY2 := Lib.hid hy2
        have HY3 := Lib.hid hy3
        have hnb := nz_bound (wordsC x) k
        clear hz hy1 hy2 hy3
        go_wp2_with fail
        refine (store_any _ p c N y HY1.out (by rw [HY3.out]; omega) (by rw [HY3.out]; omega) k (wordsC x k)).mono ?_
        rintro e w5 ⟨rfl, hA, hO⟩
        have HA := Lib.hid hA
        have HO := Lib.hid hO
        clear hA hO
        go_wp2
        go_roundw
        case rel =>
          refine ⟨k + 1, by omega, by go_num, ?_⟩
          refine ⟨⟨_, HA.out, fun j hj => ?_, ?_⟩, HS.out.row.of_block (HO.out.block _ HS.out.row.lt HS.out.gp HS.out.gc), HS.out.gp, HS.out.gc, HS.out.hp, HS.out.hc, HS.out.be.trans (HO.out.below HS.out.be.size HS.out.hp HS.out.hc)⟩
          · rw [store_in y N k hlt]
            show put y.f (Int.toNat (k : Int)) (wordsC x k) j = _
            rw [show Int.toNat (k : Int) = k by omega, put]
            by_cases e : j = k
            · subst e; rw [if_pos rfl, if_pos (by omega)]
            · rw [if_neg e, HY2.out j hj]
              by_cases e2 : j < k
              · rw [if_pos e2, if_pos (by omega)]
              · rw [if_neg e2, if_neg (by omega)]
          · rw [St.store_s, HY3.out, HNZ.out, if_neg HZ.out]
        case measure => simp [intOf]; omega
    · obtain rfl : k = N := by omega
      go_wp2
      go_ret2
      obtain ⟨y, hy1, hy2, hy3⟩ := HS.out.a
      exact ⟨p, c, y, rfl, hy1, fun j hj => by rw [hy2 j hj, if_pos hj], hy3, HS.out.hp, HS.out.hc, HS.out.be⟩

end Go.Proofs.YtkpffnihnhlghaaDoor
