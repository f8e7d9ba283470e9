/- Numbers that are taken one by one; a right schema by numbers. -/
import Derived.Test.YtkhbhkllnigbgaaDoorQApp
namespace Go.Proofs.YtkhbhkllnigbgaaDoor
open Go.ChangeShapes Go.WideShapes Go.ChangeAt Go.RowKit
/-- A row of L numbers. -/
def IRow (W : World) (A : Option Addr) (L : Nat) : Prop := 0 < L → ∃ b off, A = some ⟨b, off, none⟩ ∧ b < W.heap.size ∧ ∀ j, j < L → ∃ z : Int, W.cell? ⟨b, off + j, none⟩ = some (.int .i64 z)
theorem IRow.below {W W' : World} {A : Option Addr} {L : Nat} (h : IRow W A L) (hb : Below W.heap.size W W') : IRow W' A L := fun h0 => by
  obtain ⟨b, off, hA, hlt, hc⟩ := h h0
  refine ⟨b, off, hA, Nat.lt_of_lt_of_le hlt hb.size, fun j hj => ?_⟩
  obtain ⟨z, hz⟩ := hc j hj
  exact ⟨z, (hb.cell (p := ⟨b, off + j, none⟩) hlt).trans hz⟩
/-- How far the numbers were taken: the row lies at q. -/
def Nx (q : Nat) (A : Option Addr) (L c : Nat) (W : World) : Prop := ∃ p : Nat, p ≤ L ∧ W.rowIs q 140 2 (fun j => if j = 0 then .slice A L c else .int .i64 p)
theorem Nx.but {q : Nat} {A : Option Addr} {L c : Nat} {W W' : World} (h : Nx q A L c W) (hb : Below W.heap.size W W') : Nx q A L c W' := by
  obtain ⟨p, hp, hr⟩ := h
  exact ⟨p, hp, hr.of_block (hb.block _ hr.lt)⟩
theorem rest (q : Int) (n : Nat) (h1 : 1 ≤ n) (h2 : n ≤ 1000) : ∃ m : Nat, m < n ∧ (wrap64 (q.tmod (n : Int) + (n : Int))).tmod (n : Int) = (m : Int) := by
  have b1 : -(n : Int) < q.tmod (n : Int) := Int.lt_tmod_of_pos q (by omega)
  have b2 : q.tmod (n : Int) < (n : Int) := Int.tmod_lt_of_pos q (by omega)
  have e1 : wrap64 (q.tmod (n : Int) + (n : Int)) = q.tmod (n : Int) + (n : Int) := by unfold wrap64; omega
  rw [e1]
  have b3 : (q.tmod (n : Int) + (n : Int)).tmod (n : Int) < (n : Int) := Int.tmod_lt_of_pos _ (by omega)
  have b4 : 0 ≤ (q.tmod (n : Int) + (n : Int)).tmod (n : Int) := Int.tmod_nonneg _ (by omega)
  exact ⟨((q.tmod (n : Int) + (n : Int)).tmod (n : Int)).toNat, by omega, by omega⟩

set_option maxRecDepth 100000 in
set_option maxHeartbeats 1000000 in
theorem next_any (w : World) (q : Nat) (A : Option Addr) (L c n : Nat) (W : World) (hL : L ≤ 9223372036854775807) (hq : w.heap.size ≤ q) (hn1 : 1 ≤ n) (hn : n ≤ 5) (hi : IRow w A L) (hb : Below w.heap.size w W) (hx : Nx q A L c W) :
    Calls Tryd.prog 73 #[.pointer (some ⟨q, 0, none⟩), .int .i64 n] W fun e W' => ∃ x : Nat, x < n ∧ e = .returned (.int .i64 x) ∧ Nx q A L c W' ∧ But q W W' := by
  obtain ⟨p, hp, hr⟩ := hx
  have c0 := hr.cell (i := 0) (by omega)
  have c1 := hr.cell (i := 1) (by omega)
  have f1 := hr.frozen 1
  simp only [if_true, show ((1 : Nat) = 0) = False by simp, if_false] at c0 c1
  by_cases hlt : p < L
  · obtain ⟨b, off, rfl, hbl, hc⟩ := hi (by omega)
    obtain ⟨z, hz⟩ := hc p hlt
    have c2 := (hb.cell (p := ⟨b, off + p, none⟩) hbl).trans hz
    obtain ⟨m, hm, hmz⟩ := rest z n hn1 (by omega)
    have hne : b ≠ q := by omega
    have HR := Lib.hid hr
    clear hr hb hc hz
    have hn0 : ((n : Int) == 0) = false := by simp; omega
    have hn0' : ((n : Int) = 0) = False := by simp; omega
    go_enter Tryd.func73, Tryd.ntmps73
    have d0 : decide ((L : Int) ≤ (p : Int)) = false := by simp; omega
    have d1 : decide (L ≤ p) = false := by simp; omega
    go_wp2_with fail
    go_region
    all_goals
      go_wp2_with fail
      go_region
    all_goals
      go_wp2
      go_ret
      refine ⟨m, hm, rfl, ⟨p + 1, by omega, ((HR.out.set 1 _).congr fun j hj => ?_).drew.drew⟩, ((But.refl _ _).set (p := ⟨q, 1, none⟩) (.inl rfl) _).drew.drew⟩
      match j, hj with
      | 0, _ => rfl
      | 1, _ => simp
  · have d0 : decide ((L : Int) ≤ (p : Int)) = true := by simp; omega
    have d1 : decide (L ≤ p) = true := by simp; omega
    have HR := Lib.hid hr
    clear hr hb hi
    go_enter Tryd.func73, Tryd.ntmps73
    go_wp2_with fail
    go_region
    all_goals
      go_wp2
      go_ret
      exact ⟨0, by omega, rfl, ⟨p, hp, HR.out.drew⟩, (But.refl _ _).drew⟩

theorem Nx.tag {q : Nat} {A : Option Addr} {L c : Nat} {W : World} (h : Nx q A L c W) (t : TypeId) (ht : ¬ t = 140) : ∀ cur fz, W.heap[q]? ≠ some (.cells cur t fz) := fun cur fz e => by
  obtain ⟨p, _, hr⟩ := h
  obtain ⟨cc, hb, _⟩ := hr
  rw [hb] at e
  injection e with e
  injection e with e1 e2 e3
  exact ht e2.symm

/-- Made, when m types of n are there. -/
structure MadeS (w : World) (A : Option Addr) (L c n : Nat) (s : Sch) (m : Nat) (ad : Nat → Option Addr) (cp : Nat → Nat) (v : Value) (W : World) : Prop where
  typ : TypA w s m ad cp v W
  nx : Nx w.heap.size A L c W
  ok : ∀ i, i < m → 1 ≤ s.len i ∧ s.len i ≤ 4 ∧ ∀ j, j < s.len i → fieldOk n (s.k i j) (s.t i j)
  sn : s.n = n
theorem MadeS.but {w : World} {A : Option Addr} {L c n : Nat} {s : Sch} {m : Nat} {ad : Nat → Option Addr} {cp : Nat → Nat} {v : Value} {W W' : World} (h : MadeS w A L c n s m ad cp v W) (hb : But w.heap.size W W') (hx : Nx w.heap.size A L c W') : MadeS w A L c n s m ad cp v W' :=
  ⟨h.typ.keep hb (Nat.le_refl _) (h.nx.tag _ (by decide)) (h.nx.tag _ (by decide)), hx, h.ok, h.sn⟩
/-- .. and of the next one q fields. -/
structure MadeF (w W0 : World) (A : Option Addr) (L c n : Nat) (k t : Nat → Int) (q : Nat) (v : Value) (W : World) : Prop where
  fld : FldA W0 k t q v W
  but : But w.heap.size W0 W
  nx : Nx w.heap.size A L c W
  ok : ∀ j, j < q → fieldOk n (k j) (t j)

theorem MadeF.next {w W0 : World} {A : Option Addr} {L c n : Nat} {k t : Nat → Int} {q : Nat} {v v' : Value} {W Wp w1 : World} {kk tt : Int} (h : MadeF w W0 A L c n k t q v W) (hq : w.heap.size < W0.heap.size) (hb : But w.heap.size W Wp) (hx : Nx w.heap.size A L c Wp) (hf : fieldOk n kk tt)
    (ho : w1.ownsRow W0.heap.size 95 2 v' (q + 1) (cellsF k t q ++ [.int .i64 kk, .int .i64 tt])) (hg : Wp.grownBy w1 v.ownBlock) : MadeF w W0 A L c n (adPut k q kk) (adPut t q tt) (q + 1) v' w1 := by
  have hlo : ∀ g, v.ownBlock = some g → W0.heap.size ≤ g := fun g e => (h.fld.lt g e).1
  refine ⟨?_, (h.but.trans hb).grown hg hlo, ?_, fun j hj => ?_⟩
  · unfold FldA
    rw [cellsF, adPut_at, adPut_at, cellsF_congr (k' := k) (t' := t) fun j hj => ⟨adPut_ne _ _ hj, adPut_ne _ _ hj⟩]
    exact ho
  · obtain ⟨p, hp, hr⟩ := hx
    exact ⟨p, hp, hr.of_block (hg.block _ hr.lt (fun e => by have := hlo _ e.symm; omega))⟩
  · by_cases e : j = q
    · subst e; rw [adPut_at, adPut_at]; exact hf
    · rw [adPut_ne _ _ (by omega), adPut_ne _ _ (by omega)]; exact h.ok j (by omega)

theorem MadeS.next {w : World} {A : Option Addr} {L c n : Nat} {s : Sch} {m : Nat} {ad : Nat → Option Addr} {cp : Nat → Nat} {v v' : Value} {W w1 : World} (h : MadeS w A L c n s m ad cp v W) {af : Option Addr} {q cf : Nat} {k t : Nat → Int} (hr : FRow W af q k t) (hT : Tag w W af) (hok : 1 ≤ q ∧ q ≤ 4 ∧ ∀ j, j < q → fieldOk n (k j) (t j))
    (ho : w1.ownsRow w.heap.size 96 1 v' (m + 1) (cellsT s ad cp m ++ [.slice af q cf])) (hg : (W.alloc (.cells #[.slice af q cf] 96)).grownBy w1 v.ownBlock) : MadeS w A L c n (s.put m q k t) (m + 1) (adPut ad m af) (adPut cp m cf) v' w1 := by
  refine ⟨h.typ.next hr (fun _ => hT) rfl ho hg, ?_, fun i hi => ?_, h.sn⟩
  · have hx := h.nx.but ((Below.refl _ _).alloc (Nat.le_refl _) (.cells #[.slice af q cf] 96))
    have htag := hx.tag 96 (by decide)
    obtain ⟨p, hp, hrr⟩ := hx
    refine ⟨p, hp, hrr.of_block (hg.block _ hrr.lt fun e => ?_)⟩
    rcases (h.typ.own.alloc (.cells #[.slice af q cf] 96)).2 with ⟨rfl, _⟩ | ⟨g', cap, cur, rfl, h1, h2, _⟩
    · cases e
    · have e' : w.heap.size = g' := Option.some.inj e
      rw [← e'] at h2
      exact htag _ _ h2
  · by_cases e : i = m
    · subst e
      rw [show (s.put i q k t).len i = q from if_pos rfl, show (s.put i q k t).k i = k from if_pos rfl, show (s.put i q k t).t i = t from if_pos rfl]
      exact hok
    · rw [show (s.put m q k t).len i = s.len i from if_neg e, show (s.put m q k t).k i = s.k i from if_neg e, show (s.put m q k t).t i = s.t i from if_neg e]
      exact h.ok i (by omega)

set_option maxRecDepth 100000 in
set_option maxHeartbeats 4000000 in
theorem made_any (A : Option Addr) (L c : Nat) (w : World) (hL : L ≤ 9223372036854775807) (hi : IRow w A L) :
    Calls Tryd.prog 41 #[.slice A L c] w fun e w' => ∃ (s : Sch) (A' : Option Addr) (c' : Nat), e = .returned (.slice A' s.n c') ∧ RightS s ∧ s.n ≤ 4 ∧ (∀ i, i < s.n → s.len i ≤ 4) ∧ SAt w' A' s ∧ Below w.heap.size w w' := by
  obtain ⟨i0, hi0, hz1, hz2, hz3⟩ := info_parts info_field
  obtain ⟨j0, hj0, hy1, hy2, hy3⟩ := info_parts info_fs
  have HI := Lib.hid hi
  clear hi
  go_enter Tryd.func41, Tryd.ntmps41
  go_wp2_with fail
  have hB0 : Below w.heap.size w (w.alloc (.cells #[.slice A L c, .int .i64 0] 140)) := by (repeat (first | with_reducible exact Below.refl _ _ | with_reducible refine Below.drew ?_ | (with_reducible refine Below.setCell ?_ ?side _; case side => exact (by first | (simp; done) | (simp; omega) | omega)) | (with_reducible refine Below.alloc ?_ ?side _; case side => exact (by first | (simp; done) | (simp; omega) | omega))))
  have hN0 : Nx w.heap.size A L c (w.alloc (.cells #[.slice A L c, .int .i64 0] 140)) := ⟨0, by omega, World.rowIs_alloc w #[.slice A L c, .int .i64 0] 140 _ (by intro j hj; match j, hj with | 0, _ => rfl | 1, _ => rfl)⟩
  refine (next_any w w.heap.size A L c 4 _ hL (Nat.le_refl _) (by omega) (by omega) HI.out hB0 hN0).mono ?_
  rintro e W0 ⟨x0, hx0, rfl, hx, hb⟩
  have HS : Hid (MadeS w A L c (1 + x0) ⟨1 + x0, fun _ => 0, fun _ _ => 0, fun _ _ => 0⟩ 0 (fun _ => none) (fun _ => 0) (.slice none 0 0) W0) := Lib.hid ⟨TypA.nil _ _ _ _ _ (Below.trans hB0 (hb.below hB0.size (Nat.le_refl _))), hx, fun i hi => by omega, rfl⟩
  clear hB0 hN0 hx hb
  obtain ⟨n, hn⟩ : ∃ n, n = 1 + x0 := ⟨_, rfl⟩
  rw [← hn] at HS
  have hn4 : n ≤ 4 := by omega
  have hn1 : 1 ≤ n := by omega
  have hnv : (1 : Int) + (x0 : Int) = (n : Int) := by omega
  clear hn
  go_wp2_with fail
  clear hnv hx0
  go_loopw [5, 6] (fun sv tv wr => ∃ (m : Nat) (s : Sch) (ad : Nat → Option Addr) (cp : Nat → Nat) (a : Option Addr) (cc : Nat), m ≤ n ∧ tv = .int .i64 m ∧ sv = .slice a m cc ∧ Hid (MadeS w A L c n s m ad cp (.slice a m cc) wr)) (fun _ tv _ => n - (intOf tv).toNat)
  case atStart => exact ⟨0, _, _, _, none, 0, by omega, rfl, rfl, HS⟩
  case round =>
    clear HS
    obtain ⟨m, s, ad, cp, a, cc, hm, rfl, rfl, HS⟩ := hrel
    by_cases hlt : m < n
    · go_wp2_with fail
      refine (next_any w w.heap.size A L c 4 _ hL (Nat.le_refl _) (by omega) (by omega) HI.out HS.out.typ.below HS.out.nx).mono ?_
      rintro e W1 ⟨x1, hx1, rfl, hx, hb⟩
      have HS1 := Lib.hid (HS.out.but hb hx)
      clear HS hx hb
      obtain ⟨K, hK⟩ : ∃ K, K = 1 + x1 := ⟨_, rfl⟩
      have hK4 : K ≤ 4 := by omega
      have hK1 : 1 ≤ K := by omega
      have hKv : (1 : Int) + (x1 : Int) = (K : Int) := by omega
      clear hK
      go_wp2_with fail
      clear hKv hx1
      have hqW : w.heap.size < W1.heap.size := by obtain ⟨p, _, hr⟩ := HS1.out.nx; exact hr.lt
      go_loopw [8, 9] (fun fv iv wr => ∃ (q : Nat) (k t : Nat → Int) (a : Option Addr) (cc : Nat), q ≤ K ∧ iv = .int .i64 q ∧ fv = .slice a q cc ∧ Hid (MadeF w W1 A L c n k t q (.slice a q cc) wr)) (fun _ iv _ => K - (intOf iv).toNat)
      case atStart => exact ⟨0, fun _ => 0, fun _ => 0, none, 0, by omega, rfl, rfl, Lib.hid ⟨World.ownsRow_nil _ _ _ _, But.refl _ _, HS1.out.nx, fun j hj => by omega⟩⟩
      case round =>
        obtain ⟨q, k, t, af, cf, hq, rfl, rfl, HF⟩ := hrel
        by_cases hq1 : q < K
        · have hBw := Lib.hid (Below.trans HS1.out.typ.below (HF.out.but.below HS1.out.typ.below.size (Nat.le_refl _)))
          go_wp2_with fail
          refine (next_any w w.heap.size A L c 5 _ hL (Nat.le_refl _) (by omega) (by omega) HI.out hBw.out HF.out.nx).mono ?_
          rintro e W2 ⟨x2, hx2, rfl, hx, hb⟩
          have HX2 := Lib.hid hx
          have HB2 := Lib.hid hb
          clear hx hb
          have HO2 := Lib.hid (show W2.ownsRow W1.heap.size 95 2 (.slice af q cf) q (cellsF k t q) from HF.out.fld.but HB2.out hqW)
          have hz12 : W1.heap.size ≤ W2.heap.size := Nat.le_trans HF.out.but.size HB2.out.size
          by_cases h4 : 3 ≤ x2
          · have d4 : decide ((4 : Int) ≤ 1 + (x2 : Int)) = true := by simp; omega
            go_wp2_with fail
            have hB3 := hBw.out.trans (HB2.out.below hBw.out.size (Nat.le_refl _))
            have hz23 := hB3.size
            refine (next_any w w.heap.size A L c n _ hL (Nat.le_refl _) (by omega) (by omega) HI.out (hB3.alloc hz23 _) (HX2.out.but ((Below.refl _ _).alloc (Nat.le_refl _) _))).mono ?_
            rintro e W3 ⟨x3, hx3, rfl, hx, hb⟩
            have HX3 := Lib.hid hx
            have HB3 := Lib.hid ((HB2.out.alloc (.cells #[.int .i64 (1 + (x2 : Int)), .int .i64 0] 95)).trans hb)
            have hr3 := (World.rowIs_alloc W2 #[.int .i64 (1 + (x2 : Int)), .int .i64 0] 95 (fun j => if j = 0 then .int .i64 (1 + (x2 : Int)) else .int .i64 0) (by intro j hj; match j, hj with | 0, _ => rfl | 1, _ => rfl))
            have hqW2 : w.heap.size < W2.heap.size := by omega
            have HR3 := Lib.hid (hr3.of_block (hb.block _ hr3.lt (by omega)))
            have HO3 := Lib.hid (show W3.ownsRow W1.heap.size 95 2 (.slice af q cf) q (cellsF k t q) from HF.out.fld.but HB3.out hqW)
            have hg3 : ∀ g, (Value.slice af q cf).ownBlock = some g → g < W2.heap.size := fun g e => (HO2.out.lt g e).2
            have HO4 := Lib.hid (show (W3.setCell ⟨W2.heap.size, 1, none⟩ (.int .i64 (x3 : Int))).ownsRow W1.heap.size 95 2 (.slice af q cf) q (cellsF k t q) from own_of HO3.out fun g e => Below.heap_setCell W3 ⟨W2.heap.size, 1, none⟩ _ g (by have := hg3 g e; show g ≠ W2.heap.size; omega))
            have HB4 := Lib.hid (HB3.out.set (p := ⟨W2.heap.size, 1, none⟩) (.inr (by show wr.heap.size ≤ W2.heap.size; exact HB2.out.size)) (.int .i64 (x3 : Int)))
            have HX4 : Hid (Nx w.heap.size A L c (W3.setCell ⟨W2.heap.size, 1, none⟩ (.int .i64 (x3 : Int)))) := Lib.hid (by
              obtain ⟨p, hp, hr⟩ := HX3.out
              exact ⟨p, hp, hr.setOther (a := ⟨W2.heap.size, 1, none⟩) (by show w.heap.size ≠ W2.heap.size; omega) _⟩)
            have hz34 : W1.heap.size ≤ (W3.setCell ⟨W2.heap.size, 1, none⟩ (.int .i64 (x3 : Int))).heap.size := Nat.le_trans HF.out.but.size HB4.out.size
            have b0 := HR3.out.cell (i := 0) (by simp)
            have b1 := HR3.out.cell (i := 1) (by simp)
            have bf := HR3.out.frozen 1
            simp only [if_true, show ((1 : Nat) = 0) = False by simp, if_false] at b0 b1
            clear hx hb hr3 hB3 HO3 HB3 HX3 HR3 hg3
            go_wp2_with (at_builtin; (refine wpList_append_own _ rfl _ _ 96 rfl W1.heap.size 95 i0 (.agg #[.int .i64 0, .int .i64 0]) 2 16 Tryd.underlying96 hi0 hz1 hz2 hz3 rfl (by decide) _ _ _ rfl (HO4.out.alloc _) ⟨_, 0, none⟩ 1 1 [.int .i64 (1 + (x2 : Int)), .int .i64 (x3 : Int)] rfl rfl (cell_two_at _ _ _ _ _ (by simp)) (by simp [Value.oneCell']) (by unfold maxLen; omega) (by omega) (by simp at hz34 ⊢; omega) ?_); intro v' w1 hown' hgrow _; obtain ⟨g', cap', rfl⟩ := ownsRow_succ hown'; have Hnx := Lib.hid (HF.out.next hqW (HB4.out.alloc _) (HX4.out.but ((Below.refl _ _).alloc (Nat.le_refl _) _)) (show fieldOk n (1 + (x2 : Int)) (x3 : Int) by unfold fieldOk; omega) hown' hgrow); clear hown' hgrow)
            go_roundw
            case rel => exact ⟨q + 1, _, _, _, cap', by omega, by go_num, rfl, Hnx⟩
            case measure => simp [intOf]; omega
          · have d4 : decide ((4 : Int) ≤ 1 + (x2 : Int)) = false := by simp; omega
            go_wp2_with (at_builtin; (refine wpList_append_own _ rfl _ _ 96 rfl W1.heap.size 95 i0 (.agg #[.int .i64 0, .int .i64 0]) 2 16 Tryd.underlying96 hi0 hz1 hz2 hz3 rfl (by decide) _ _ _ rfl ((HO2.out.alloc _).alloc _) ⟨_, 0, none⟩ 1 1 [.int .i64 (1 + (x2 : Int)), .int .i64 0] rfl rfl (cell_two_at _ _ _ _ _ (by simp)) (by simp [Value.oneCell']) (by unfold maxLen; omega) (by omega) (by simp; omega) ?_); intro v' w1 hown' hgrow _; obtain ⟨g', cap', rfl⟩ := ownsRow_succ hown'; have Hnx := Lib.hid (HF.out.next hqW ((HB2.out.alloc _).alloc _) ((HX2.out.but ((Below.refl _ _).alloc (Nat.le_refl _) _)).but ((Below.refl _ _).alloc (Nat.le_refl _) _)) (show fieldOk n (1 + (x2 : Int)) 0 by unfold fieldOk; omega) hown' hgrow); clear hown' hgrow)
            go_roundw
            case rel => exact ⟨q + 1, _, _, _, cap', by omega, by go_num, rfl, Hnx⟩
            case measure => simp [intOf]; omega
        · have e : q = K := by omega
          subst e
          obtain ⟨Af, cf', hvf, hrow, htag⟩ := HF.out.fld.row w
          injection hvf with e1 e2 e3
          subst e1 e3
          have HM2 := Lib.hid (HS1.out.but HF.out.but HF.out.nx)
          have HRW := Lib.hid hrow
          have HTG := Lib.hid htag
          clear hrow htag e2
          have hz13 := HM2.out.typ.below.size
          go_wp2_with (at_builtin; (refine wpList_append_own _ rfl _ _ 32 rfl w.heap.size 96 j0 (.slice none 0 0) 1 24 Tryd.underlying32 hj0 hy1 hy2 hy3 rfl (by decide) _ _ _ rfl (HM2.out.typ.own.alloc _) ⟨_, 0, none⟩ 1 1 [.slice af q cf] rfl rfl (cell_one_new _ _ _) (by simp [Value.oneCell']) (by unfold maxLen; omega) (by omega) (by simp; omega) ?_); intro v' w1 hown' hgrow _; obtain ⟨g', cap', rfl⟩ := ownsRow_succ hown'; have Hnt := Lib.hid (HM2.out.next HRW.out HTG.out ⟨hK1, hK4, HF.out.ok⟩ hown' hgrow); clear hown' hgrow)
          go_roundw
          case rel => exact ⟨m + 1, _, _, _, _, cap', by omega, by go_num, rfl, Hnt⟩
          case measure => simp [intOf]; omega
    · have e : m = n := by omega
      subst e
      obtain ⟨A', c', hv, hsat⟩ := TypA.sat (s := s) (by rw [HS.out.sn]; exact HS.out.typ)
      rw [HS.out.sn] at hv
      have HV := Lib.hid hv
      clear hv
      go_wp2
      go_ret
      refine ⟨s, A', c', ?_, ⟨by rw [HS.out.sn]; omega, by rw [HS.out.sn]; omega, fun i hi => ?_⟩, by rw [HS.out.sn]; omega, fun i hi => ?_, hsat, HS.out.typ.below⟩
      · rw [HS.out.sn]; rw [HV.out]; rfl
      · obtain ⟨o1, o2, o3⟩ := HS.out.ok i (by rw [HS.out.sn] at hi; exact hi)
        exact ⟨o1, by omega, by rw [HS.out.sn]; exact o3⟩
      · exact (HS.out.ok i (by rw [HS.out.sn] at hi; exact hi)).2.1

end Go.Proofs.YtkhbhkllnigbgaaDoor
