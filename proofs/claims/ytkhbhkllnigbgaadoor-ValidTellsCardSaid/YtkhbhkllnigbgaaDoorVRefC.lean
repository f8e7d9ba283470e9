/- The document's look at all words. -/
import Derived.Test.YtkhbhkllnigbgaaDoorVRefV
namespace Go.Proofs.YtkhbhkllnigbgaaDoor
open Go.ChangeShapes Go.WideShapes Go.ChangeAt Go.RowKit
theorem visd_all (v : VD) (hR : RightS v.s) (r : Nat) : r ≤ 4 → VisD v r := by
  induction r with
  | zero => intro _; exact visd_of v hR 0 (by omega) (Lib.hid fun m e => by omega)
  | succ r ih => intro h; exact visd_of v hR (r + 1) h (Lib.hid fun m e => by cases e; exact ih (by omega))
theorem vis4_any (s : Sch) (A : Option Addr) (cs : Nat) (Aw : Option Addr) (N cw : Nat) (f : Nat → Nat) (w1 w2 : World) (q : Nat) (hR : RightS s) (hN : 1 ≤ N ∧ N ≤ 200) (hcw : N ≤ cw) (hrow : WRow w1 Aw N f) (hsat : SAt w1 A s) (n : Nat) (hn : s.n = n) (c Y : Nat) (h9 : Hid (RK w1 q (none, c) w2)) (hc : c ≤ N - 1) (ht : Y < s.n) (hin : 1 + s.len Y ≤ N) :
    Calls Tryd.prog 80 #[.pointer (some ⟨q, 0, none⟩), .slice A n cs, .slice Aw N cw, .int .i64 (Y : Int), .int .i64 1, .int .i64 1] w2 fun e W' => e = .returned (.tuple #[]) ∧ RF w2 w1 q (visV s f N (strV s f N 4) Y 1 c) W' := by
  subst hn
  have h := visd_all ⟨w1, q, s, A, cs, Aw, N, cw, f, hN, hcw, hrow, hsat⟩ hR 4 (by omega) c Y 1 w2 h9 hc ht hin
  exact visd_at (Lib.hid h) rfl rfl
/-- What the document tells: a code, a word, whether it has one, how many are claimed. -/
noncomputable def lookD (s : Sch) (f : Nat → Nat) (N : Nat) : Nat × Nat × Bool × Nat :=
  if okS s = false then (1, 0, false, 0)
  else if N = 0 ∨ 200 < N then (21, 0, false, 0)
  else if ¬ f 0 % 4294967296 = N ∨ s.n ≤ f 0 / 4294967296 then (10, 0, true, 0)
  else (vcode (bodyV s f N), vat (bodyV s f N), (bodyV s f N).1.isSome, (bodyV s f N).2)
def lookDV (x : Nat × Nat × Bool × Nat) : Value := .agg #[.int .i64 (x.1 : Nat), .int .i64 (x.2.1 : Nat), .bool x.2.2.1, .int .i64 (x.2.2.2 : Nat)]
theorem RK.start (w : World) : RK w w.heap.size (none, 0) (w.alloc (.cells #[.int .i64 0, .int .i64 0, .bool false, .int .i64 0] 106)) :=
  ⟨World.rowIs_alloc w #[.int .i64 0, .int .i64 0, .bool false, .int .i64 0] 106 _ (by intro j hj; match j, hj with | 0, _ => rfl | 1, _ => rfl | 2, _ => rfl | 3, _ => rfl), ((Below.refl _ _).alloc (Nat.le_refl _) _), Nat.le_refl _⟩
/-- The result's box. -/
structure DX (w W : World) : Prop where
  rr : W.rowIs w.heap.size 106 4 (fun j => if j = 2 then .bool false else .int .i64 0)
  be : Below w.heap.size w W
theorem DX.start (w : World) : DX w (w.alloc (.cells #[.int .i64 0, .int .i64 0, .bool false, .int .i64 0] 106)) :=
  ⟨World.rowIs_alloc w #[.int .i64 0, .int .i64 0, .bool false, .int .i64 0] 106 _ (by intro j hj; match j, hj with | 0, _ => rfl | 1, _ => rfl | 2, _ => rfl | 3, _ => rfl), ((Below.refl _ _).alloc (Nat.le_refl _) _)⟩
theorem DX.below {w W W' : World} (h : DX w W) (hb : Below W.heap.size W W') : DX w W' := ⟨h.rr.of_block (hb.block _ h.rr.lt), Below.step h.be hb h.be.size⟩
def put4 (W : World) (q : Nat) (a b c d : Value) : World := (((W.setCell ⟨q, 0, none⟩ a).setCell ⟨q, 1, none⟩ b).setCell ⟨q, 2, none⟩ c).setCell ⟨q, 3, none⟩ d
theorem DX.fin {w W : World} (h : DX w W) (a b c d : Value) : (put4 W w.heap.size a b c d).cell? ⟨w.heap.size, 0, none⟩ = some a ∧ (put4 W w.heap.size a b c d).cell? ⟨w.heap.size, 1, none⟩ = some b ∧ (put4 W w.heap.size a b c d).cell? ⟨w.heap.size, 2, none⟩ = some c ∧ (put4 W w.heap.size a b c d).cell? ⟨w.heap.size, 3, none⟩ = some d ∧ Below w.heap.size w (put4 W w.heap.size a b c d) := by
  have r := (((h.rr.set 0 a).set 1 b).set 2 c).set 3 d
  exact ⟨r.cell (i := 0) (by omega), r.cell (i := 1) (by omega), r.cell (i := 2) (by omega), r.cell (i := 3) (by omega), (((h.be.setCell (p := ⟨w.heap.size, 0, none⟩) (Nat.le_refl _) _).setCell (p := ⟨w.heap.size, 1, none⟩) (Nat.le_refl _) _).setCell (p := ⟨w.heap.size, 2, none⟩) (Nat.le_refl _) _).setCell (p := ⟨w.heap.size, 3, none⟩) (Nat.le_refl _) _⟩
theorem DX.all {w W : World} (h : DX w W) : W.cell? ⟨w.heap.size, 0, none⟩ = some (.int .i64 0) ∧ W.cell? ⟨w.heap.size, 1, none⟩ = some (.int .i64 0) ∧ W.cell? ⟨w.heap.size, 2, none⟩ = some (.bool false) ∧ W.cell? ⟨w.heap.size, 3, none⟩ = some (.int .i64 0) ∧ (∀ j, W.frozen? ⟨w.heap.size, j, none⟩ = false) ∧ w.heap.size < W.heap.size :=
  ⟨h.rr.cell (i := 0) (by omega), h.rr.cell (i := 1) (by omega), h.rr.cell (i := 2) (by omega), h.rr.cell (i := 3) (by omega), h.rr.frozen, h.rr.lt⟩
section
variable {s : Sch} {A : Option Addr} {cs : Nat} {Aw : Option Addr} {N cw : Nat} {f : Nat → Nat} {w : World}
set_option maxRecDepth 100000 in
set_option maxHeartbeats 1000000 in
theorem r8c_wrong (hs : SAt w A s) (h : okS s = false) : Calls Tryd.prog 45 #[.slice A s.n cs, .slice Aw N cw] w fun e w' => e = .returned (lookDV (1, 0, false, 0)) ∧ Below w.heap.size w w' := by
  have K0 := Lib.hid (DX.start w)
  have hk := r5Right_any s A cs (w.alloc (.cells #[.int .i64 0, .int .i64 0, .bool false, .int .i64 0] 106)) (hs.below ((Below.refl _ _).alloc (Nat.le_refl _) _))
  rw [h] at hk
  have HK := Lib.hid hk
  clear hk hs h
  go_enter Tryd.func45, Tryd.ntmps45
  go_wp2_with fail
  refine HK.out.mono ?_
  rintro e w1 ⟨rfl, hb⟩
  have K1 := Lib.hid (K0.out.below hb)
  clear K0 hb
  obtain ⟨z0, z1, z2, z3, zf, zq⟩ := DX.all K1.out
  go_wp2
  obtain ⟨g0, g1, g2, g3, hB9⟩ := K1.out.fin (.int .i64 1) (.int .i64 0) (.bool false) (.int .i64 0)
  unfold put4 at g0 g1 g2 g3 hB9
  exact bodyPost_ret (v := lookDV (1, 0, false, 0)) (by simp [results, Tryd.results45, go_sem, g0, g1, g2, g3, lookDV]) rfl ⟨rfl, hB9⟩
set_option maxRecDepth 100000 in
set_option maxHeartbeats 1000000 in
theorem r8c_size (hs : SAt w A s) (h : okS s = true) (hN : N = 0 ∨ 200 < N) : Calls Tryd.prog 45 #[.slice A s.n cs, .slice Aw N cw] w fun e w' => e = .returned (lookDV (21, 0, false, 0)) ∧ Below w.heap.size w w' := by
  have K0 := Lib.hid (DX.start w)
  have hk := r5Right_any s A cs (w.alloc (.cells #[.int .i64 0, .int .i64 0, .bool false, .int .i64 0] 106)) (hs.below ((Below.refl _ _).alloc (Nat.le_refl _) _))
  rw [h] at hk
  have HK := Lib.hid hk
  clear hk hs h
  rcases hN with hN | hN
  · subst hN
    go_enter Tryd.func45, Tryd.ntmps45
    go_wp2_with fail
    refine HK.out.mono ?_
    rintro e w1 ⟨rfl, hb⟩
    have K1 := Lib.hid (K0.out.below hb)
    clear K0 hb
    obtain ⟨z0, z1, z2, z3, zf, zq⟩ := DX.all K1.out
    go_wp2
    obtain ⟨g0, g1, g2, g3, hB9⟩ := K1.out.fin (.int .i64 21) (.int .i64 0) (.bool false) (.int .i64 0)
    unfold put4 at g0 g1 g2 g3 hB9
    exact bodyPost_ret (v := lookDV (21, 0, false, 0)) (by simp [results, Tryd.results45, go_sem, g0, g1, g2, g3, lookDV]) rfl ⟨rfl, hB9⟩
  · have d1 : ((N : Int) == 0) = false := by simp; omega
    have d2 : decide ((200 : Int) < (N : Int)) = true := by simp; omega
    go_enter Tryd.func45, Tryd.ntmps45
    go_wp2_with fail
    refine HK.out.mono ?_
    rintro e w1 ⟨rfl, hb⟩
    have K1 := Lib.hid (K0.out.below hb)
    clear K0 hb
    obtain ⟨z0, z1, z2, z3, zf, zq⟩ := DX.all K1.out
    go_wp2
    obtain ⟨g0, g1, g2, g3, hB9⟩ := K1.out.fin (.int .i64 21) (.int .i64 0) (.bool false) (.int .i64 0)
    unfold put4 at g0 g1 g2 g3 hB9
    exact bodyPost_ret (v := lookDV (21, 0, false, 0)) (by simp [results, Tryd.results45, go_sem, g0, g1, g2, g3, lookDV]) rfl ⟨rfl, hB9⟩
set_option maxRecDepth 100000 in
set_option maxHeartbeats 2000000 in
theorem r8c_form (hs : SAt w A s) (hr : WRow w Aw N f) (h : okS s = true) (h1 : 1 ≤ N) (h2 : N ≤ 200) (hf : ¬ f 0 % 4294967296 = N ∨ s.n ≤ f 0 / 4294967296) : Calls Tryd.prog 45 #[.slice A s.n cs, .slice Aw N cw] w fun e w' => e = .returned (lookDV (10, 0, true, 0)) ∧ Below w.heap.size w w' := by
  have K0 := Lib.hid (DX.start w)
  have hk := r5Right_any s A cs (w.alloc (.cells #[.int .i64 0, .int .i64 0, .bool false, .int .i64 0] 106)) (hs.below ((Below.refl _ _).alloc (Nat.le_refl _) _))
  rw [h] at hk
  have HK := Lib.hid hk
  have hn := (right_of_okS h).2.1
  obtain ⟨n, HNN⟩ : ∃ n, Hid (s.n = n) := ⟨_, Lib.hid rfl⟩
  rw [HNN.out] at hf hn
  obtain ⟨bw, ow, hAw, hbw, hcw2⟩ := hr.some_ h1
  have hX := hcw2 0 (by omega)
  have hX64 : f 0 < 18446744073709551616 := hr.lt 0 (by omega)
  obtain ⟨X, HX⟩ : ∃ X, Hid (f 0 = X) := ⟨_, Lib.hid rfl⟩
  rw [HX.out] at hX hX64 hf
  have hlo := lo_half X hX64
  have hhi : (X : Int) / 4294967296 = ((X / 4294967296 : Nat) : Int) := by omega
  obtain ⟨Y, hYe⟩ : ∃ Y, X / 4294967296 = Y := ⟨_, rfl⟩
  obtain ⟨Z, hZe⟩ : ∃ Z, X % 4294967296 = Z := ⟨_, rfl⟩
  rw [hZe] at hlo hf
  rw [hYe] at hhi hf
  have hY : Y < 4294967296 := by omega
  have d1 : ((N : Int) == 0) = false := by simp; omega
  have d2 : decide ((200 : Int) < (N : Int)) = false := by simp; omega
  subst hAw
  rw [HNN.out] at HK ⊢
  clear hk hs h hr hcw2 hYe hZe
  by_cases e1 : Z = N
  · have t1 : ((Z : Int) != (N : Int)) = false := by simp; omega
    have t2 : decide ((n : Int) ≤ (Y : Int)) = true := by simp; omega
    go_enter Tryd.func45, Tryd.ntmps45
    go_wp2_with fail
    refine HK.out.mono ?_
    rintro e w1 ⟨rfl, hb⟩
    have K1 := Lib.hid (K0.out.below hb)
    have hX1 : w1.cell? ⟨bw, ow, none⟩ = some (.int .u64 (X : Nat)) := (K1.out.be.cell (p := ⟨bw, ow, none⟩) hbw).trans hX
    have hbw1 : bw < w1.heap.size := Nat.lt_of_lt_of_le hbw K1.out.be.size
    clear K0
    have H0 := Lib.hid (RK.start w1)
    clear hb hX
    go_wp2_with fail
    refine (r8wrong_any 0 10 0 H0).mono ?_
    rintro e w2 ⟨rfl, h2, -⟩
    have c0 : w2.cell? ⟨w1.heap.size, 0, none⟩ = some (.int .i64 10) := (RK.all h2).1
    have c1 : w2.cell? ⟨w1.heap.size, 1, none⟩ = some (.int .i64 0) := (RK.all h2).2.1
    have c2 : w2.cell? ⟨w1.heap.size, 2, none⟩ = some (.bool true) := (RK.all h2).2.2.1
    have c3 : w2.cell? ⟨w1.heap.size, 3, none⟩ = some (.int .i64 0) := (RK.all h2).2.2.2.1
    have K2 := Lib.hid (K1.out.below h2.be)
    clear h2
    clear K1
    obtain ⟨z0, z1, z2, z3, zf, zq⟩ := DX.all K2.out
    go_wp2
    obtain ⟨g0, g1, g2, g3, hB9⟩ := K2.out.fin (.int .i64 10) (.int .i64 0) (.bool true) (.int .i64 0)
    unfold put4 at g0 g1 g2 g3 hB9
    exact bodyPost_ret (v := lookDV (10, 0, true, 0)) (by simp [results, Tryd.results45, go_sem, g0, g1, g2, g3, lookDV]) rfl ⟨rfl, hB9⟩
  · have t1 : ((Z : Int) != (N : Int)) = true := by simp; omega
    go_enter Tryd.func45, Tryd.ntmps45
    go_wp2_with fail
    refine HK.out.mono ?_
    rintro e w1 ⟨rfl, hb⟩
    have K1 := Lib.hid (K0.out.below hb)
    have hX1 : w1.cell? ⟨bw, ow, none⟩ = some (.int .u64 (X : Nat)) := (K1.out.be.cell (p := ⟨bw, ow, none⟩) hbw).trans hX
    have hbw1 : bw < w1.heap.size := Nat.lt_of_lt_of_le hbw K1.out.be.size
    clear K0
    have H0 := Lib.hid (RK.start w1)
    clear hb hX
    go_wp2_with fail
    refine (r8wrong_any 0 10 0 H0).mono ?_
    rintro e w2 ⟨rfl, h2, -⟩
    have c0 : w2.cell? ⟨w1.heap.size, 0, none⟩ = some (.int .i64 10) := (RK.all h2).1
    have c1 : w2.cell? ⟨w1.heap.size, 1, none⟩ = some (.int .i64 0) := (RK.all h2).2.1
    have c2 : w2.cell? ⟨w1.heap.size, 2, none⟩ = some (.bool true) := (RK.all h2).2.2.1
    have c3 : w2.cell? ⟨w1.heap.size, 3, none⟩ = some (.int .i64 0) := (RK.all h2).2.2.2.1
    have K2 := Lib.hid (K1.out.below h2.be)
    clear h2
    clear K1
    obtain ⟨z0, z1, z2, z3, zf, zq⟩ := DX.all K2.out
    go_wp2
    obtain ⟨g0, g1, g2, g3, hB9⟩ := K2.out.fin (.int .i64 10) (.int .i64 0) (.bool true) (.int .i64 0)
    unfold put4 at g0 g1 g2 g3 hB9
    exact bodyPost_ret (v := lookDV (10, 0, true, 0)) (by simp [results, Tryd.results45, go_sem, g0, g1, g2, g3, lookDV]) rfl ⟨rfl, hB9⟩
set_option maxRecDepth 100000 in
set_option maxHeartbeats 4000000 in
theorem r8c_body (hs : SAt w A s) (hr : WRow w Aw N f) (hcw : N ≤ cw) (h : okS s = true) (h1 : 1 ≤ N) (h2 : N ≤ 200) (hf1 : f 0 % 4294967296 = N) (hf2 : f 0 / 4294967296 < s.n) : Calls Tryd.prog 45 #[.slice A s.n cs, .slice Aw N cw] w fun e w' => e = .returned (lookDV (vcode (bodyV s f N), vat (bodyV s f N), (bodyV s f N).1.isSome, (bodyV s f N).2)) ∧ Below w.heap.size w w' := by
  have K0 := Lib.hid (DX.start w)
  have hk := r5Right_any s A cs (w.alloc (.cells #[.int .i64 0, .int .i64 0, .bool false, .int .i64 0] 106)) (hs.below ((Below.refl _ _).alloc (Nat.le_refl _) _))
  rw [h] at hk
  have HK := Lib.hid hk
  have hR := right_of_okS h
  have hn := hR.2.1
  have HRR := Lib.hid hR
  have HSS := Lib.hid hs
  have HRW := Lib.hid hr
  have hbody : bodyV s f N = thenV (claimV N 0 1 (s.len (f 0 / 4294967296)) 0) fun c => visV s f N (strV s f N 4) (f 0 / 4294967296) 1 c := rfl
  have hlen := (hR.2.2 _ hf2).2.1
  obtain ⟨bs, os, hA, hbs, hcs⟩ := hs.some_ (by omega)
  obtain ⟨Ai, ci, hct, -⟩ := hcs _ hf2
  obtain ⟨bw, ow, hAw, hbw, hcw2⟩ := hr.some_ h1
  have hX := hcw2 0 (by omega)
  have hX64 : f 0 < 18446744073709551616 := hr.lt 0 (by omega)
  obtain ⟨X, HX⟩ : ∃ X, Hid (f 0 = X) := ⟨_, Lib.hid rfl⟩
  rw [HX.out] at hX hX64 hf1 hf2 hbody hct hlen
  have hlo := lo_half X hX64
  have hhi : (X : Int) / 4294967296 = ((X / 4294967296 : Nat) : Int) := by omega
  obtain ⟨Y, hYe⟩ : ∃ Y, X / 4294967296 = Y := ⟨_, rfl⟩
  rw [hf1] at hlo
  rw [hYe] at hhi hf2 hbody hct hlen
  obtain ⟨L, HL⟩ : ∃ L, Hid (s.len Y = L) := ⟨_, Lib.hid rfl⟩
  rw [HL.out] at hbody hct hlen
  have d1 : ((N : Int) == 0) = false := by simp; omega
  have d2 : decide ((200 : Int) < (N : Int)) = false := by simp; omega
  have t2 : decide ((s.n : Int) ≤ (Y : Int)) = false := by simp; omega
  have hY : Y < 4294967296 := by omega
  have HY2 := Lib.hid hf2
  have hcl : InB N 72 (claimV N 0 1 L 0) := claimV_in (Nat.zero_le _) (by omega)
  obtain ⟨n, hnn⟩ : ∃ n, s.n = n := ⟨_, rfl⟩
  have HNN := Lib.hid hnn
  rw [hnn] at HK hn t2 hf2 ⊢
  clear hk h hcw2 hYe hcs hR hs hr hf1 hnn
  have hY8 : Y < n := hf2
  go_enter Tryd.func45, Tryd.ntmps45
  subst hAw hA
  go_wp2_with fail
  refine HK.out.mono ?_
  rintro e w1 ⟨rfl, hb⟩
  have K1 := Lib.hid (K0.out.below hb)
  have hb := K1.out.be
  clear K0
  have hX1 : w1.cell? ⟨bw, ow, none⟩ = some (.int .u64 (X : Nat)) := (hb.cell (p := ⟨bw, ow, none⟩) hbw).trans hX
  have hct1 : w1.cell? ⟨bs, os + Y, none⟩ = some (.slice Ai L ci) := (hb.cell (p := ⟨bs, os + Y, none⟩) hbs).trans hct
  have hbs1 : bs < w1.heap.size := Nat.lt_of_lt_of_le hbs hb.size
  have hbw1 : bw < w1.heap.size := Nat.lt_of_lt_of_le hbw hb.size
  have H0 := Lib.hid (RK.start w1)
  have HRW1 := Lib.hid (HRW.out.below hb)
  have HSS1 := Lib.hid (HSS.out.below hb)
  clear HRW HSS
  clear hb hX hct
  go_wp2_with fail
  refine (r8claim_any 0 (by omega) _ N cw ⟨h1, h2⟩ 0 1 L (by omega) (by omega) H0).mono ?_
  rintro e w2 ⟨rfl, h9, -⟩
  rcases vr_cases (claimV N 0 1 L 0) with ⟨c1, hE⟩ | ⟨k', p', c1, hE⟩
  · rw [hE] at h9 hcl
    rw [thenV_none hE] at hbody
    have hin2 : 1 + L ≤ N := by
      unfold claimV at hE
      by_cases g : N < 1 + L
      · rw [if_pos g] at hE; cases hE
      · omega
    have hc1 : c1 ≤ N - 1 := hcl.ok rfl
    have HBD := Lib.hid hbody
    have c0 : w2.cell? ⟨w1.heap.size, 0, none⟩ = some (.int .i64 0) := (RK.all h9).1
    have hq2 : w1.heap.size < w2.heap.size := h9.box.lt
    have hvis := vis4_any s (some ⟨bs, os, none⟩) cs (some ⟨bw, ow, none⟩) N cw f w1 w2 w1.heap.size HRR.out ⟨h1, h2⟩ hcw HRW1.out HSS1.out n HNN.out c1 Y (Lib.hid h9) hc1 HY2.out (by rw [HL.out]; exact hin2)
    have HVI := Lib.hid hvis
    clear hvis hbody hE hcl h9
    go_wp2_with fail
    refine HVI.out.mono ?_
    rintro e w3 ⟨rfl, h8, -⟩
    rw [← HBD.out] at h8
    obtain ⟨R, HRB⟩ : ∃ R, Hid (bodyV s f N = R) := ⟨_, Lib.hid rfl⟩
    rw [HRB.out] at h8
    obtain ⟨d0, d1, d2, d3, df, dq⟩ := RK.all h8
    have K3 := Lib.hid (K1.out.below h8.be)
    clear K1 HBD c0 hX1 hct1
    obtain ⟨z0, z1, z2, z3, zf, zq⟩ := DX.all K3.out
    go_wp2
    obtain ⟨g0, g1, g2, g3, hB9⟩ := K3.out.fin (.int .i64 (vcode R : Nat)) (.int .i64 (vat R : Nat)) (.bool R.1.isSome) (.int .i64 (R.2 : Nat))
    unfold put4 at g0 g1 g2 g3 hB9
    exact bodyPost_ret (v := lookDV (vcode R, vat R, R.1.isSome, R.2)) (by simp [results, Tryd.results45, go_sem, g0, g1, g2, g3, lookDV]) rfl ⟨by rw [HRB.out], hB9⟩
  · rw [hE] at h9 hcl
    rw [thenV_some hE] at hbody
    have HBD := Lib.hid hbody
    have hk' : k' = 10 ∨ k' = 16 ∨ k' = 23 := hcl.code k' p' rfl
    clear hE hbody
    rcases hk' with rfl | rfl | rfl
    · have d0 : w2.cell? ⟨w1.heap.size, 0, none⟩ = some (.int .i64 10) := (RK.all h9).1
      have d1 : w2.cell? ⟨w1.heap.size, 1, none⟩ = some (.int .i64 (p' : Nat)) := (RK.all h9).2.1
      have d2 : w2.cell? ⟨w1.heap.size, 2, none⟩ = some (.bool true) := (RK.all h9).2.2.1
      have d3 : w2.cell? ⟨w1.heap.size, 3, none⟩ = some (.int .i64 (c1 : Nat)) := (RK.all h9).2.2.2.1
      have K3 := Lib.hid (K1.out.below h9.be)
      clear K1 hX1 hct1 h9 hcl
      obtain ⟨z0, z1, z2, z3, zf, zq⟩ := DX.all K3.out
      go_wp2
      obtain ⟨g0, g1, g2, g3, hB9⟩ := K3.out.fin (.int .i64 10) (.int .i64 (p' : Nat)) (.bool true) (.int .i64 (c1 : Nat))
      unfold put4 at g0 g1 g2 g3 hB9
      exact bodyPost_ret (v := lookDV (vcode (some (10, p'), c1), vat (some (10, p'), c1), true, c1)) (by simp [results, Tryd.results45, go_sem, g0, g1, g2, g3, lookDV, vcode, vat]) rfl ⟨by rw [HBD.out]; rfl, hB9⟩
    · have d0 : w2.cell? ⟨w1.heap.size, 0, none⟩ = some (.int .i64 16) := (RK.all h9).1
      have d1 : w2.cell? ⟨w1.heap.size, 1, none⟩ = some (.int .i64 (p' : Nat)) := (RK.all h9).2.1
      have d2 : w2.cell? ⟨w1.heap.size, 2, none⟩ = some (.bool true) := (RK.all h9).2.2.1
      have d3 : w2.cell? ⟨w1.heap.size, 3, none⟩ = some (.int .i64 (c1 : Nat)) := (RK.all h9).2.2.2.1
      have K3 := Lib.hid (K1.out.below h9.be)
      clear K1 hX1 hct1 h9 hcl
      obtain ⟨z0, z1, z2, z3, zf, zq⟩ := DX.all K3.out
      go_wp2
      obtain ⟨g0, g1, g2, g3, hB9⟩ := K3.out.fin (.int .i64 16) (.int .i64 (p' : Nat)) (.bool true) (.int .i64 (c1 : Nat))
      unfold put4 at g0 g1 g2 g3 hB9
      exact bodyPost_ret (v := lookDV (vcode (some (16, p'), c1), vat (some (16, p'), c1), true, c1)) (by simp [results, Tryd.results45, go_sem, g0, g1, g2, g3, lookDV, vcode, vat]) rfl ⟨by rw [HBD.out]; rfl, hB9⟩
    · have d0 : w2.cell? ⟨w1.heap.size, 0, none⟩ = some (.int .i64 23) := (RK.all h9).1
      have d1 : w2.cell? ⟨w1.heap.size, 1, none⟩ = some (.int .i64 (p' : Nat)) := (RK.all h9).2.1
      have d2 : w2.cell? ⟨w1.heap.size, 2, none⟩ = some (.bool true) := (RK.all h9).2.2.1
      have d3 : w2.cell? ⟨w1.heap.size, 3, none⟩ = some (.int .i64 (c1 : Nat)) := (RK.all h9).2.2.2.1
      have K3 := Lib.hid (K1.out.below h9.be)
      clear K1 hX1 hct1 h9 hcl
      obtain ⟨z0, z1, z2, z3, zf, zq⟩ := DX.all K3.out
      go_wp2
      obtain ⟨g0, g1, g2, g3, hB9⟩ := K3.out.fin (.int .i64 23) (.int .i64 (p' : Nat)) (.bool true) (.int .i64 (c1 : Nat))
      unfold put4 at g0 g1 g2 g3 hB9
      exact bodyPost_ret (v := lookDV (vcode (some (23, p'), c1), vat (some (23, p'), c1), true, c1)) (by simp [results, Tryd.results45, go_sem, g0, g1, g2, g3, lookDV, vcode, vat]) rfl ⟨by rw [HBD.out]; rfl, hB9⟩
/-- The document's Check. -/
theorem r8check_any (s : Sch) (A : Option Addr) (cs : Nat) (Aw : Option Addr) (N cw : Nat) (f : Nat → Nat) (w : World) (hs : SAt w A s) (hr : WRow w Aw N f) (hcw : N ≤ cw) : Calls Tryd.prog 45 #[.slice A s.n cs, .slice Aw N cw] w fun e w' => e = .returned (lookDV (lookD s f N)) ∧ Below w.heap.size w w' := by
  unfold lookD
  by_cases h : okS s = false
  · rw [if_pos h]; exact r8c_wrong hs h
  · rw [if_neg h]
    have h : okS s = true := by simpa using h
    by_cases hN : N = 0 ∨ 200 < N
    · rw [if_pos hN]; exact r8c_size hs h hN
    · rw [if_neg hN]
      by_cases hf : ¬ f 0 % 4294967296 = N ∨ s.n ≤ f 0 / 4294967296
      · rw [if_pos hf]; exact r8c_form hs hr h (by omega) (by omega) hf
      · rw [if_neg hf]; exact r8c_body hs hr hcw h (by omega) (by omega) (by omega) (by omega)
end

end Go.Proofs.YtkhbhkllnigbgaaDoor
