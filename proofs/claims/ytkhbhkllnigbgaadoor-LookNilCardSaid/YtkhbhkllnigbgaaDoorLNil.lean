/- The chapter's walk, and no walk. -/
import Derived.Test.YtkhbhkllnigbgaaDoorLWalk
import Derived.Shelf.SlicesG.Clone
import Derived.Ground.SlgnProg
namespace Go.Proofs.YtkhbhkllnigbgaaDoor
open Go.RowKit
set_option maxRecDepth 100000 in
theorem give9_end (q : Nat) (y : Wk) (A : Option Addr) (cap : Nat) (w : World) (h : WkAt w q y) (hn : y.nd = true) (hp : y.p = .slice A 0 cap) (hfr : y.fr = 0) (hsz : y.sz = 64) :
    Calls Tryd.prog 22 #[.pointer (some ⟨q, 0, none⟩), .int .u64 5] w fun e w' => e = .returned (.tuple #[]) ∧ WkAt w' q { y with nd := false, num := 5, code := 0 } ∧ ButP (fun b => b = q) w w' := by
  have f2 := h.free 2
  obtain ⟨-, c1, c2, -, c4, c5, -, -, -, -⟩ := h.all
  rw [hp] at c1
  rw [hn] at c2
  rw [hfr] at c4
  rw [hsz] at c5
  have K0 : Hid (WkAt (w.setCell ⟨q, 2, none⟩ (.bool false)) q { y with nd := false }) := Lib.hid (h.put 2 _ (wk_ten rfl rfl rfl rfl rfl rfl rfl rfl rfl rfl))
  have B0 : Hid (ButP (fun b => b = q) w (w.setCell ⟨q, 2, none⟩ (.bool false))) := Lib.hid ((ButP.refl (fun b => b = q) w).set (p := ⟨q, 2, none⟩) rfl _)
  clear h hn hp hfr hsz
  go_enter Tryd.func22, Tryd.ntmps22
  go_wp2_with fail
  refine (of9_ex _).mono ?_
  rintro e w1 ⟨rfl, hb⟩
  have K1 := Lib.hid (K0.out.below hb)
  have B1 := Lib.hid (ButP.trans B0.out (ButP.of_below hb))
  clear hb K0 B0 c1 c2 c4 c5 f2
  go_wp2_with fail
  refine (tell9_any q _ 5 0 _ K1.out).mono ?_
  rintro e w2 ⟨rfl, hk, hb⟩
  have K2 := Lib.hid hk
  have B2 := Lib.hid (ButP.trans B1.out hb)
  clear hk hb K1 B1
  go_wp2
  (try simp only [Exit.inBlock, Exit.then])
  refine bodyPost_ret (results_none rfl _ _ _) rfl ?_
  exact ⟨rfl, K2.out, B2.out⟩
set_option maxRecDepth 100000 in
theorem among9 (i n : Nat) (hi : i < n) (w : World) : Calls Tryd.prog 48 #[.int .i64 (i : Int), .int .i64 (n : Int)] w fun e w' => e = .returned (.bool true) ∧ w = w' := by
  have g1 : (0 : Int) ≤ (i : Int) := by omega
  have g2 : decide ((0 : Int) ≤ (i : Int)) = true := decide_eq_true g1
  have g3 : decide ((i : Int) < (n : Int)) = true := decide_eq_true (by omega)
  clear g1
  go_enter Tryd.func48, Tryd.ntmps48
  go_wp2
  go_ret
  exact ⟨rfl, rfl⟩
set_option maxRecDepth 100000 in
theorem items9_ex (q : Nat) (y : Wk) (b o cap : Nat) (w : World) (h : WkAt w q y) (hp : y.p = .slice (some ⟨b, o, none⟩) (0 + 1) cap) (hcap : 0 + 1 ≤ cap) (hmax : cap ≤ 9223372036854775807) (hk : w.cell? ⟨b, o, none⟩ = some (.int .i64 0)) :
    Calls Tryd.prog 97 #[.pointer (some ⟨q, 0, none⟩), .int .i64 3, .int .i64 2, .int .i64 64] w fun e w' => e = .returned (.tuple #[]) ∧ ∃ A, WkAt w' q { y with p := .slice A 0 (cap - 1), nd := true, wd := 3, fr := 0, sz := 64 } ∧ ButP (fun b => b = q) w w' := by
  have HP := Lib.hid (fun w h hk => pass9_any q y b o 0 cap 0 w h hp hcap hmax hk)
  have K0 := Lib.hid h
  have HK := Lib.hid hk
  clear h hp hk hcap
  go_enter Tryd.func97, Tryd.ntmps97
  go_wp2_with fail
  refine (HP.out _ K0.out HK.out).mono ?_
  rintro e w1 ⟨rfl, A, k1, -, hb⟩
  have K1 := Lib.hid k1
  have B1 := Lib.hid hb
  clear k1 hb HP HK K0
  go_wp2_with fail
  refine (among9 0 2 (by omega) _).mono ?_
  rintro e w2 ⟨rfl, rfl⟩
  obtain ⟨-, c1, -, -, -, -, -, -, -, -⟩ := K1.out.all
  go_wp2_with fail
  clear c1
  refine (ask9_any q _ 3 0 64 _ K1.out).mono ?_
  rintro e w3 ⟨rfl, hk, hb⟩
  have K2 := Lib.hid hk
  have B2 := Lib.hid (ButP.trans B1.out hb)
  clear hk hb K1 B1
  go_wp2
  go_end0
  exact ⟨rfl, A, K2.out, B2.out⟩
set_option maxRecDepth 100000 in
theorem follow9_ex (q : Nat) (y : Wk) (b o cap : Nat) (w : World) (h : WkAt w q y) (hw : y.wd = 2) (hkd : y.kd = 3) (hp : y.p = .slice (some ⟨b, o, none⟩) (0 + 1) cap) (hcap : 0 + 1 ≤ cap) (hmax : cap ≤ 9223372036854775807) (hk : w.cell? ⟨b, o, none⟩ = some (.int .i64 0)) :
    Calls Tryd.prog 58 #[.pointer (some ⟨q, 0, none⟩), .int .u64 8589934593] w fun e w' => e = .returned (.tuple #[]) ∧ ∃ A, WkAt w' q { y with p := .slice A 0 (cap - 1), nd := true, wd := 3, fr := 0, sz := 64 } ∧ ButP (fun b => b = q) w w' := by
  have HI := Lib.hid (fun w h hk => items9_ex q y b o cap w h hp hcap hmax hk)
  obtain ⟨-, -, -, c3, -, -, c6, -, -, -⟩ := h.all
  rw [hw] at c3
  rw [hkd] at c6
  have K0 := Lib.hid h
  have HK := Lib.hid hk
  have HPT := Lib.hid (fun w => bpart_any 8589934593 (by omega) w)
  clear h hw hkd hp hk hcap
  go_enter Tryd.func58, Tryd.ntmps58
  go_wp2_with fail
  refine (HPT.out _).mono ?_
  rintro e w1 ⟨rfl, rfl⟩
  go_wp2_with fail
  refine (HI.out _ K0.out HK.out).mono ?_
  rintro e w2 ⟨rfl, A, hk, hb⟩
  have K2 := Lib.hid hk
  have B2 := Lib.hid hb
  clear hk hb K0 HI HK c3 c6
  go_wp2
  go_end0
  exact ⟨rfl, A, K2.out, B2.out⟩
set_option maxRecDepth 100000 in
theorem give9_go (q : Nat) (y : Wk) (b o cap : Nat) (w : World) (h : WkAt w q y) (hn : y.nd = true) (hw : y.wd = 2) (hkd : y.kd = 3) (hp : y.p = .slice (some ⟨b, o, none⟩) (0 + 1) cap) (hcap : 0 + 1 ≤ cap) (hmax : cap ≤ 9223372036854775807) (hk : w.cell? ⟨b, o, none⟩ = some (.int .i64 0)) (hbq : b ≠ q) :
    Calls Tryd.prog 22 #[.pointer (some ⟨q, 0, none⟩), .int .u64 8589934593] w fun e w' => e = .returned (.tuple #[]) ∧ ∃ A, WkAt w' q { y with p := .slice A 0 (cap - 1), nd := true, wd := 3, fr := 0, sz := 64 } ∧ ButP (fun b => b = q) w w' := by
  have f2 := h.free 2
  have HI := Lib.hid (fun w h hk => follow9_ex q { y with nd := false } b o cap w h hw hkd hp hcap hmax hk)
  obtain ⟨-, c1, c2, -, -, -, -, -, -, -⟩ := h.all
  rw [hp] at c1
  rw [hn] at c2
  have K0 : Hid (WkAt (w.setCell ⟨q, 2, none⟩ (.bool false)) q { y with nd := false }) := Lib.hid (h.put 2 _ (wk_ten rfl rfl rfl rfl rfl rfl rfl rfl rfl rfl))
  have B0 : Hid (ButP (fun b => b = q) w (w.setCell ⟨q, 2, none⟩ (.bool false))) := Lib.hid ((ButP.refl (fun b => b = q) w).set (p := ⟨q, 2, none⟩) rfl _)
  have HK : Hid ((w.setCell ⟨q, 2, none⟩ (.bool false)).cell? ⟨b, o, none⟩ = some (.int .i64 0)) := Lib.hid ((World.cell?_of_block (a := ⟨b, o, none⟩) (Below.heap_setCell w ⟨q, 2, none⟩ _ b hbq)).trans hk)
  clear h hn hw hkd hp hk hbq
  go_enter Tryd.func22, Tryd.ntmps22
  go_wp2_with fail
  clear c1 c2 f2
  refine (HI.out _ K0.out HK.out).mono ?_
  rintro e w2 ⟨rfl, A, hk, hb⟩
  have K2 := Lib.hid hk
  have B2 := Lib.hid (ButP.trans B0.out hb)
  clear hk hb K0 HI HK B0
  go_wp2
  go_end0
  exact ⟨rfl, A, K2.out, B2.out⟩
theorem butq_below {q : Nat} {W0 w w' : World} (hq : W0.heap.size ≤ q) (h0 : Below W0.heap.size W0 w) (h : ButP (fun b => b = q) w w') : Below W0.heap.size W0 w' := h0.trans (h.below h0.size fun k hk e => by omega)
theorem ex6_len : lenAt exS6 0 = ((2 : Nat) : Int) := by decide
theorem ex6_k : kAt exS6 0 1 = 3 := by decide
theorem ex6_t : tAt exS6 0 1 = 0 := by decide
set_option maxRecDepth 100000 in
set_option maxHeartbeats 4000000 in
theorem enter9_ex (W0 : World) (q : Nat) (y : Wk) (As : Option Addr) (c b o cap : Nat) (w : World) (hq : W0.heap.size ≤ q) (h0 : Below W0.heap.size W0 w) (hS : SAt W0 As exS6) (h : WkAt w q y) (hs : y.s = .slice As 1 c) (hp : y.p = .slice (some ⟨b, o, none⟩) (1 + 1) cap) (hcap : 1 + 1 ≤ cap) (hmax : cap ≤ 9223372036854775807) (hk : w.cell? ⟨b, o, none⟩ = some (.int .i64 1)) :
    Calls Tryd.prog 50 #[.pointer (some ⟨q, 0, none⟩), .int .i64 0, .int .i64 1] w fun e w' => e = .returned (.tuple #[]) ∧ WkAt w' q { y with p := .slice (some ⟨b, o + 1, none⟩) 1 (cap - 1), nd := true, wd := 2, fr := 32, sz := 32, kd := 3, inn := 0 } ∧ ButP (fun b => b = q) w w' := by
  have HP := Lib.hid (fun w h hk => pass9_any q y b o 1 cap 1 w h hp hcap hmax hk)
  have K0 := Lib.hid h
  have HK := Lib.hid hk
  have HS := Lib.hid hS
  have H0 := Lib.hid h0
  have HSE := Lib.hid hs
  have HQ := Lib.hid hq
  obtain ⟨-, c1, -, -, -, -, -, -, -, -⟩ := h.all
  rw [hp] at c1
  clear h hk hcap hS h0 hs hq hp
  go_enter Tryd.func50, Tryd.ntmps50
  go_wp2_with fail
  clear c1
  refine (HP.out _ K0.out HK.out).mono ?_
  rintro e w1 ⟨rfl, A, k1, hA, hb⟩
  obtain rfl := hA (by omega)
  have K1 := Lib.hid k1
  have B1 := Lib.hid hb
  clear k1 hb hA HP HK K0
  have c0 := K1.out.all.1
  rw [show ({ y with p := .slice (some ⟨b, o + 1, none⟩) 1 (cap - 1) } : Wk).s = .slice As 1 c from HSE.out] at c0
  go_wp2_with fail
  refine (fields_any exS6 As c 0 _ (HS.out.below (butq_below HQ.out H0.out B1.out))).mono ?_
  rintro e w2 ⟨rfl, rfl⟩
  rw [ex6_len]
  go_wp2_with fail
  refine (among9 1 2 (by omega) _).mono ?_
  rintro e w2 ⟨rfl, rfl⟩
  have KD := Lib.hid (K1.out.below (Below.refl _ _).drew)
  have BD := Lib.hid (ButP.trans B1.out (ButP.of_below (Below.refl _ _).drew))
  go_upto_region 5 with fail
  go_cut [] from 29 (fun wc => Hid (WkAt wc q { y with p := .slice (some ⟨b, o + 1, none⟩) 1 (cap - 1), kd := 3, inn := 0 } ∧ ButP (fun b => b = q) w wc))
  case first =>
    go_region_with (first
      | (go_at_call 85; refine (kind_any exS6 As c 0 1 _ (HS.out.below (butq_below HQ.out H0.out BD.out))).mono ?_; rintro e w3 ⟨rfl, hb⟩; rw [ex6_k]; have K3 := Lib.hid (KD.out.below hb); have B3 := Lib.hid (ButP.trans BD.out (ButP.of_below hb)); have d0 := K3.out.all.1; rw [show ({ y with p := .slice (some ⟨b, o + 1, none⟩) 1 (cap - 1) } : Wk).s = .slice As 1 c from HSE.out] at d0; clear hb)
      | (go_at_call 86; refine (type_any exS6 As c 0 1 _ (HS.out.below (butq_below HQ.out H0.out B3.out))).mono ?_; rintro e w4 ⟨rfl, hb⟩; rw [ex6_t]; have K4 := Lib.hid (K3.out.below hb); have B4 := Lib.hid (ButP.trans B3.out (ButP.of_below hb)); have f6 := K4.out.free 5; have f7 := K4.out.free 6; have f8 := K4.out.free 7; have e6 := K4.out.all.2.2.2.2.2.2.1; have e7 := K4.out.all.2.2.2.2.2.2.2.1; clear hb))
    all_goals
      go_wp2_with fail
      go_meet
      case rel => exact Lib.hid ⟨WkAt.put (y := { y with p := .slice (some ⟨b, o + 1, none⟩) 1 (cap - 1), kd := 3 }) (K4.out.put 6 _ (wk_ten rfl rfl rfl rfl rfl rfl rfl rfl rfl rfl)) 7 _ (wk_ten rfl rfl rfl rfl rfl rfl rfl rfl rfl rfl), (B4.out.set (p := ⟨q, 6, none⟩) rfl _).set (p := ⟨q, 7, none⟩) rfl _⟩
  case rest =>
    clear KD BD K1 B1
    have K5 := Lib.hid hcut.out.1
    have B5 := Lib.hid hcut.out.2
    clear hcut
    have e6 := K5.out.all.2.2.2.2.2.2.1
    have hb2 := two_new9 wc (.int .i64 32) (.int .i64 32) 112
    have K6 := Lib.hid (K5.out.below (W' := wc.alloc (.cells #[.int .i64 32, .int .i64 32] 112)) ((Below.refl _ _).alloc (Nat.le_refl _) _))
    have B6 := Lib.hid (ButP.trans B5.out (ButP.of_below (b := wc.alloc (.cells #[.int .i64 32, .int .i64 32] 112)) ((Below.refl _ _).alloc (Nat.le_refl _) _)))
    obtain ⟨p0, p1⟩ := hb2
    have e7 := K6.out.all.2.2.2.2.2.2.1
    go_wp2_with fail
    generalize wc.alloc (.cells #[.int .i64 32, .int .i64 32] 112) = Wd at K6 B6 ⊢
    refine (ask9_any q _ 2 32 32 _ K6.out).mono ?_
    rintro e w3 ⟨rfl, hk, hb⟩
    have K7 := Lib.hid hk
    have B7 := Lib.hid (ButP.trans B6.out hb)
    clear hk hb K6 B6 K5 B5
    go_wp2
    go_end0
    exact ⟨rfl, K7.out, B7.out⟩

end Go.Proofs.YtkhbhkllnigbgaaDoor
