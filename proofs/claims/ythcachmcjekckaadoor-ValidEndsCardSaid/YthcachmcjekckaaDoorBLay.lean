/- The fields of structs, one by one: what they refer to is laid behind; structs are laid. -/
import Derived.Test.YthcachmcjekckaaDoorBBehind2
import Derived.Deep.RegionHeld3
namespace Go.Proofs.YthcachmcjekckaaDoor
open Go.ChangeShapes Go.WideShapes Go.ChangeAt Go.RowKit
theorem kt_in {s : Sch} (hR : RightS s) {t j : Nat} (ht : t < s.n) (hj : j < s.len t) : kAt s (t : Int) (j : Int) = s.k t j ∧ tAt s (t : Int) (j : Int) = (((s.t t j).toNat : Nat) : Int) := by
  have hc : hasT s (t : Int) ∧ (0 : Int) ≤ (j : Int) ∧ (j : Int) < s.len (t : Int).toNat := ⟨by unfold hasT; omega, by omega, by rw [Int.toNat_natCast]; omega⟩
  have hf := hR.field ht hj
  refine ⟨?_, ?_⟩
  · rw [kAt, if_pos hc, Int.toNat_natCast, Int.toNat_natCast]
  · rw [tAt, if_pos hc, Int.toNat_natCast, Int.toNat_natCast]
    omega
theorem EB.behind {Ws W : World} {q : Nat} {s : Sch} {A : Option Addr} {c : Nat} {X : Tr} {Ak : Option Addr} {g : Nat} {L' : List Nat} {g' cap' : Nat} {u : Tr} {U1 U2 : Option Addr} {kq : Nat} {y : Tr} {A3 : Option Addr} {k3 : Nat} {A4 : Option Addr} {k4 : Nat} {W' : World} (p : Nat) (κ : Int) (τ n : Nat) (H : Hid (EB Ws W q s A c X Ak g L' g' cap' u U1 U2 kq y A3 k3 A4 k4 W')) (hk1 : 1 ≤ κ) (hk5 : κ ≤ 5) (IH : LayC s A c Ws n) (ht : τ < s.n) (hko : kindOk κ y) (hc : ∀ j, j < y.kl → chk s n τ (y.kf j) = 0) (hp : p < L'.length) (hL : L'.length + wds false y ≤ 1000) :
    Calls Tryd.prog 63 #[.pointer (some ⟨q, 0, none⟩), .agg #[.int .i64 (p : Int), .int .i64 κ, .int .i64 (τ : Int), .int .u64 (y.num : Nat), .string y.bs, .slice A3 y.nl k3, .slice A4 y.kl k4]] W' fun e W2 => e = .returned (.tuple #[]) ∧ ∃ g2 cap2, Hid (EB Ws W q s A c X Ak g (behindL (layL s n) κ τ p y L') g2 cap2 u U1 U2 kq y A3 k3 A4 k4 W2) := by
  have h1 := H.out.eo.here
  refine (layBehind_any s A c Ws n q p κ τ y A3 k3 A4 k4 L' g' cap' W' ⟨h1.bw, h1.wb, h1.lq, h1.lg, h1.at_, H.out.ty.kidsOf, h1.fr⟩ ((TAt_eq _ _ _ _ _).1 H.out.ty).1 hk1 hk5 IH ht hko hc hp hL).mono ?_
  rintro e W2 ⟨he, g2, cap2, h2⟩
  exact ⟨he, g2, cap2, Lib.hid (H.out.step h2.at_ h2.bw h2.fr)⟩
set_option maxRecDepth 100000 in
set_option maxHeartbeats 8000000 in
theorem eachBehind_any (s : Sch) (A : Option Addr) (c : Nat) (Ws : World) (hs : SAt Ws A s) (hR : RightS s) (n : Nat) (q t K : Nat) (ht : t < s.n) (IH : 0 < K → LayC s A c Ws n) (kf : Nat → Tr) (Ak : Option Addr) (ck : Nat) (L M0 : List Nat) (g cap : Nat) (W : World) (hM0 : M0 = ownsL K kf L) (hK : K ≤ 12) (hC : ∀ j, j < K → chk s (n + 1) t (kf j) = 0) (hL : L.length + sumN (fun j => wds true (kf j)) K ≤ 1000) (h : EO Ws W q s A c (.mk 0 ⟨#[]⟩ 0 (fun _ => 0) K kf) Ak g M0 g cap W) :
    Calls Tryd.prog 61 #[.slice A s.n c, .int .i64 (t : Int), .int .i64 (L.length : Int), .slice Ak K ck, .func (.func 63) #[.pointer (some ⟨q, 0, none⟩)] #[]] W fun e W' => e = .returned (.tuple #[]) ∧ ∃ g' cap', EO Ws W q s A c (.mk 0 ⟨#[]⟩ 0 (fun _ => 0) K kf) Ak g (bhS (layL s n) s t kf K (M0, L.length)).1 g' cap' W' := by
  subst hM0
  have H := Lib.hid h
  have HCK := Lib.hid hC
  have HR5 := Lib.hid hR
  have HIH := Lib.hid IH
  have HSC := Lib.hid hs
  clear h hC hs hR IH
  go_enter Tryd.func61, Tryd.ntmps61
  go_wp2
  go_loopw [2, 16] (fun av iv wr => ∃ i : Nat, i ≤ K ∧ iv = .int .i64 i ∧ (∃ a : Nat, av = .int .i64 (a : Int) ∧ a ≤ 1000 ∧ Hid (a = (bhS (layL s n) s t kf i (ownsL K kf L, L.length)).2)) ∧ Hid (∃ g' cap', EO Ws W q s A c (.mk 0 ⟨#[]⟩ 0 (fun _ => 0) K kf) Ak g (bhS (layL s n) s t kf i (ownsL K kf L, L.length)).1 g' cap' wr)) (fun _ iv _ => K - (intOf iv).toNat)
  case atStart => exact ⟨0, by omega, rfl, ⟨L.length, rfl, by omega, Lib.hid rfl⟩, Lib.hid ⟨g, cap, H.out⟩⟩
  case round =>
    obtain ⟨i, hi, rfl, ⟨a, rfl, ha1, HA⟩, HR⟩ := hrel
    by_cases hi1 : i < K
    · obtain ⟨g1, cap1, hE⟩ := HR.out
      clear HR
      have HE1 := Lib.hid hE
      obtain ⟨b, off, rfl, hPb, hlt, hc⟩ := hE.tat.kids (show 0 < K by omega)
      obtain ⟨A1, k1, A2, k2, h4, hty⟩ := hc i hi1
      have h4 : Cell4 wr b (off + i * 4) (kf i) A1 k1 A2 k2 := h4
      have hty : TAt wr (fun b => b ≠ q ∧ b ≠ g1) (kf i) A1 A2 := hty
      obtain ⟨c0, c1, c2, c3⟩ := h4
      have HTU := Lib.hid (hty.below ((Below.refl _ _).alloc (Nat.le_refl _) (.cells #[.int .u64 ((kf i).num : Nat), .string (kf i).bs, .slice A1 (kf i).nl k1, .slice A2 (kf i).kl k2] 32)))
      have HE2 := Lib.hid (hE.below ((Below.refl _ _).alloc (Nat.le_refl _) (.cells #[.int .u64 ((kf i).num : Nat), .string (kf i).bs, .slice A1 (kf i).nl k1, .slice A2 (kf i).kl k2] 32)))
      have HSU := Lib.hid (HCK.out i hi1)
      have HFIT : Hid (∀ j, j < (kf i).kl → (bhF (layL s n) s t (kf i) j (bhS (layL s n) s t kf i (ownsL K kf L, L.length))).2 < (bhF (layL s n) s t (kf i) j (bhS (layL s n) s t kf i (ownsL K kf L, L.length))).1.length ∧ (bhF (layL s n) s t (kf i) j (bhS (layL s n) s t kf i (ownsL K kf L, L.length))).1.length + wds false ((kf i).kf j) ≤ 1000) := Lib.hid fun j hj => by
        have h9 := bh_fit HR5.out ht HCK.out L hi1 hj
        exact ⟨h9.1, by omega⟩
      have HOW : Hid (bhS (layL s n) s t kf (i + 1) (ownsL K kf L, L.length) = bhF (layL s n) s t (kf i) (kf i).kl (bhS (layL s n) s t kf i (ownsL K kf L, L.length))) := Lib.hid rfl
      have HA5 : Hid (a + (kf i).kl ≤ 1000) := Lib.hid (by
        have h9 := bhS_snd (layL s n) s t kf i (ownsL K kf L, L.length)
        have h10 := sum_room (c := fun j => (kf j).kl) hi1
        have h11 := sum_wds K kf
        rw [HA.out, h9]
        simp only at h10 ⊢
        omega)
      obtain ⟨u, HU⟩ : ∃ u, Hid (kf i = u) := ⟨_, Lib.hid rfl⟩
      rw [HU.out] at c0 c1 c2 c3 HTU HE2 HSU HOW HFIT HA5
      obtain ⟨M, HM⟩ : ∃ M, Hid (bhS (layL s n) s t kf i (ownsL K kf L, L.length) = M) := ⟨_, Lib.hid rfl⟩
      rw [HM.out] at HE2 HOW HFIT HA
      obtain ⟨hul, hkk⟩ : u.kl = s.len t ∧ ∀ j, j < u.kl → kindOk (s.k t j) (u.kf j) ∧ ∀ z, z < (u.kf j).kl → chk s n (s.t t j).toNat ((u.kf j).kf z) = 0 := by
        obtain ⟨e, he, hso, hk⟩ := chk_inv HSU.out
        obtain rfl : n = e := by omega
        exact ⟨hso.2.2.2, hk⟩
      have HUL := Lib.hid hul
      have HKK := Lib.hid hkk
      clear hul hkk
      have hu5 := HA5.out
      clear hE hc hty HE1
      go_wp2
      clear c0 c1 c2 c3
      go_loopw [2, 23] (fun av jv w2 => ∃ j : Nat, j ≤ u.kl ∧ jv = .int .i64 j ∧ (∃ a : Nat, av = .int .i64 (a : Int) ∧ a + (u.kl - j) ≤ 1000 ∧ Hid (a = (bhF (layL s n) s t u j M).2)) ∧ Hid (∃ g' cap', EO Ws W q s A c (.mk 0 ⟨#[]⟩ 0 (fun _ => 0) K kf) (some ⟨b, off, none⟩) g (bhF (layL s n) s t u j M).1 g' cap' w2 ∧ TAt w2 (fun b => b ≠ q ∧ b ≠ g') u A1 A2)) (fun _ jv _ => u.kl - (intOf jv).toNat)
      case atStart => exact ⟨0, by omega, rfl, ⟨a, rfl, by omega, HA⟩, Lib.hid ⟨g1, cap1, HE2.out, HTU.out⟩⟩
      case round =>
        clear HE2 HTU
        obtain ⟨j, hj, rfl, ⟨a', rfl, hb1, HA2⟩, HJ⟩ := hrel
        obtain ⟨g2, cap2, hE, hT⟩ := HJ.out
        clear HJ
        by_cases hj1 : j < u.kl
        · obtain ⟨b2, o2, rfl, hPb2, hlt2, hc2⟩ := hT.kids (by omega)
          obtain ⟨A3, k3, A4, k4, h4, hyy⟩ := hc2 j hj1
          obtain ⟨z0, z1, z2, z3⟩ := h4
          have HKB : Hid (EB Ws W q s A c (.mk 0 ⟨#[]⟩ 0 (fun _ => 0) K kf) (some ⟨b, off, none⟩) g (bhF (layL s n) s t u j M).1 g2 cap2 u A1 (some ⟨b2, o2, none⟩) wr.heap.size (u.kf j) A3 k3 A4 k4 (wr.alloc (.cells #[.int .u64 ((u.kf j).num : Nat), .string (u.kf j).bs, .slice A3 (u.kf j).nl k3, .slice A4 (u.kf j).kl k4] 32))) := Lib.hid ⟨hE.below ((Below.refl _ _).alloc (Nat.le_refl _) _), hT.below ((Below.refl _ _).alloc (Nat.le_refl _) _), hyy.below ((Below.refl _ _).alloc (Nat.le_refl _) _), cell4_box wr (u.kf j) A3 k3 A4 k4, by simp, by have := hE.bw.box.lt; omega, by have := hE.bw.gq; omega⟩
          have HOT : Hid ((bhF (layL s n) s t u (j + 1) M) = (behindL (layL s n) (s.k t j) (s.t t j).toNat a' (u.kf j) (bhF (layL s n) s t u j M).1, a' + 1)) := Lib.hid (by rw [HA2.out]; rfl)
          have hfit := HFIT.out j hj1
          rw [← HA2.out] at hfit
          have HKY := Lib.hid (HKK.out j hj1)
          have hjl : j < s.len t := by rw [← HUL.out]; exact hj1
          have HKA : Hid (kAt s (t : Int) (j : Int) = s.k t j ∧ tAt s (t : Int) (j : Int) = (((s.t t j).toNat : Nat) : Int)) := Lib.hid (kt_in HR5.out ht hjl)
          have hfd := HR5.out.field ht hjl
          have HTL := Lib.hid (HR5.out.tlt ht hjl)
          obtain ⟨κ, HKP⟩ : ∃ κ, Hid (s.k t j = κ) := ⟨_, Lib.hid rfl⟩
          obtain ⟨τ, HTP⟩ : ∃ τ, Hid ((s.t t j).toNat = τ) := ⟨_, Lib.hid rfl⟩
          have hk1 := hfd.1
          have hk2 := hfd.2.1
          clear hfd
          rw [HKP.out] at HOT HKY HKA hk1 hk2
          rw [HTP.out] at HOT HKY HKA HTL
          obtain ⟨Lj, HLJ⟩ : ∃ Lj, Hid ((bhF (layL s n) s t u j M).1 = Lj) := ⟨_, Lib.hid rfl⟩
          rw [HLJ.out] at HOT HKB hfit
          obtain ⟨y, HY⟩ : ∃ y, Hid (u.kf j = y) := ⟨_, Lib.hid rfl⟩
          rw [HY.out] at z0 z1 z2 z3 HKB HOT HKY hfit
          obtain ⟨hf1, hf2⟩ := hfit
          clear hc2 hE hT hyy
          go_wp2_with fail
          clear z0 z1 z2 z3
          have KD := Lib.hid (HKB.out.below (Below.refl _ _).drew)
          clear HKB
          generalize wr.heap.size = kq at KD ⊢
          generalize wr.alloc (.cells #[.int .u64 ((y).num : Nat), .string (y).bs, .slice A3 (y).nl k3, .slice A4 (y).kl k4] 32) = W3 at KD ⊢
          go_region_held3 (fun w' => w'.cell? ⟨kq, 0, none⟩ = some (.int .u64 (y.num : Nat)) ∧ w'.cell? ⟨kq, 1, none⟩ = some (.string y.bs) ∧ w'.cell? ⟨kq, 2, none⟩ = some (.slice A3 y.nl k3) ∧ w'.cell? ⟨kq, 3, none⟩ = some (.slice A4 y.kl k4))
            (first | exact EB.cells (by assumption))
            (first
              | (go_at_call 85; (with_reducible refine (EB.kind t j HSC.out (by assumption)).mono ?_); rintro e w5 ⟨rfl, K3⟩; rw [HKA.out.1])
              | (go_at_call 86; (with_reducible refine (EB.type t j HSC.out (by assumption)).mono ?_); rintro e w6 ⟨rfl, K4⟩; rw [HKA.out.2])
              | (go_at_call 63; (with_reducible refine (EB.behind a' κ τ n (by assumption) hk1 hk2 (HIH.out (by omega)) HTL.out HKY.out.1 HKY.out.2 hf1 hf2).mono ?_); rintro e w7 ⟨rfl, g3, cap3, K5⟩))
          all_goals
            go_wp2
            go_roundw
            case rel => first | exact ⟨j + 1, by omega, by go_num, ⟨a' + 1, by go_num, by omega, Lib.hid (by rw [HOT.out])⟩, Lib.hid ⟨g3, cap3, by rw [HOT.out]; exact K5.out.eo, K5.out.tu⟩⟩ | ((repeat apply Exists.intro); exact ⟨⟨j + 1, by omega, by go_num, ⟨a' + 1, by go_num, by omega, Lib.hid (by rw [HOT.out])⟩, Lib.hid ⟨g3, cap3, by rw [HOT.out]; exact K5.out.eo, K5.out.tu⟩⟩, rfl⟩)
            case measure => simp [intOf]; omega
        · have e : j = u.kl := by omega
          subst e
          have HNX := Lib.hid (show EO Ws W q s A c (.mk 0 ⟨#[]⟩ 0 (fun _ => 0) K kf) (some ⟨b, off, none⟩) g (bhS (layL s n) s t kf (i + 1) (ownsL K kf L, L.length)).1 g2 cap2 wr by rw [HOW.out]; exact hE)
          have HA3 : Hid (a' = (bhS (layL s n) s t kf (i + 1) (ownsL K kf L, L.length)).2) := Lib.hid (by rw [HOW.out]; exact HA2.out)
          clear hE hT
          go_wp2
          go_roundw
          case rel => first | exact ⟨i + 1, by omega, by go_num, ⟨a', rfl, by omega, HA3⟩, Lib.hid ⟨g2, cap2, HNX.out⟩⟩ | ((repeat apply Exists.intro); exact ⟨⟨i + 1, by omega, by go_num, ⟨a', rfl, by omega, HA3⟩, Lib.hid ⟨g2, cap2, HNX.out⟩⟩, rfl⟩)
          case measure => simp [intOf]; omega
    · have e : i = K := by omega
      subst e
      go_wp2
      obtain ⟨g', cap', hE⟩ := HR.out
      exact bodyPost_end (v := .tuple #[]) (by simp [results, Tryd.results61, go_sem]) rfl ⟨rfl, g', cap', hE⟩

end Go.Proofs.YthcachmcjekckaaDoor
