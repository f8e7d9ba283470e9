/- The fields of structs, one by one: their own words are laid. -/
import Derived.Test.YthcachmcjekckaaDoorBRefer
import Derived.Test.YthcachmcjekckaaDoorTCheck
import Derived.Test.YthcachmcjekckaaDoorBMath2
import Derived.Deep.RegionHeld3
namespace Go.Proofs.YthcachmcjekckaaDoor
open Go.ChangeShapes Go.WideShapes Go.ChangeAt Go.RowKit
/-- While fields are gone over: the schema lies in Ws, the structs apart from the builder's own; what was there at the beginning (W) stays. -/
structure EO (Ws W : World) (q : Nat) (s : Sch) (A : Option Addr) (c : Nat) (X : Tr) (Ak : Option Addr) (g : Nat) (L' : List Nat) (g' cap' : Nat) (W' : World) : Prop where
  bw : BW q s A c L' g' cap' W'
  wb : Below Ws.heap.size Ws W'
  lq : Ws.heap.size ≤ q
  lg : Ws.heap.size ≤ g'
  at_ : g' = g ∨ W.heap.size ≤ g'
  tat : TAt W' (fun b => b ≠ q ∧ b ≠ g') X none Ak
  fr : ButP (fun b => b = q ∨ b = g) W W'
theorem EO.below {Ws W : World} {q : Nat} {s : Sch} {A : Option Addr} {c : Nat} {X : Tr} {Ak : Option Addr} {g : Nat} {L' : List Nat} {g' cap' : Nat} {W' W2 : World} (h : EO Ws W q s A c X Ak g L' g' cap' W') (hb : Below W'.heap.size W' W2) : EO Ws W q s A c X Ak g L' g' cap' W2 :=
  ⟨h.bw.below hb, Below.step h.wb hb h.wb.size, h.lq, h.lg, h.at_, h.tat.below hb, ButP.trans h.fr (ButP.of_below hb)⟩
/-- Words were laid. -/
theorem EO.step {Ws W : World} {q : Nat} {s : Sch} {A : Option Addr} {c : Nat} {X : Tr} {Ak : Option Addr} {g : Nat} {L' L2 : List Nat} {g' cap' g2 cap2 : Nat} {W' W2 : World} (h : EO Ws W q s A c X Ak g L' g' cap' W') (hat : g2 = g' ∨ W'.heap.size ≤ g2) (hbw : BW q s A c L2 g2 cap2 W2) (hp : ButP (fun b => b = q ∨ b = g') W' W2) : EO Ws W q s A c X Ak g L2 g2 cap2 W2 := by
  have hfs := h.fr.size
  have hws := h.wb.size
  have hlg := h.lg
  refine ⟨hbw, Below.trans h.wb (hp.below (B := Ws.heap.size) hws (fun k hk e => ?_)), h.lq, by omega, ?_, h.tat.keep (fun b hb hl => hp.block b hl (fun e => ?_)) (fun b hb hl => ⟨hb.1, ?_⟩) hp.size, ⟨hp.os.trans h.fr.os, hp.tape.trans h.fr.tape, hp.output.trans h.fr.output, Nat.le_trans hfs hp.size, fun k hk hne => (hp.block k (by omega) (fun e => ?_)).trans (h.fr.block k hk hne)⟩⟩
  · have := h.lq
    rcases e with e | e <;> omega
  · have := h.at_
    rcases hat with e | e
    · rw [e]; exact this
    · exact .inr (by omega)
  · rcases e with e | e
    · exact hb.1 e
    · exact hb.2 e
  · rcases hat with e | e
    · rw [e]; exact hb.2
    · omega
  · rcases e with e | e
    · exact hne (.inl e)
    · rcases h.at_ with e2 | e2
      · exact hne (.inr (by omega))
      · omega

theorem EO.keepT {Ws W : World} {q : Nat} {s : Sch} {A : Option Addr} {c : Nat} {X : Tr} {Ak : Option Addr} {g : Nat} {L' : List Nat} {g' cap' : Nat} {g2 : Nat} {W' W2 : World} (_h : EO Ws W q s A c X Ak g L' g' cap' W') (hat : g2 = g' ∨ W'.heap.size ≤ g2) (hp : ButP (fun b => b = q ∨ b = g') W' W2) {u : Tr} {A1 A2 : Option Addr} (ht : TAt W' (fun b => b ≠ q ∧ b ≠ g') u A1 A2) : TAt W2 (fun b => b ≠ q ∧ b ≠ g2) u A1 A2 :=
  ht.keep (fun b hb hl => hp.block b hl (fun e => by
    rcases e with e | e
    · exact hb.1 e
    · exact hb.2 e)) (fun b hb hl => ⟨hb.1, by
    rcases hat with e | e
    · rw [e]; exact hb.2
    · omega⟩) hp.size
/-- .. and a field's tree in its box, at k. -/
structure EB (Ws W : World) (q : Nat) (s : Sch) (A : Option Addr) (c : Nat) (X : Tr) (Ak : Option Addr) (g : Nat) (L' : List Nat) (g' cap' : Nat) (u : Tr) (U1 U2 : Option Addr) (k : Nat) (y : Tr) (A3 : Option Addr) (k3 : Nat) (A4 : Option Addr) (k4 : Nat) (W' : World) : Prop where
  eo : EO Ws W q s A c X Ak g L' g' cap' W'
  tu : TAt W' (fun b => b ≠ q ∧ b ≠ g') u U1 U2
  ty : TAt W' (fun b => b ≠ q ∧ b ≠ g') y A3 A4
  box : Cell4 W' k 0 y A3 k3 A4 k4
  lt : k < W'.heap.size
  n1 : k ≠ q
  n2 : k ≠ g'
theorem EB.below {Ws W : World} {q : Nat} {s : Sch} {A : Option Addr} {c : Nat} {X : Tr} {Ak : Option Addr} {g : Nat} {L' : List Nat} {g' cap' : Nat} {u : Tr} {U1 U2 : Option Addr} {k : Nat} {y : Tr} {A3 : Option Addr} {k3 : Nat} {A4 : Option Addr} {k4 : Nat} {W' W2 : World} (h : EB Ws W q s A c X Ak g L' g' cap' u U1 U2 k y A3 k3 A4 k4 W') (hb : Below W'.heap.size W' W2) : EB Ws W q s A c X Ak g L' g' cap' u U1 U2 k y A3 k3 A4 k4 W2 :=
  ⟨h.eo.below hb, h.tu.below hb, h.ty.below hb, h.box.of_block (hb.block _ h.lt), Nat.lt_of_lt_of_le h.lt hb.size, h.n1, h.n2⟩
theorem EB.cells {Ws W : World} {q : Nat} {s : Sch} {A : Option Addr} {c : Nat} {X : Tr} {Ak : Option Addr} {g : Nat} {L' : List Nat} {g' cap' : Nat} {u : Tr} {U1 U2 : Option Addr} {k : Nat} {y : Tr} {A3 : Option Addr} {k3 : Nat} {A4 : Option Addr} {k4 : Nat} {W' : World} (H : Hid (EB Ws W q s A c X Ak g L' g' cap' u U1 U2 k y A3 k3 A4 k4 W')) : W'.cell? ⟨k, 0, none⟩ = some (.int .u64 (y.num : Nat)) ∧ W'.cell? ⟨k, 1, none⟩ = some (.string y.bs) ∧ W'.cell? ⟨k, 2, none⟩ = some (.slice A3 y.nl k3) ∧ W'.cell? ⟨k, 3, none⟩ = some (.slice A4 y.kl k4) := ⟨H.out.box.c0, H.out.box.c1, H.out.box.c2, H.out.box.c3⟩
theorem EB.step {Ws W : World} {q : Nat} {s : Sch} {A : Option Addr} {c : Nat} {X : Tr} {Ak : Option Addr} {g : Nat} {L' : List Nat} {g' cap' : Nat} {L2 : List Nat} {g2 cap2 : Nat} {u : Tr} {U1 U2 : Option Addr} {k : Nat} {y : Tr} {A3 : Option Addr} {k3 : Nat} {A4 : Option Addr} {k4 : Nat} {W' W2 : World} (h : EB Ws W q s A c X Ak g L' g' cap' u U1 U2 k y A3 k3 A4 k4 W') (hat : g2 = g' ∨ W'.heap.size ≤ g2) (hbw : BW q s A c L2 g2 cap2 W2) (hp : ButP (fun b => b = q ∨ b = g') W' W2) : EB Ws W q s A c X Ak g L2 g2 cap2 u U1 U2 k y A3 k3 A4 k4 W2 :=
  ⟨h.eo.step hat hbw hp, h.eo.keepT hat hp h.tu, h.eo.keepT hat hp h.ty, h.box.of_block (hp.block _ h.lt (fun e => by
    rcases e with e | e
    · exact h.n1 e
    · exact h.n2 e)), Nat.lt_of_lt_of_le h.lt hp.size, h.n1, by
    have := h.lt
    have := h.n2
    omega⟩
theorem EB.kind {Ws W : World} {q : Nat} {s : Sch} {A : Option Addr} {c : Nat} {X : Tr} {Ak : Option Addr} {g : Nat} {L' : List Nat} {g' cap' : Nat} {u : Tr} {U1 U2 : Option Addr} {k : Nat} {y : Tr} {A3 : Option Addr} {k3 : Nat} {A4 : Option Addr} {k4 : Nat} {W' : World} (t i : Int) (hs : SAt Ws A s) (H : Hid (EB Ws W q s A c X Ak g L' g' cap' u U1 U2 k y A3 k3 A4 k4 W')) : Calls Tryd.prog 85 #[.slice A s.n c, .int .i64 t, .int .i64 i] W' fun e W2 => e = .returned (.int .i64 (kAt s t i)) ∧ Hid (EB Ws W q s A c X Ak g L' g' cap' u U1 U2 k y A3 k3 A4 k4 W2) :=
  (kind_any s A c t i W' (hs.below H.out.eo.wb)).mono fun _ _ ⟨he, hb⟩ => ⟨he, Lib.hid (H.out.below hb)⟩
theorem EB.type {Ws W : World} {q : Nat} {s : Sch} {A : Option Addr} {c : Nat} {X : Tr} {Ak : Option Addr} {g : Nat} {L' : List Nat} {g' cap' : Nat} {u : Tr} {U1 U2 : Option Addr} {k : Nat} {y : Tr} {A3 : Option Addr} {k3 : Nat} {A4 : Option Addr} {k4 : Nat} {W' : World} (t i : Int) (hs : SAt Ws A s) (H : Hid (EB Ws W q s A c X Ak g L' g' cap' u U1 U2 k y A3 k3 A4 k4 W')) : Calls Tryd.prog 86 #[.slice A s.n c, .int .i64 t, .int .i64 i] W' fun e W2 => e = .returned (.int .i64 (tAt s t i)) ∧ Hid (EB Ws W q s A c X Ak g L' g' cap' u U1 U2 k y A3 k3 A4 k4 W2) :=
  (type_any s A c t i W' (hs.below H.out.eo.wb)).mono fun _ _ ⟨he, hb⟩ => ⟨he, Lib.hid (H.out.below hb)⟩
theorem EB.own {Ws W : World} {q : Nat} {s : Sch} {A : Option Addr} {c : Nat} {X : Tr} {Ak : Option Addr} {g : Nat} {L' : List Nat} {g' cap' : Nat} {u : Tr} {U1 U2 : Option Addr} {k : Nat} {y : Tr} {A3 : Option Addr} {k3 : Nat} {A4 : Option Addr} {k4 : Nat} {W' : World} (p κ τ : Int) (H : Hid (EB Ws W q s A c X Ak g L' g' cap' u U1 U2 k y A3 k3 A4 k4 W')) (hL : L'.length ≤ 10000) : Calls Tryd.prog 62 #[.pointer (some ⟨q, 0, none⟩), .agg #[.int .i64 p, .int .i64 κ, .int .i64 τ, .int .u64 (y.num : Nat), .string y.bs, .slice A3 y.nl k3, .slice A4 y.kl k4]] W' fun e W2 => e = .returned (.tuple #[]) ∧ ∃ g2 cap2, Hid (EB Ws W q s A c X Ak g (L' ++ [y.num]) g2 cap2 u U1 U2 k y A3 k3 A4 k4 W2) :=
  (layOwn_any q s A c L' g' cap' p κ τ y A3 k3 A4 k4 W' H.out.eo.bw hL).mono fun _ _ ⟨he, ⟨g2, cap2, hat, hbw⟩, hp⟩ => ⟨he, g2, cap2, Lib.hid (H.out.step hat hbw hp)⟩
def ownTo (x : Tr) (i : Nat) : List Nat := (List.range i).map fun i => (x.kf i).num
theorem ownTo_succ (x : Tr) (i : Nat) : ownTo x (i + 1) = ownTo x i ++ [(x.kf i).num] := by simp [ownTo, List.range_succ]
set_option maxRecDepth 100000 in
set_option maxHeartbeats 8000000 in
theorem eachOwn_any (s : Sch) (A : Option Addr) (c : Nat) (Ws : World) (hs : SAt Ws A s) (q t K : Nat) (kf : Nat → Tr) (Ak : Option Addr) (ck : Nat) (L : List Nat) (g cap : Nat) (p : Int) (W : World) (hp0 : 0 ≤ p) (hp1 : p ≤ 10000) (hK : K ≤ 12) (hS : ∀ j, j < K → (kf j).kl ≤ 6) (hL : L.length ≤ 1000) (h : EO Ws W q s A c (.mk 0 ⟨#[]⟩ 0 (fun _ => 0) K kf) Ak g L g cap W) :
    Calls Tryd.prog 61 #[.slice A s.n c, .int .i64 (t : Int), .int .i64 p, .slice Ak K ck, .func (.func 62) #[.pointer (some ⟨q, 0, none⟩)] #[]] W fun e W' => e = .returned (.tuple #[]) ∧ ∃ g' cap', EO Ws W q s A c (.mk 0 ⟨#[]⟩ 0 (fun _ => 0) K kf) Ak g (ownsL K kf L) g' cap' W' := by
  have H := Lib.hid h
  have HSS := Lib.hid hS
  have HSC := Lib.hid hs
  clear h hS hs
  go_enter Tryd.func61, Tryd.ntmps61
  go_wp2
  go_loopw [2, 16] (fun av iv wr => ∃ i : Nat, i ≤ K ∧ iv = .int .i64 i ∧ (∃ a : Int, av = .int .i64 a ∧ 0 ≤ a ∧ a ≤ 10000 + i * 6) ∧ Hid (∃ g' cap', (ownsL i kf L).length ≤ 1000 + i * 6 ∧ EO Ws W q s A c (.mk 0 ⟨#[]⟩ 0 (fun _ => 0) K kf) Ak g (ownsL i kf L) g' cap' wr)) (fun _ iv _ => K - (intOf iv).toNat)
  case atStart => exact ⟨0, by omega, rfl, ⟨p, rfl, hp0, by omega⟩, Lib.hid ⟨g, cap, by show L.length ≤ _; omega, H.out⟩⟩
  case round =>
    obtain ⟨i, hi, rfl, ⟨a, rfl, ha0, ha1⟩, HR⟩ := hrel
    by_cases hi1 : i < K
    · obtain ⟨g1, cap1, hl1, hE⟩ := HR.out
      clear HR
      have HE1 := Lib.hid hE
      obtain ⟨b, off, rfl, hPb, hlt, hc⟩ := hE.tat.kids (show 0 < K by omega)
      obtain ⟨A1, k1, A2, k2, h4, hty⟩ := hc i hi1
      have h4 : Cell4 wr b (off + i * 4) (kf i) A1 k1 A2 k2 := h4
      have hty : TAt wr (fun b => b ≠ q ∧ b ≠ g1) (kf i) A1 A2 := hty
      obtain ⟨c0, c1, c2, c3⟩ := h4
      have HTU := Lib.hid (hty.below ((Below.refl _ _).alloc (Nat.le_refl _) (.cells #[.int .u64 ((kf i).num : Nat), .string (kf i).bs, .slice A1 (kf i).nl k1, .slice A2 (kf i).kl k2] 32)))
      have HE2 := Lib.hid (hE.below ((Below.refl _ _).alloc (Nat.le_refl _) (.cells #[.int .u64 ((kf i).num : Nat), .string (kf i).bs, .slice A1 (kf i).nl k1, .slice A2 (kf i).kl k2] 32)))
      have HSU := Lib.hid (HSS.out i hi1)
      have HOW : Hid (ownsL (i + 1) kf L = ownsL i kf L ++ ownTo (kf i) (kf i).kl) := Lib.hid rfl
      obtain ⟨u, HU⟩ : ∃ u, Hid (kf i = u) := ⟨_, Lib.hid rfl⟩
      rw [HU.out] at c0 c1 c2 c3 HTU HE2 HSU HOW
      obtain ⟨M, HM⟩ : ∃ M, Hid (ownsL i kf L = M) := ⟨_, Lib.hid rfl⟩
      rw [HM.out] at HE2 HOW hl1
      have hu5 := HSU.out
      clear hE hc hty HE1
      go_wp2
      clear c0 c1 c2 c3
      go_loopw [2, 23] (fun av jv w2 => ∃ j : Nat, j ≤ u.kl ∧ jv = .int .i64 j ∧ (∃ a : Int, av = .int .i64 a ∧ 0 ≤ a ∧ a ≤ 10000 + i * 6 + j) ∧ Hid (∃ g' cap', EO Ws W q s A c (.mk 0 ⟨#[]⟩ 0 (fun _ => 0) K kf) (some ⟨b, off, none⟩) g (M ++ ownTo u j) g' cap' w2 ∧ TAt w2 (fun b => b ≠ q ∧ b ≠ g') u A1 A2)) (fun _ jv _ => u.kl - (intOf jv).toNat)
      case atStart => exact ⟨0, by omega, rfl, ⟨a, rfl, ha0, by omega⟩, Lib.hid ⟨g1, cap1, by simpa [ownTo] using HE2.out, HTU.out⟩⟩
      case round =>
        clear HE2 HTU
        obtain ⟨j, hj, rfl, ⟨a', rfl, hb0, hb1⟩, HJ⟩ := hrel
        obtain ⟨g2, cap2, hE, hT⟩ := HJ.out
        clear HJ
        by_cases hj1 : j < u.kl
        · obtain ⟨b2, o2, rfl, hPb2, hlt2, hc2⟩ := hT.kids (by omega)
          obtain ⟨A3, k3, A4, k4, h4, hyy⟩ := hc2 j hj1
          obtain ⟨z0, z1, z2, z3⟩ := h4
          have HKB : Hid (EB Ws W q s A c (.mk 0 ⟨#[]⟩ 0 (fun _ => 0) K kf) (some ⟨b, off, none⟩) g (M ++ ownTo u j) g2 cap2 u A1 (some ⟨b2, o2, none⟩) wr.heap.size (u.kf j) A3 k3 A4 k4 (wr.alloc (.cells #[.int .u64 ((u.kf j).num : Nat), .string (u.kf j).bs, .slice A3 (u.kf j).nl k3, .slice A4 (u.kf j).kl k4] 32))) := Lib.hid ⟨hE.below ((Below.refl _ _).alloc (Nat.le_refl _) _), hT.below ((Below.refl _ _).alloc (Nat.le_refl _) _), hyy.below ((Below.refl _ _).alloc (Nat.le_refl _) _), cell4_box wr (u.kf j) A3 k3 A4 k4, by simp, by have := hE.bw.box.lt; omega, by have := hE.bw.gq; omega⟩
          have HOT : Hid (M ++ ownTo u (j + 1) = (M ++ ownTo u j) ++ [(u.kf j).num]) := Lib.hid (by rw [ownTo_succ, List.append_assoc])
          obtain ⟨y, HY⟩ : ∃ y, Hid (u.kf j = y) := ⟨_, Lib.hid rfl⟩
          rw [HY.out] at z0 z1 z2 z3 HKB HOT
          have hlen : (M ++ ownTo u j).length ≤ 2000 := by rw [List.length_append]; simp [ownTo]; omega
          clear hc2 hE hT hyy
          go_wp2_with fail
          clear z0 z1 z2 z3
          have KD := Lib.hid (HKB.out.below (Below.refl _ _).drew)
          clear HKB
          generalize wr.heap.size = kq at KD ⊢
          generalize wr.alloc (.cells #[.int .u64 ((y).num : Nat), .string (y).bs, .slice A3 (y).nl k3, .slice A4 (y).kl k4] 32) = W3 at KD ⊢
          go_region_held3 (fun w' => w'.cell? ⟨kq, 0, none⟩ = some (.int .u64 (y.num : Nat)) ∧ w'.cell? ⟨kq, 1, none⟩ = some (.string y.bs) ∧ w'.cell? ⟨kq, 2, none⟩ = some (.slice A3 y.nl k3) ∧ w'.cell? ⟨kq, 3, none⟩ = some (.slice A4 y.kl k4))
            (first | exact EB.cells (by assumption))
            (first
              | (go_at_call 85; (with_reducible refine (EB.kind t j HSC.out (by assumption)).mono ?_); rintro e w5 ⟨rfl, K3⟩)
              | (go_at_call 86; (with_reducible refine (EB.type t j HSC.out (by assumption)).mono ?_); rintro e w6 ⟨rfl, K4⟩)
              | (go_at_call 62; (with_reducible refine (EB.own _ _ _ (by assumption) (by omega)).mono ?_); rintro e w7 ⟨rfl, g3, cap3, K5⟩))
          all_goals
            go_wp2
            go_roundw
            case rel => first | exact ⟨j + 1, by omega, by go_num, ⟨a' + 1, rfl, by omega, by omega⟩, Lib.hid ⟨g3, cap3, by rw [HOT.out]; exact K5.out.eo, K5.out.tu⟩⟩ | ((repeat apply Exists.intro); exact ⟨⟨j + 1, by omega, by go_num, ⟨a' + 1, rfl, by omega, by omega⟩, Lib.hid ⟨g3, cap3, by rw [HOT.out]; exact K5.out.eo, K5.out.tu⟩⟩, rfl⟩)
            case measure => simp [intOf]; omega
        · have e : j = u.kl := by omega
          subst e
          have HNX := Lib.hid (show EO Ws W q s A c (.mk 0 ⟨#[]⟩ 0 (fun _ => 0) K kf) (some ⟨b, off, none⟩) g (ownsL (i + 1) kf L) g2 cap2 wr by rw [HOW.out]; exact hE)
          clear hE hT
          go_wp2
          go_roundw
          case rel => first | exact ⟨i + 1, by omega, by go_num, ⟨a', rfl, hb0, by omega⟩, Lib.hid ⟨g2, cap2, by rw [HOW.out, List.length_append]; simp [ownTo]; omega, HNX.out⟩⟩ | ((repeat apply Exists.intro); exact ⟨⟨i + 1, by omega, by go_num, ⟨a', rfl, hb0, by omega⟩, Lib.hid ⟨g2, cap2, by rw [HOW.out, List.length_append]; simp [ownTo]; omega, HNX.out⟩⟩, rfl⟩)
          case measure => simp [intOf]; omega
    · have e : i = K := by omega
      subst e
      go_wp2
      obtain ⟨g', cap', -, hE⟩ := HR.out
      exact bodyPost_end (v := .tuple #[]) (by simp [results, Tryd.results61, go_sem]) rfl ⟨rfl, g', cap', hE⟩

end Go.Proofs.YthcachmcjekckaaDoor
