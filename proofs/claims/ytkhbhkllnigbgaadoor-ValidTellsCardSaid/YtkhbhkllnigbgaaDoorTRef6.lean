/- The document's answers: which trouble a struct has, how deep it is, how many words it takes. -/
import Derived.Test.YtkhbhkllnigbgaaDoorTSize2
namespace Go.Proofs.YtkhbhkllnigbgaaDoor
open Go.RowKit
/-- Behind W0, with a tree's box at q. -/
structure XB (W0 : World) (q : Nat) (y : Tr) (A1 : Option Addr) (k1 : Nat) (A2 : Option Addr) (k2 : Nat) (W : World) : Prop where
  be : Below W0.heap.size W0 W
  box : Cell4 W q 0 y A1 k1 A2 k2
  lt : q < W.heap.size
theorem XB.below {W0 : World} {q : Nat} {y : Tr} {A1 : Option Addr} {k1 : Nat} {A2 : Option Addr} {k2 : Nat} {W W' : World} (h : XB W0 q y A1 k1 A2 k2 W) (hb : Below W.heap.size W W') : XB W0 q y A1 k1 A2 k2 W' := ⟨Below.step h.be hb h.be.size, h.box.of_block (hb.block _ h.lt), Nat.lt_of_lt_of_le h.lt hb.size⟩
theorem XB.drew {W0 : World} {q : Nat} {y : Tr} {A1 : Option Addr} {k1 : Nat} {A2 : Option Addr} {k2 : Nat} {W : World} (h : XB W0 q y A1 k1 A2 k2 W) : XB W0 q y A1 k1 A2 k2 W.drew := h.below (Below.refl _ _).drew
theorem XB.mk' {W0 W : World} (hb : Below W0.heap.size W0 W) (y : Tr) (A1 : Option Addr) (k1 : Nat) (A2 : Option Addr) (k2 : Nat) : XB W0 W.heap.size y A1 k1 A2 k2 (W.alloc (.cells #[.int .u64 ((y).num : Nat), .string (y).bs, .slice A1 (y).nl k1, .slice A2 (y).kl k2] 41)) := ⟨hb.alloc hb.size _, cell4_box W y A1 k1 A2 k2, by simp⟩
/-- .. and a field's box at f. -/
structure XF (W0 : World) (q : Nat) (x : Tr) (An : Option Addr) (cn : Nat) (Ak : Option Addr) (ck : Nat) (f : Nat) (k ty : Int) (p : Nat) (y : Tr) (A1 : Option Addr) (k1 : Nat) (A2 : Option Addr) (k2 : Nat) (W : World) : Prop where
  be : Below W0.heap.size W0 W
  box : Cell4 W q 0 x An cn Ak ck
  lt : q < W.heap.size
  f0 : W.cell? ⟨f, 0, none⟩ = some (.int .i64 k)
  f1 : W.cell? ⟨f, 1, none⟩ = some (.int .i64 ty)
  lf : f < W.heap.size
  bp : Cell4 W p 0 y A1 k1 A2 k2
  lp : p < W.heap.size
theorem XF.below {W0 : World} {q : Nat} {x : Tr} {An : Option Addr} {cn : Nat} {Ak : Option Addr} {ck : Nat} {f : Nat} {k ty : Int} {p : Nat} {y : Tr} {A1 : Option Addr} {k1 : Nat} {A2 : Option Addr} {k2 : Nat} {W W' : World} (h : XF W0 q x An cn Ak ck f k ty p y A1 k1 A2 k2 W) (hb : Below W.heap.size W W') : XF W0 q x An cn Ak ck f k ty p y A1 k1 A2 k2 W' :=
  ⟨Below.step h.be hb h.be.size, h.box.of_block (hb.block _ h.lt), Nat.lt_of_lt_of_le h.lt hb.size, (hb.cell (p := ⟨f, 0, none⟩) h.lf).trans h.f0, (hb.cell (p := ⟨f, 1, none⟩) h.lf).trans h.f1, Nat.lt_of_lt_of_le h.lf hb.size, h.bp.of_block (hb.block _ h.lp), Nat.lt_of_lt_of_le h.lp hb.size⟩
theorem XF.drew {W0 : World} {q : Nat} {x : Tr} {An : Option Addr} {cn : Nat} {Ak : Option Addr} {ck : Nat} {f : Nat} {k ty : Int} {p : Nat} {y : Tr} {A1 : Option Addr} {k1 : Nat} {A2 : Option Addr} {k2 : Nat} {W : World} (h : XF W0 q x An cn Ak ck f k ty p y A1 k1 A2 k2 W) : XF W0 q x An cn Ak ck f k ty p y A1 k1 A2 k2 W.drew := h.below (Below.refl _ _).drew
theorem XF.mk' {W0 W : World} {q : Nat} {x : Tr} {An : Option Addr} {cn : Nat} {Ak : Option Addr} {ck : Nat} (h : XB W0 q x An cn Ak ck W) (k ty : Int) (y : Tr) (A1 : Option Addr) (k1 : Nat) (A2 : Option Addr) (k2 : Nat) : XF W0 q x An cn Ak ck W.heap.size k ty (W.heap.size + 1) y A1 k1 A2 k2 ((W.alloc (.cells #[.int .i64 k, .int .i64 ty] 95)).alloc (.cells #[.int .u64 ((y).num : Nat), .string (y).bs, .slice A1 (y).nl k1, .slice A2 (y).kl k2] 41)) := by
  have hb : Below W.heap.size W ((W.alloc (.cells #[.int .i64 k, .int .i64 ty] 95)).alloc (.cells #[.int .u64 ((y).num : Nat), .string (y).bs, .slice A1 (y).nl k1, .slice A2 (y).kl k2] 41)) := by (repeat (first | with_reducible exact Below.refl _ _ | with_reducible refine Below.drew ?_ | (with_reducible refine Below.setCell ?_ ?side _; case side => exact (by first | (simp; done) | (simp; omega) | omega)) | (with_reducible refine Below.alloc ?_ ?side _; case side => exact (by first | (simp; done) | (simp; omega) | omega))))
  have r1 := (World.rowIs_alloc W #[.int .i64 k, .int .i64 ty] 95 (fun j => if j = 0 then .int .i64 k else .int .i64 ty) (by intro j hj; match j, hj with | 0, _ => rfl | 1, _ => rfl)).alloc (.cells #[.int .u64 ((y).num : Nat), .string (y).bs, .slice A1 (y).nl k1, .slice A2 (y).kl k2] 41)
  have b2 := cell4_box (W.alloc (.cells #[.int .i64 k, .int .i64 ty] 95)) y A1 k1 A2 k2
  simp only [World.size_alloc] at b2
  have h' := h.below hb
  exact ⟨h'.be, h'.box, h'.lt, r1.cell (i := 0) (by simp), r1.cell (i := 1) (by simp), r1.lt, b2, by simp⟩
theorem XF.xb {W0 : World} {q : Nat} {x : Tr} {An : Option Addr} {cn : Nat} {Ak : Option Addr} {ck : Nat} {f : Nat} {k ty : Int} {p : Nat} {y : Tr} {A1 : Option Addr} {k1 : Nat} {A2 : Option Addr} {k2 : Nat} {W : World} (h : XF W0 q x An cn Ak ck f k ty p y A1 k1 A2 k2 W) : XB W0 q x An cn Ak ck W := ⟨h.be, h.box, h.lt⟩
theorem ret_nat {a b : Nat} (h : a = b) : Ending.returned (.int .i64 (a : Int)) = .returned (.int .i64 (b : Int)) := by rw [h]
theorem chk_retN {s : Sch} {d t m j : Nat} {x y : Tr} {τ E : Nat} {z : Tr} (hst : structOk s t x) (hm : m < x.kl) (hf : fe (fun i => chkF s d t i (x.kf i)) m = 0) (hc : x.kf m = y) (hk : kindOk (s.k t m) y) (hj : j < y.kl) (hfj : fe (fun j => chk s d τ (y.kf j)) j = 0) (hτ : (s.t t m).toNat = τ) (hz : y.kf j = z) (hE : chk s d τ z = E) (h0 : E ≠ 0) : E = chk s (d + 1) t x := by
  subst hτ hc hz
  have e1 : chkF s d t m (x.kf m) = E := by rw [chkF, if_pos hk, fe_at hfj (by rw [hE]; exact h0) hj, hE]
  rw [chk_succ, if_pos hst, fe_at hf (by rw [e1]; exact h0) hm, e1]
/-- The cells that a round of strct reads. -/
theorem strct_S {W0 : World} {q : Nat} {x : Tr} {An : Option Addr} {cn : Nat} {Ak : Option Addr} {ck : Nat} {f : Nat} {k : Int} {p τ : Nat} {y : Tr} {A1 : Option Addr} {k1 : Nat} {b2 o2 j k2 : Nat} {W : World} {z : Tr} {A3 : Option Addr} {k3 : Nat} {A4 : Option Addr} {k4 : Nat} (h : XF W0 q x An cn Ak ck f k (τ : Int) p y A1 k1 (some ⟨b2, o2, none⟩) k2 W) (hz : Cell4 W0 b2 (o2 + j * 4) z A3 k3 A4 k4) (hb : b2 < W0.heap.size) :
    W.cell? ⟨f, 1, none⟩ = some (.int .i64 (τ : Int)) ∧ W.cell? ⟨p, 3, none⟩ = some (.slice (some ⟨b2, o2, none⟩) y.kl k2) ∧ W.cell? ⟨b2, o2 + j * 4, none⟩ = some (.int .u64 (z.num : Nat)) ∧ W.cell? ⟨b2, o2 + j * 4 + 1, none⟩ = some (.string z.bs) ∧ W.cell? ⟨b2, o2 + j * 4 + 2, none⟩ = some (.slice A3 z.nl k3) ∧ W.cell? ⟨b2, o2 + j * 4 + 3, none⟩ = some (.slice A4 z.kl k4) ∧ XF W0 q x An cn Ak ck f k (τ : Int) p y A1 k1 (some ⟨b2, o2, none⟩) k2 W := by
  have c := hz.of_block (h.be.block b2 hb)
  exact ⟨h.f1, h.bp.c3, c.c0, c.c1, c.c2, c.c3, h⟩

set_option maxRecDepth 100000 in
set_option maxHeartbeats 8000000 in
theorem strct_any (s : Sch) (hR : RightS s) (A : Option Addr) (c d : Nat) : ∀ (t : Nat) (D : Int) (x : Tr) (An Ak : Option Addr) (cn ck n : Nat) (w : World), t < s.n → D ≤ d → d ≤ D → d ≤ 5 → Sm n x → SAt w A s → TAt w (fun _ => True) x An Ak →
    Calls Tryd.prog 112 #[.slice A s.n c, .int .i64 (t : Int), (.agg #[.int .u64 ((x).num : Nat), .string (x).bs, .slice An (x).nl cn, .slice Ak (x).kl ck]), .int .i64 D] w fun e w' => e = .returned (.int .i64 ((chk s d t x : Nat) : Int)) ∧ Below w.heap.size w w' := by
  induction d with
  | zero =>
    intro t D x An Ak cn ck n w ht h1 h2 h3 hS hs hT
    obtain rfl : D = 0 := by omega
    clear hS hs hT
    go_enter Tryd.func112, Tryd.ntmps112
    go_wp2
    go_ret
    exact ⟨rfl, by (repeat (first | with_reducible exact Below.refl _ _ | with_reducible refine Below.drew ?_ | (with_reducible refine Below.setCell ?_ ?side _; case side => exact (by first | (simp; done) | (simp; omega) | omega)) | (with_reducible refine Below.alloc ?_ ?side _; case side => exact (by first | (simp; done) | (simp; omega) | omega))))⟩
  | succ d ih =>
    intro t D x An Ak cn ck n w ht h1 h2 h3 hS hs hT
    obtain rfl : D = (d : Int) + 1 := by omega
    obtain ⟨n, rfl⟩ := hS.pos
    have HIH := Lib.hid ih
    have HS := Lib.hid hS
    have HT := Lib.hid hT
    have Hs := Lib.hid hs
    have hk5 := hS.le.2.2.2
    obtain ⟨bs, os, rfl, hbs, hcs⟩ := hs.some_ (by omega)
    obtain ⟨Ai, ci, hct, hfr⟩ := hcs t ht
    have HCT := Lib.hid hct
    have HFR := Lib.hid hfr
    have z0 : ((d : Int) + 1 == 0) = false := by simp; omega
    have hwd : IntKind.i64.wrap (d : Int) = (d : Int) := IntWalk.i64_in _ (by omega)
    clear ih hS hs hT hcs hct hfr h1 h2
    have g0 : (0 : Int) ≤ (t : Int) := by omega
    have g1 : (t : Int) < (s.n : Int) := by omega
    go_enter Tryd.func112, Tryd.ntmps112
    go_wp2_with fail
    refine (only_any 4 x An Ak cn ck _).mono ?_
    rintro e w1 ⟨rfl, hb⟩
    have K0 := Lib.hid ((XB.mk' (Below.refl _ _) x An cn Ak ck).below hb)
    clear hb
    have a3 := K0.out.box.c3
    simp only [Nat.zero_add] at a3
    have s0 := (K0.out.be.cell (p := ⟨bs, os + t, none⟩) hbs).trans HCT.out
    by_cases hst : structOk s t x
    · have ho : onlyB 4 x = true := (onlyB_iff _ _).2 ⟨fun _ => hst.1, fun _ => hst.2.1, fun _ => hst.2.2.1, fun h => absurd h (by omega)⟩
      have HST := Lib.hid hst
      have HKL := Lib.hid hst.2.2.2
      rw [← HKL.out] at s0
      rw [ho]
      clear ho hst
      go_wp2_with fail
      go_quiet (fail)
      clear a3 s0
      go_wp2
      go_loopw [10] (fun iv wr => ∃ i : Nat, i ≤ x.kl ∧ iv = .int .i64 i ∧ Hid (fe (fun i => chkF s d t i (x.kf i)) i = 0 ∧ XB w w.heap.size x An cn Ak ck wr)) (fun iv _ => x.kl - (intOf iv).toNat)
      case atStart => exact ⟨0, by omega, rfl, Lib.hid ⟨rfl, K0.out.below (below_drewN (Below.refl _ _) _)⟩⟩
      case round =>
        clear K0
        obtain ⟨i, hi, rfl, HL⟩ := hrel
        have K1 := Lib.hid HL.out.2
        have HFE := Lib.hid HL.out.1
        clear HL
        have a3 := K1.out.box.c3
        simp only [Nat.zero_add] at a3
        by_cases hi1 : i < x.kl
        · obtain ⟨b, off, rfl, -, hlt, hc⟩ := HT.out.kids (by omega)
          obtain ⟨A1, k1, A2, k2, h4, hty⟩ := hc i hi1
          obtain ⟨c0, c1, c2, c3⟩ := h4.of_block (K1.out.be.block b hlt)
          have hil : i < s.len t := by rw [← HKL.out]; exact hi1
          obtain ⟨bf, of, rfl, hbf, hcf⟩ := HFR.out.some_ (by omega)
          obtain ⟨f0, f1⟩ := hcf i hil
          have f0 := (K1.out.be.cell (p := ⟨bf, of + i * 2, none⟩) hbf).trans f0
          have f1 := (K1.out.be.cell (p := ⟨bf, of + i * 2 + 1, none⟩) hbf).trans f1
          have s0 := (K1.out.be.cell (p := ⟨bs, os + t, none⟩) hbs).trans HCT.out
          rw [← HKL.out] at s0
          obtain ⟨τ, HTT⟩ : ∃ τ, Hid ((s.t t i).toNat = τ) := ⟨_, Lib.hid rfl⟩
          have htl : τ < s.n := by rw [← HTT.out]; exact hR.tlt ht hil
          have HTV : Hid (s.t t i = (τ : Int)) := Lib.hid (by rw [← HTT.out]; have := hR.field ht hil; omega)
          rw [HTV.out] at f1
          have HTY := Lib.hid hty
          have HSY := Lib.hid (HS.out.kid hi1)
          obtain ⟨y, HY⟩ : ∃ y, Hid (x.kf i = y) := ⟨_, Lib.hid rfl⟩
          rw [HY.out] at c0 c1 c2 c3 HTY HSY
          obtain ⟨k, HK⟩ : ∃ k, Hid (s.k t i = k) := ⟨_, Lib.hid rfl⟩
          rw [HK.out] at f0
          have hyl := HSY.out.le
          have n1 : b ≠ wr.heap.size := by have := K1.out.be.size; omega
          have n2 : w.heap.size ≠ wr.heap.size := by have := K1.out.lt; omega
          have n3 := K1.out.lt
          have n4 : b < wr.heap.size := by have := K1.out.be.size; omega
          have g2 : (0 : Int) ≤ (i : Int) := by omega
          have g3 : (i : Int) < (x.kl : Int) := by omega
          clear hc h4 hty hcf
          go_wp2_with fail
          clear c0 c1 c2 c3 f0 f1 s0 a3
          refine (only_any k y A1 A2 k1 k2 _).mono ?_
          rintro e w2 ⟨rfl, hb⟩
          have K2 := Lib.hid ((XF.mk' K1.out k (τ : Int) y A1 k1 A2 k2).below hb)
          clear hb K1 n1 n2 n3 n4
          generalize wr.heap.size = f at K2 ⊢
          have b0 := K2.out.bp.c0
          have b1 := K2.out.bp.c1
          have b2 := K2.out.bp.c2
          have b3 := K2.out.bp.c3
          have e0 := K2.out.f0
          simp only [Nat.zero_add] at b1 b2 b3
          by_cases hk : kindOk k y
          · have ho : onlyB k y = true := (onlyB_iff _ _).2 ⟨hk.1, hk.2.1, hk.2.2.1, hk.2.2.2.1⟩
            have HKO := Lib.hid hk
            obtain ⟨-, -, -, -, p1, p2, p3, p4⟩ := hk
            rw [ho]
            have d1 : decide (40 < (y.bs.size : Int)) = false := decide_eq_false (by omega)
            have d2 : decide (12 < (y.nl : Int)) = false := decide_eq_false (by omega)
            have d3 : decide (12 < (y.kl : Int)) = false := decide_eq_false (by omega)
            have d1' : decide (40 < y.bs.size) = false := decide_eq_false (by omega)
            have d2' : decide (12 < y.nl) = false := decide_eq_false (by omega)
            have d3' : decide (12 < y.kl) = false := decide_eq_false (by omega)
            have hk4 : (k == 4) = false ∨ ((k == 4) = true ∧ decide (1 < (y.kl : Int)) = false ∧ decide (1 < y.kl) = false) := by
              by_cases h : k = 4
              · exact .inr ⟨by simp [h], decide_eq_false (by have := p4 h; omega), decide_eq_false (by have := p4 h; omega)⟩
              · exact .inl (by simpa using h)
            clear ho p1 p2 p3 p4
            rcases hk4 with hk4 | ⟨hk4, d4, d4'⟩
            all_goals
              go_wp2
              clear b0 b1 b2 b3 e0
              go_loopw [14] (fun jv wr => ∃ j : Nat, j ≤ y.kl ∧ jv = .int .i64 j ∧ Hid (fe (fun j => chk s d τ (y.kf j)) j = 0 ∧ XF w w.heap.size x An cn (some ⟨b, off, none⟩) ck f k (τ : Int) (f + 1) y A1 k1 A2 k2 wr)) (fun jv _ => y.kl - (intOf jv).toNat)
              case atStart => exact ⟨0, by omega, rfl, Lib.hid ⟨rfl, K2.out⟩⟩
              case round =>
                clear K2
                obtain ⟨j, hj, rfl, HJ⟩ := hrel
                have K3 := Lib.hid HJ.out.2
                have HFJ := Lib.hid HJ.out.1
                clear HJ
                have m3 := K3.out.bp.c3
                simp only [Nat.zero_add] at m3
                by_cases hj1 : j < y.kl
                · obtain ⟨b2, o2, rfl, -, hlt2, hc2⟩ := HTY.out.kids (by omega)
                  obtain ⟨A3, k3, A4, k4, h4, htz⟩ := hc2 j hj1
                  have HZ4 := Lib.hid h4
                  have HTZ := Lib.hid htz
                  obtain ⟨n', hn'⟩ := HSY.out.pos
                  have HSZ := Lib.hid (Sm.kid (n := n') (by rw [← hn']; exact HSY.out) hj1)
                  obtain ⟨z, HZ⟩ : ∃ z, Hid (y.kf j = z) := ⟨_, Lib.hid rfl⟩
                  rw [HZ.out] at HZ4 HTZ HSZ
                  have hE3 := chk_vals s d τ z
                  obtain ⟨E, HEE⟩ : ∃ E, Hid (chk s d τ z = E) := ⟨_, Lib.hid rfl⟩
                  rw [HEE.out] at hE3
                  clear h4 htz hc2 hn'
                  have g4 : (0 : Int) ≤ (j : Int) := by omega
                  have g5 : (j : Int) < (y.kl : Int) := by omega
                  go_wp2_with fail
                  clear m3
                  go_region_held3 (fun w' => w'.cell? ⟨f, 1, none⟩ = some (.int .i64 (τ : Int)) ∧ w'.cell? ⟨f + 1, 3, none⟩ = some (.slice (some ⟨b2, o2, none⟩) y.kl k2) ∧ w'.cell? ⟨b2, o2 + j * 4, none⟩ = some (.int .u64 (z.num : Nat)) ∧ w'.cell? ⟨b2, o2 + j * 4 + 1, none⟩ = some (.string z.bs) ∧ w'.cell? ⟨b2, o2 + j * 4 + 2, none⟩ = some (.slice A3 z.nl k3) ∧ w'.cell? ⟨b2, o2 + j * 4 + 3, none⟩ = some (.slice A4 z.kl k4) ∧ XF w w.heap.size x An cn (some ⟨b, off, none⟩) ck f k (τ : Int) (f + 1) y A1 k1 (some ⟨b2, o2, none⟩) k2 w')
                    (first | exact strct_S K3.out.drew HZ4.out hlt2 | exact strct_S K4.out HZ4.out hlt2 | assumption)
                    (first
                      | (go_at_call 112; go_must (refine Calls.mono (HIH.out τ _ z A3 A4 k3 k4 _ _ htl (by omega) (by omega) (by omega) HSZ.out (Hs.out.below K3.out.drew.be) (HTZ.out.below K3.out.drew.be)) ?_); rintro e w5 ⟨rfl, hb⟩; have K4 := Lib.hid (K3.out.drew.below hb); clear hb; rw [HEE.out]))
                  all_goals
                    rcases hE3 with rfl | rfl | rfl
                    · go_wp2
                      go_roundw
                      case rel => first | exact ⟨j + 1, by omega, by go_num, Lib.hid ⟨by rw [fe, if_pos HFJ.out, HZ.out]; exact HEE.out, K4.out⟩⟩ | ((repeat apply Exists.intro); exact ⟨⟨j + 1, by omega, by go_num, Lib.hid ⟨by rw [fe, if_pos HFJ.out, HZ.out]; exact HEE.out, K4.out⟩⟩, rfl⟩)
                      case measure => simp [intOf]; omega
                    · go_wp2
                      go_ret
                      exact ⟨ret_nat (chk_retN HST.out hi1 HFE.out HY.out (by rw [HK.out]; exact HKO.out) hj1 HFJ.out HTT.out HZ.out HEE.out (by omega)), K4.out.be⟩
                    · go_wp2
                      go_ret
                      exact ⟨ret_nat (chk_retN HST.out hi1 HFE.out HY.out (by rw [HK.out]; exact HKO.out) hj1 HFJ.out HTT.out HZ.out HEE.out (by omega)), K4.out.be⟩
                · have e : j = y.kl := by omega
                  subst e
                  have HN : Hid (fe (fun i => chkF s d t i (x.kf i)) (i + 1) = 0) := Lib.hid (by rw [fe, if_pos HFE.out, HY.out, chkF, if_pos (by rw [HK.out]; exact HKO.out), HTT.out]; exact HFJ.out)
                  go_wp2
                  go_roundw
                  case rel => first | exact ⟨i + 1, by omega, by go_num, Lib.hid ⟨HN.out, K3.out.xb⟩⟩ | ((repeat apply Exists.intro); exact ⟨⟨i + 1, by omega, by go_num, Lib.hid ⟨HN.out, K3.out.xb⟩⟩, rfl⟩)
                  case measure => simp [intOf]; omega
          · have HR2 : Hid (24 = chk s (d + 1) t x) := Lib.hid (by
              have e1 : chkF s d t i (x.kf i) = 24 := by rw [chkF, HY.out, HK.out, if_neg hk]
              rw [chk_succ, if_pos HST.out, fe_at HFE.out (by rw [e1]; omega) hi1, e1])
            by_cases ho : onlyB k y = true
            · have hk' : ¬ (y.bs.size ≤ 40 ∧ y.nl ≤ 12 ∧ y.kl ≤ 12 ∧ (k = 4 → y.kl ≤ 1)) := fun h => hk (by have := (onlyB_iff _ _).1 ho; exact ⟨this.1, this.2.1, this.2.2.1, this.2.2.2, h.1, h.2.1, h.2.2.1, h.2.2.2⟩)
              rw [ho]
              clear ho hk
              by_cases p1 : y.bs.size ≤ 40
              · have d1 : decide (40 < (y.bs.size : Int)) = false := decide_eq_false (by omega)
                have d1' : decide (40 < y.bs.size) = false := decide_eq_false (by omega)
                by_cases p2 : y.nl ≤ 12
                · have d2 : decide (12 < (y.nl : Int)) = false := decide_eq_false (by omega)
                  have d2' : decide (12 < y.nl) = false := decide_eq_false (by omega)
                  have p3 : y.kl ≤ 12 := by omega
                  have d3 : decide (12 < (y.kl : Int)) = false := decide_eq_false (by omega)
                  have d3' : decide (12 < y.kl) = false := decide_eq_false (by omega)
                  have hk4 : (k == 4) = true := by
                    by_cases h : k = 4
                    · simp [h]
                    · exact absurd ⟨p1, p2, p3, fun e => absurd e h⟩ hk'
                  have d4 : decide (1 < (y.kl : Int)) = true := decide_eq_true (by
                    by_cases h : y.kl ≤ 1
                    · exact absurd ⟨p1, p2, p3, fun _ => h⟩ hk'
                    · omega)
                  have d4' : decide (1 < y.kl) = true := decide_eq_true (by
                    by_cases h : y.kl ≤ 1
                    · exact absurd ⟨p1, p2, p3, fun _ => h⟩ hk'
                    · omega)
                  clear hk'
                  go_wp2
                  go_ret
                  exact ⟨ret_nat HR2.out, K2.out.be⟩
                · have d2 : decide (12 < (y.nl : Int)) = true := decide_eq_true (by omega)
                  have d2' : decide (12 < y.nl) = true := decide_eq_true (by omega)
                  clear hk'
                  go_wp2
                  go_ret
                  exact ⟨ret_nat HR2.out, K2.out.be⟩
              · have d1 : decide (40 < (y.bs.size : Int)) = true := decide_eq_true (by omega)
                have d1' : decide (40 < y.bs.size) = true := decide_eq_true (by omega)
                clear hk'
                go_wp2
                go_ret
                exact ⟨ret_nat HR2.out, K2.out.be⟩
            · rw [show onlyB k y = false by simpa using ho]
              clear ho hk
              go_wp2
              go_ret
              exact ⟨ret_nat HR2.out, K2.out.be⟩
        · have e : i = x.kl := by omega
          subst e
          have HR2 : Hid (0 = chk s (d + 1) t x) := Lib.hid (by rw [chk_succ, if_pos HST.out, HFE.out])
          go_wp2
          go_ret
          exact ⟨ret_nat HR2.out, K1.out.be⟩
    · have HR2 : Hid (24 = chk s (d + 1) t x) := Lib.hid (by rw [chk_succ, if_neg hst])
      by_cases ho : onlyB 4 x = true
      · have hne : x.kl ≠ s.len t := fun e => hst (by have := (onlyB_iff _ _).1 ho; exact ⟨this.1 (by omega), this.2.1 (by omega), this.2.2.1 (by omega), e⟩)
        have d1 : ((x.kl : Int) != (s.len t : Int)) = true := by simp; omega
        have d2 : (x.kl != s.len t) = true := by simp; omega
        rw [ho]
        clear ho hst
        go_wp2_with fail
        go_quiet (fail)
        go_wp2
        go_ret
        exact ⟨ret_nat HR2.out, below_drewN K0.out.be _⟩
      · rw [show onlyB 4 x = false by simpa using ho]
        clear ho hst
        go_wp2_with fail
        go_quiet (fail)
        go_wp2
        go_ret
        exact ⟨ret_nat HR2.out, below_drewN K0.out.be _⟩

end Go.Proofs.YtkhbhkllnigbgaaDoor
