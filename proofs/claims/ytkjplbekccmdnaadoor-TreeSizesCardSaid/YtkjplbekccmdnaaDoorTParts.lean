/- TreeParts: what is told of a field's parts. -/
import Derived.Test.YtkjplbekccmdnaaDoorTAwake
namespace Go.Proofs.YtkjplbekccmdnaaDoor
open Go.ChangeShapes Go.WideShapes Go.ChangeAt Go.RowKit
theorem gotV_24 : gotV (0, 24) = .tuple #[.int .u64 0, .iface 49 (.int .i64 24)] := rfl
theorem gotV_12 : gotV (0, 12) = .tuple #[.int .u64 0, .iface 49 (.int .i64 12)] := rfl
theorem gotV_1 : gotV (0, 1) = .tuple #[.int .u64 0, .iface 49 (.int .i64 1)] := rfl
theorem getC_ok {s : Sch} {t : Nat} {x : Tr} (h : chkC s t x = 0) {p : List Int} (hp : p ≠ []) : getC s t x p = getT s p.length t x p := by
  rw [getC, if_pos h, if_neg hp]; rfl
theorem tget_1 (s : Sch) (A : Option Addr) (c : Nat) (t : Int) (x : Tr) (An Ak : Option Addr) (cn ck n : Nat) (i : Int) (q : Nat) (w : World) (hq : q = w.heap.size) (hs : SAt w A s) (hS : Sm n x) (hT : TAt w (fun _ => True) x An Ak) :
    Calls Tryd.prog 20 #[.slice A s.n c, .int .i64 t, (.agg #[.int .u64 ((x).num : Nat), .string (x).bs, .slice An (x).nl cn, .slice Ak (x).kl ck]), .slice (some ⟨q, 0, none⟩) 1 1] (w.alloc (.cells #[.int .i64 i] 3)) fun e w' => e = .returned (gotV (getC s t x [i])) ∧ Below (w.alloc (.cells #[.int .i64 i] 3)).heap.size (w.alloc (.cells #[.int .i64 i] 3)) w' := by
  subst hq
  exact tget_any s A c t x An Ak cn ck n _ 1 [i] _ (hs.below ((Below.refl _ _).alloc (Nat.le_refl _) _)) hS (hT.below ((Below.refl _ _).alloc (Nat.le_refl _) _)) (prow1 w i) (by simp) (by simp)
theorem tget_2 (s : Sch) (A : Option Addr) (c : Nat) (t : Int) (x : Tr) (An Ak : Option Addr) (cn ck n : Nat) (i j : Int) (q : Nat) (w : World) (hq : q = w.heap.size) (hs : SAt w A s) (hS : Sm n x) (hT : TAt w (fun _ => True) x An Ak) :
    Calls Tryd.prog 20 #[.slice A s.n c, .int .i64 t, (.agg #[.int .u64 ((x).num : Nat), .string (x).bs, .slice An (x).nl cn, .slice Ak (x).kl ck]), .slice (some ⟨q, 0, none⟩) 2 2] (w.alloc (.cells #[.int .i64 i, .int .i64 j] 3)) fun e w' => e = .returned (gotV (getC s t x [i, j])) ∧ Below (w.alloc (.cells #[.int .i64 i, .int .i64 j] 3)).heap.size (w.alloc (.cells #[.int .i64 i, .int .i64 j] 3)) w' := by
  subst hq
  exact tget_any s A c t x An Ak cn ck n _ 2 [i, j] _ (hs.below ((Below.refl _ _).alloc (Nat.le_refl _) _)) hS (hT.below ((Below.refl _ _).alloc (Nat.le_refl _) _)) (prow2 w i j) (by simp) (by simp)
theorem tget_3 (s : Sch) (A : Option Addr) (c : Nat) (t : Int) (x : Tr) (An Ak : Option Addr) (cn ck n : Nat) (i j k : Int) (q : Nat) (w : World) (hq : q = w.heap.size) (hs : SAt w A s) (hS : Sm n x) (hT : TAt w (fun _ => True) x An Ak) :
    Calls Tryd.prog 20 #[.slice A s.n c, .int .i64 t, (.agg #[.int .u64 ((x).num : Nat), .string (x).bs, .slice An (x).nl cn, .slice Ak (x).kl ck]), .slice (some ⟨q, 0, none⟩) 3 3] (w.alloc (.cells #[.int .i64 i, .int .i64 j, .int .i64 k] 3)) fun e w' => e = .returned (gotV (getC s t x [i, j, k])) ∧ Below (w.alloc (.cells #[.int .i64 i, .int .i64 j, .int .i64 k] 3)).heap.size (w.alloc (.cells #[.int .i64 i, .int .i64 j, .int .i64 k] 3)) w' := by
  subst hq
  exact tget_any s A c t x An Ak cn ck n _ 3 [i, j, k] _ (hs.below ((Below.refl _ _).alloc (Nat.le_refl _) _)) hS (hT.below ((Below.refl _ _).alloc (Nat.le_refl _) _)) (prow3 w i j k) (by simp) (by simp)
/-- What parts has at hand. -/
structure PW (w : World) (s : Sch) (A : Option Addr) (x : Tr) (An : Option Addr) (cn : Nat) (Ak : Option Addr) (ck : Nat) (y : Tr) (A1 : Option Addr) (k1 : Nat) (A2 : Option Addr) (k2 : Nat) (W : World) : Prop where
  sat : SAt W A s
  et : Cs.ErrT W
  vbox : Cell4 W w.heap.size 0 x An cn Ak ck
  kbox : Cell4 W (w.heap.size + 1) 0 y A1 k1 A2 k2
  lt : w.heap.size + 1 < W.heap.size
  tat : TAt W (fun _ => True) x An Ak
  taty : TAt W (fun _ => True) y A1 A2
  be : Below w.heap.size w W
theorem PW.below {w : World} {s : Sch} {A : Option Addr} {x : Tr} {An : Option Addr} {cn : Nat} {Ak : Option Addr} {ck : Nat} {y : Tr} {A1 : Option Addr} {k1 : Nat} {A2 : Option Addr} {k2 : Nat} {W W' : World} (h : PW w s A x An cn Ak ck y A1 k1 A2 k2 W) (hb : Below W.heap.size W W') : PW w s A x An cn Ak ck y A1 k1 A2 k2 W' :=
  have hl := h.lt
  ⟨h.sat.below hb, h.et.below hb, h.vbox.of_block (hb.block _ (by omega)), h.kbox.of_block (hb.block _ hl), Nat.lt_of_lt_of_le hl hb.size, h.tat.below hb, h.taty.below hb, Below.step h.be hb h.be.size⟩
theorem PW.step {w : World} {s : Sch} {A : Option Addr} {x : Tr} {An : Option Addr} {cn : Nat} {Ak : Option Addr} {ck : Nat} {y : Tr} {A1 : Option Addr} {k1 : Nat} {A2 : Option Addr} {k2 : Nat} {W W' : World} (h : PW w s A x An cn Ak ck y A1 k1 A2 k2 W) {o : Obj} (hb : Below (W.alloc o).heap.size (W.alloc o) W') : PW w s A x An cn Ak ck y A1 k1 A2 k2 W' := (h.below ((Below.refl _ _).alloc (Nat.le_refl _) o)).below hb
theorem PW.all {w : World} {s : Sch} {A : Option Addr} {x : Tr} {An : Option Addr} {cn : Nat} {Ak : Option Addr} {ck : Nat} {y : Tr} {A1 : Option Addr} {k1 : Nat} {A2 : Option Addr} {k2 : Nat} {W : World} (h : PW w s A x An cn Ak ck y A1 k1 A2 k2 W) : W.cell? ⟨w.heap.size, 0, none⟩ = some (.int .u64 (x.num : Nat)) ∧ W.cell? ⟨w.heap.size, 1, none⟩ = some (.string x.bs) ∧ W.cell? ⟨w.heap.size, 2, none⟩ = some (.slice An x.nl cn) ∧ W.cell? ⟨w.heap.size, 3, none⟩ = some (.slice Ak x.kl ck) ∧ W.cell? ⟨w.heap.size + 1, 0, none⟩ = some (.int .u64 (y.num : Nat)) ∧ W.cell? ⟨w.heap.size + 1, 1, none⟩ = some (.string y.bs) ∧ W.cell? ⟨w.heap.size + 1, 2, none⟩ = some (.slice A1 y.nl k1) ∧ W.cell? ⟨w.heap.size + 1, 3, none⟩ = some (.slice A2 y.kl k2) :=
  ⟨h.vbox.c0, h.vbox.c1, h.vbox.c2, h.vbox.c3, h.kbox.c0, h.kbox.c1, h.kbox.c2, h.kbox.c3⟩
theorem PW.lts {w : World} {s : Sch} {A : Option Addr} {x : Tr} {An : Option Addr} {cn : Nat} {Ak : Option Addr} {ck : Nat} {y : Tr} {A1 : Option Addr} {k1 : Nat} {A2 : Option Addr} {k2 : Nat} {W : World} (h : PW w s A x An cn Ak ck y A1 k1 A2 k2 W) : w.heap.size < W.heap.size := by have := h.lt; omega

/-- What is told of a field of a struct by numbers. -/
theorem got_1 {s : Sch} {t d : Nat} {x : Tr} (hR : RightS s) (ht : t < s.n) (h : MadeT s (d + 1) t x) (hd : d ≤ 4) {i : Nat} (hi : i < x.kl) : getC s t x [(i : Int)] = (selfT (s.k t i) (x.kf i), 0) := by
  rw [getC_ok (by rw [chkC_ok hR ht]; exact h.chk (by omega)) (by simp)]; exact getT_one hi
theorem got_2 {s : Sch} {t d : Nat} {x : Tr} (hR : RightS s) (ht : t < s.n) (h : MadeT s (d + 1) t x) (hd : d ≤ 4) {i : Nat} (hi : i < x.kl) (j : Int) (more : List Int) : getC s t x ((i : Int) :: j :: more) = getT s (more.length + 1 + 1) t x ((i : Int) :: j :: more) := by
  rw [getC_ok (by rw [chkC_ok hR ht]; exact h.chk (by omega)) (by simp)]; rfl

set_option maxRecDepth 100000 in
set_option maxHeartbeats 4000000 in
theorem parts_any (s : Sch) (hR : RightS s) (A : Option Addr) (c t d : Nat) (x : Tr) (An Ak : Option Addr) (cn ck n i : Nat) (w : World) (ht : t < s.n) (hM : MadeT s (d + 1) t x) (hd : d ≤ 4) (hS : Sm n x) (hs : SAt w A s) (hE : Cs.ErrT w) (hT : TAt w (fun _ => True) x An Ak) (hi : i < x.kl) :
    Calls Tryd.prog 19 #[.slice A s.n c, .int .i64 (t : Int), (.agg #[.int .u64 ((x).num : Nat), .string (x).bs, .slice An (x).nl cn, .slice Ak (x).kl ck]), .int .i64 (i : Int)] w fun e w' => e = .returned (.bool true) ∧ Below w.heap.size w w' := by
  have HSM := Lib.hid hS
  have hil : i < s.len t := by have := hM.1.2.2.2; omega
  have HF := Lib.hid (hM.2 i hi)
  have hx5 := hS.le.2.2.2
  obtain ⟨n, rfl⟩ := hS.pos
  have HSY := Lib.hid (hS.kid hi)
  have HG1 := Lib.hid (got_1 hR ht hM hd hi)
  have HG2 := Lib.hid (fun j more => (got_2 hR ht hM hd hi j more).trans (getT_more hi))
  obtain ⟨b, off, rfl, -, hlt, hc⟩ := hT.kids (by omega)
  obtain ⟨A1, k1, A2, k2, h4, hty⟩ := hc i hi
  obtain ⟨bs, os, rfl, hbs, hcs⟩ := hs.some_ (by omega)
  obtain ⟨Ai, ci, hct, hfr⟩ := hcs t ht
  obtain ⟨bf, of, rfl, hbf, hcf⟩ := hfr.some_ (by omega)
  have hcf1 := (hcf i hil).1
  have hcf2 := (hcf i hil).2
  have HSR := Lib.hid hR
  have HL := Lib.hid (fun τ (hτ : τ < s.n) => hcs τ hτ)
  have hfld := hR.field ht hil
  have htl := hR.tlt ht hil
  obtain ⟨LL, HLL⟩ : ∃ LL, Hid (s.len t = LL) := ⟨_, Lib.hid rfl⟩
  rw [HLL.out] at hct hil
  obtain ⟨y, HY⟩ : ∃ y, Hid (x.kf i = y) := ⟨_, Lib.hid rfl⟩
  rw [HY.out] at HF HSY HG1 HG2 h4 hty
  have H0 : Hid (PW w s (some ⟨bs, os, none⟩) x An cn (some ⟨b, off, none⟩) ck y A1 k1 A2 k2 ((w.alloc (.cells #[.int .u64 ((x).num : Nat), .string (x).bs, .slice An (x).nl cn, .slice (some ⟨b, off, none⟩) (x).kl ck] 34)).alloc (.cells #[.int .u64 ((y).num : Nat), .string (y).bs, .slice A1 (y).nl k1, .slice A2 (y).kl k2] 34))) := by
    have hb1 : Below w.heap.size w (w.alloc (.cells #[.int .u64 ((x).num : Nat), .string (x).bs, .slice An (x).nl cn, .slice (some ⟨b, off, none⟩) (x).kl ck] 34)) := by (repeat (first | with_reducible exact Below.refl _ _ | with_reducible refine Below.drew ?_ | (with_reducible refine Below.setCell ?_ ?side _; case side => exact (by first | (simp; done) | (simp; omega) | omega)) | (with_reducible refine Below.alloc ?_ ?side _; case side => exact (by first | (simp; done) | (simp; omega) | omega))))
    have hb2 : Below w.heap.size w ((w.alloc (.cells #[.int .u64 ((x).num : Nat), .string (x).bs, .slice An (x).nl cn, .slice (some ⟨b, off, none⟩) (x).kl ck] 34)).alloc (.cells #[.int .u64 ((y).num : Nat), .string (y).bs, .slice A1 (y).nl k1, .slice A2 (y).kl k2] 34)) := by (repeat (first | with_reducible exact Below.refl _ _ | with_reducible refine Below.drew ?_ | (with_reducible refine Below.setCell ?_ ?side _; case side => exact (by first | (simp; done) | (simp; omega) | omega)) | (with_reducible refine Below.alloc ?_ ?side _; case side => exact (by first | (simp; done) | (simp; omega) | omega))))
    have c1 := cell4_box w x An cn (some ⟨b, off, none⟩) ck
    have c2 := cell4_box (w.alloc (.cells #[.int .u64 ((x).num : Nat), .string (x).bs, .slice An (x).nl cn, .slice (some ⟨b, off, none⟩) (x).kl ck] 34)) y A1 k1 A2 k2
    simp only [World.size_alloc] at c2
    refine Lib.hid ⟨hs.below hb2, hE.below hb2, c1.of_block ?_, c2, by simp, hT.below hb2, hty.below hb2, hb2⟩
    exact ((Below.refl _ _).alloc (Nat.le_refl _) _).block _ (by simp)
  obtain ⟨z0, z1, z2, z3⟩ := h4
  obtain ⟨κ, HKK⟩ : ∃ κ, Hid (s.k t i = κ) := ⟨_, Lib.hid rfl⟩
  have HKO := Lib.hid HF.out.1
  rw [HKK.out] at HG1 HG2 HKO hfld hcf1
  obtain ⟨τ, HTT⟩ : ∃ τ, Hid ((s.t t i).toNat = τ) := ⟨_, Lib.hid rfl⟩
  rw [HTT.out] at HG2 htl
  have htv : s.t t i = (τ : Int) := by rw [← HTT.out]; omega
  rw [htv] at hcf2
  have HMK := Lib.hid HF.out.2.2.2.2.2.2
  rw [HTT.out] at HMK
  obtain ⟨y1, y2, y3, y4⟩ := HSY.out.le
  clear hs hE hT hS hM hR hty hc hcs hfr hcf htv
  have hii : (0 : Int) ≤ (i : Int) := by omega
  obtain rfl | rfl | rfl | rfl | rfl : κ = 1 ∨ κ = 2 ∨ κ = 3 ∨ κ = 4 ∨ κ = 5 := by omega
  · obtain ⟨-, e2, e3, e4, -⟩ := HKO.out
    have HBS0_ := Lib.hid (e2 (by omega))
    have HNL_ := Lib.hid (e3 (by omega))
    have HKL_ := Lib.hid (e4 (by omega))
    clear e2 e3 e4
    go_enter Tryd.func19, Tryd.ntmps19
    have HS1 : Hid (getC s t x [(i : Int)] = (y.num, 0)) := Lib.hid (by rw [HG1.out]; rfl)
    go_wp2_with fail
    clear z0 z1 z2 z3
    (with_reducible refine (tget_1 s _ c t x An _ cn ck _ i _ _ ?_ H0.out.sat HSM.out H0.out.tat).mono ?_)
    · simp
    rintro e w2 ⟨rfl, hb⟩
    have K1 := Lib.hid (H0.out.step hb)
    clear hb H0
    rw [HS1.out, gotV_0]
    have hbs0 := HBS0_.out
    have hnl := HNL_.out
    have hkl := HKL_.out
    obtain ⟨v0, v1, v2, v3, u0, u1, u2, u3⟩ := K1.out.all
    have l0 := K1.out.lts
    have l1 := K1.out.lt
    simp only [hnl, hkl] at u1 u2 u3
    go_wp2_with fail
    clear v0 v1 v2 v3 u0 u1 u2 u3 l0 l1
    refine (top_none _ K1.out.et).mono ?_
    rintro e w2 ⟨rfl, hb⟩
    have K2 := Lib.hid (K1.out.below hb)
    clear hb
    obtain ⟨v0, v1, v2, v3, u0, u1, u2, u3⟩ := K2.out.all
    have l0 := K2.out.lts
    have l1 := K2.out.lt
    simp only [hnl, hkl] at u1 u2 u3
    have s1 := (K2.out.be.cell (p := ⟨bs, os + t, none⟩) hbs).trans hct
    have s2 := (K2.out.be.cell (p := ⟨bf, of + i * 2, none⟩) hbf).trans hcf1
    have s3 := (K2.out.be.cell (p := ⟨bf, of + i * 2 + 1, none⟩) hbf).trans hcf2
    have HS2 : Hid (getC s t x [(i : Int), 0] = (0, 24)) := Lib.hid (by rw [HG2.out]; rfl)
    go_wp2_with fail
    clear v0 v1 v2 v3 u0 u1 u2 u3 l0 l1
    clear s1 s2 s3
    (with_reducible refine (tget_2 s _ c t x An _ cn ck _ ((i : Int)) (0) _ _ ?_ K2.out.sat HSM.out K2.out.tat).mono ?_)
    · simp
    rintro e w2 ⟨rfl, hb⟩
    have K3 := Lib.hid (K2.out.step hb)
    clear hb
    rw [HS2.out, gotV_24]
    obtain ⟨v0, v1, v2, v3, u0, u1, u2, u3⟩ := K3.out.all
    have l0 := K3.out.lts
    have l1 := K3.out.lt
    simp only [hnl, hkl] at u1 u2 u3
    go_wp2_with fail
    clear v0 v1 v2 v3 u0 u1 u2 u3 l0 l1
    refine (top_one 24 (by omega) _ K3.out.et).mono ?_
    rintro e w2 ⟨rfl, hb⟩
    have K4 := Lib.hid (K3.out.below hb)
    clear hb
    obtain ⟨v0, v1, v2, v3, u0, u1, u2, u3⟩ := K4.out.all
    have l0 := K4.out.lts
    have l1 := K4.out.lt
    go_wp2
    go_ret
    exact ⟨rfl, K4.out.be⟩
  · obtain ⟨e1, -, e3, e4, -⟩ := HKO.out
    have HNL_ := Lib.hid (e3 (by omega))
    have HKL_ := Lib.hid (e4 (by omega))
    clear e1 e3 e4
    go_enter Tryd.func19, Tryd.ntmps19
    have HS1 : Hid (getC s t x [(i : Int)] = (y.bs.size, 0)) := Lib.hid (by rw [HG1.out]; rfl)
    go_wp2_with fail
    clear z0 z1 z2 z3
    (with_reducible refine (tget_1 s _ c t x An _ cn ck _ i _ _ ?_ H0.out.sat HSM.out H0.out.tat).mono ?_)
    · simp
    rintro e w2 ⟨rfl, hb⟩
    have K1 := Lib.hid (H0.out.step hb)
    clear hb H0
    rw [HS1.out, gotV_0]
    have hnl := HNL_.out
    have hkl := HKL_.out
    obtain ⟨v0, v1, v2, v3, u0, u1, u2, u3⟩ := K1.out.all
    have l0 := K1.out.lts
    have l1 := K1.out.lt
    simp only [hnl, hkl] at u1 u2 u3
    go_wp2_with fail
    clear v0 v1 v2 v3 u0 u1 u2 u3 l0 l1
    refine (top_none _ K1.out.et).mono ?_
    rintro e w2 ⟨rfl, hb⟩
    have K2 := Lib.hid (K1.out.below hb)
    clear hb
    obtain ⟨v0, v1, v2, v3, u0, u1, u2, u3⟩ := K2.out.all
    have l0 := K2.out.lts
    have l1 := K2.out.lt
    simp only [hnl, hkl] at u1 u2 u3
    have s1 := (K2.out.be.cell (p := ⟨bs, os + t, none⟩) hbs).trans hct
    have s2 := (K2.out.be.cell (p := ⟨bf, of + i * 2, none⟩) hbf).trans hcf1
    have s3 := (K2.out.be.cell (p := ⟨bf, of + i * 2 + 1, none⟩) hbf).trans hcf2
    have HS3 : Hid (getC s t x [(i : Int), (y.bs.size : Int)] = (0, 12)) := Lib.hid (by rw [HG2.out]; simp [itemT])
    go_wp2_with fail
    clear v0 v1 v2 v3 u0 u1 u2 u3 l0 l1
    clear s1 s2 s3
    (with_reducible refine (tget_2 s _ c t x An _ cn ck _ ((i : Int)) ((y.bs.size : Int)) _ _ ?_ K2.out.sat HSM.out K2.out.tat).mono ?_)
    · simp
    rintro e w2 ⟨rfl, hb⟩
    have K3 := Lib.hid (K2.out.step hb)
    clear hb
    rw [HS3.out, gotV_12]
    obtain ⟨v0, v1, v2, v3, u0, u1, u2, u3⟩ := K3.out.all
    have l0 := K3.out.lts
    have l1 := K3.out.lt
    simp only [hnl, hkl] at u1 u2 u3
    go_wp2
    clear v0 v1 v2 v3 u0 u1 u2 u3 l0 l1
    go_loopw [23] (fun jv wr => ∃ j : Nat, j ≤ y.bs.size ∧ jv = .int .i64 j ∧ Hid (PW w s (some ⟨bs, os, none⟩) x An cn (some ⟨b, off, none⟩) ck y A1 k1 A2 k2 wr)) (fun jv _ => y.bs.size - (intOf jv).toNat)
    case atStart => exact ⟨0, by omega, rfl, K3⟩
    case round =>
      clear K3
      obtain ⟨j, hj, rfl, K5⟩ := hrel
      by_cases hj1 : j < y.bs.size
      · have hj0 : (0 : Int) ≤ (j : Int) := by omega
        have HS6 : Hid (getC s t x [(i : Int), (j : Int)] = (y.bs[j].toNat, 0)) := Lib.hid (by rw [HG2.out]; simp [itemT, hj1, byteN_at hj1])
        have HS7 : Hid (getC s t x [(i : Int), (j : Int), 0] = (0, 24)) := Lib.hid (by rw [HG2.out]; simp [itemT, hj1])
        have hwr : IntKind.u64.wrap (y.bs[j].toNat : Int) = (y.bs[j].toNat : Int) := by rw [IntKind.wrap_u64]; have := UInt8.toNat_lt y.bs[j]; omega
        obtain ⟨v0, v1, v2, v3, u0, u1, u2, u3⟩ := K5.out.all
        have l0 := K5.out.lts
        have l1 := K5.out.lt
        simp only [hnl, hkl] at u1 u2 u3
        go_wp2_with fail
        clear v0 v1 v2 v3 u0 u1 u2 u3 l0 l1
        (with_reducible refine (tget_2 s _ c t x An _ cn ck _ ((i : Int)) ((j : Int)) _ _ ?_ K5.out.sat HSM.out K5.out.tat).mono ?_)
        · simp
        rintro e w2 ⟨rfl, hb⟩
        have K6 := Lib.hid (K5.out.step hb)
        clear hb
        rw [HS6.out, gotV_0]
        obtain ⟨v0, v1, v2, v3, u0, u1, u2, u3⟩ := K6.out.all
        have l0 := K6.out.lts
        have l1 := K6.out.lt
        simp only [hnl, hkl] at u1 u2 u3
        go_wp2_with fail
        clear v0 v1 v2 v3 u0 u1 u2 u3 l0 l1
        (with_reducible refine (tget_3 s _ c t x An _ cn ck _ ((i : Int)) ((j : Int)) (0) _ _ ?_ K6.out.sat HSM.out K6.out.tat).mono ?_)
        · simp
        rintro e w2 ⟨rfl, hb⟩
        have K7 := Lib.hid (K6.out.step hb)
        clear hb
        rw [HS7.out, gotV_24]
        obtain ⟨v0, v1, v2, v3, u0, u1, u2, u3⟩ := K7.out.all
        have l0 := K7.out.lts
        have l1 := K7.out.lt
        simp only [hnl, hkl] at u1 u2 u3
        go_wp2_with fail
        clear v0 v1 v2 v3 u0 u1 u2 u3 l0 l1
        refine (top_none _ K7.out.et).mono ?_
        rintro e w2 ⟨rfl, hb⟩
        have K8 := Lib.hid (K7.out.below hb)
        clear hb
        obtain ⟨v0, v1, v2, v3, u0, u1, u2, u3⟩ := K8.out.all
        have l0 := K8.out.lts
        have l1 := K8.out.lt
        simp only [hnl, hkl] at u1 u2 u3
        go_wp2_with fail
        clear v0 v1 v2 v3 u0 u1 u2 u3 l0 l1
        refine (top_one 24 (by omega) _ K8.out.et).mono ?_
        rintro e w2 ⟨rfl, hb⟩
        have K9 := Lib.hid (K8.out.below hb)
        clear hb
        obtain ⟨v0, v1, v2, v3, u0, u1, u2, u3⟩ := K9.out.all
        have l0 := K9.out.lts
        have l1 := K9.out.lt
        go_wp2
        go_roundw
        case rel => first | exact ⟨j + 1, by omega, by go_num, K9⟩ | ((repeat apply Exists.intro); exact ⟨⟨j + 1, by omega, by go_num, K9⟩, rfl⟩)
        case measure => simp [intOf]; omega
      · have e : j = y.bs.size := by omega
        have dj : decide (j < y.bs.size) = false := by simp; omega
        obtain ⟨v0, v1, v2, v3, u0, u1, u2, u3⟩ := K5.out.all
        have l0 := K5.out.lts
        have l1 := K5.out.lt
        go_wp2_with fail
        clear v0 v1 v2 v3 u0 u1 u2 u3 l0 l1
        refine (top_one 12 (by omega) _ K5.out.et).mono ?_
        rintro e w2 ⟨rfl, hb⟩
        have K6 := Lib.hid (K5.out.below hb)
        clear hb
        obtain ⟨v0, v1, v2, v3, u0, u1, u2, u3⟩ := K6.out.all
        have l0 := K6.out.lts
        have l1 := K6.out.lt
        go_wp2
        go_ret
        exact ⟨rfl, K6.out.be⟩
  · obtain ⟨e1, e2, -, e4, -⟩ := HKO.out
    have HBS0_ := Lib.hid (e2 (by omega))
    have HKL_ := Lib.hid (e4 (by omega))
    clear e1 e2 e4
    go_enter Tryd.func19, Tryd.ntmps19
    have HS1 : Hid (getC s t x [(i : Int)] = (y.nl, 0)) := Lib.hid (by rw [HG1.out]; rfl)
    go_wp2_with fail
    clear z0 z1 z2 z3
    (with_reducible refine (tget_1 s _ c t x An _ cn ck _ i _ _ ?_ H0.out.sat HSM.out H0.out.tat).mono ?_)
    · simp
    rintro e w2 ⟨rfl, hb⟩
    have K1 := Lib.hid (H0.out.step hb)
    clear hb H0
    rw [HS1.out, gotV_0]
    have hbs0 := HBS0_.out
    have hkl := HKL_.out
    obtain ⟨v0, v1, v2, v3, u0, u1, u2, u3⟩ := K1.out.all
    have l0 := K1.out.lts
    have l1 := K1.out.lt
    simp only [hkl] at u1 u2 u3
    go_wp2_with fail
    clear v0 v1 v2 v3 u0 u1 u2 u3 l0 l1
    refine (top_none _ K1.out.et).mono ?_
    rintro e w2 ⟨rfl, hb⟩
    have K2 := Lib.hid (K1.out.below hb)
    clear hb
    obtain ⟨v0, v1, v2, v3, u0, u1, u2, u3⟩ := K2.out.all
    have l0 := K2.out.lts
    have l1 := K2.out.lt
    simp only [hkl] at u1 u2 u3
    have s1 := (K2.out.be.cell (p := ⟨bs, os + t, none⟩) hbs).trans hct
    have s2 := (K2.out.be.cell (p := ⟨bf, of + i * 2, none⟩) hbf).trans hcf1
    have s3 := (K2.out.be.cell (p := ⟨bf, of + i * 2 + 1, none⟩) hbf).trans hcf2
    have HS3 : Hid (getC s t x [(i : Int), (y.nl : Int)] = (0, 12)) := Lib.hid (by rw [HG2.out]; simp [itemT])
    go_wp2_with fail
    clear v0 v1 v2 v3 u0 u1 u2 u3 l0 l1
    clear s1 s2 s3
    (with_reducible refine (tget_2 s _ c t x An _ cn ck _ ((i : Int)) ((y.nl : Int)) _ _ ?_ K2.out.sat HSM.out K2.out.tat).mono ?_)
    · simp
    rintro e w2 ⟨rfl, hb⟩
    have K3 := Lib.hid (K2.out.step hb)
    clear hb
    rw [HS3.out, gotV_12]
    obtain ⟨v0, v1, v2, v3, u0, u1, u2, u3⟩ := K3.out.all
    have l0 := K3.out.lts
    have l1 := K3.out.lt
    simp only [hkl] at u1 u2 u3
    go_wp2
    clear v0 v1 v2 v3 u0 u1 u2 u3 l0 l1
    go_loopw [23] (fun jv wr => ∃ j : Nat, j ≤ y.nl ∧ jv = .int .i64 j ∧ Hid (PW w s (some ⟨bs, os, none⟩) x An cn (some ⟨b, off, none⟩) ck y A1 k1 A2 k2 wr)) (fun jv _ => y.nl - (intOf jv).toNat)
    case atStart => exact ⟨0, by omega, rfl, K3⟩
    case round =>
      clear K3
      obtain ⟨j, hj, rfl, K5⟩ := hrel
      by_cases hj1 : j < y.nl
      · have hj0 : (0 : Int) ≤ (j : Int) := by omega
        have HS6 : Hid (getC s t x [(i : Int), (j : Int)] = (y.nf j, 0)) := Lib.hid (by rw [HG2.out]; simp [itemT, hj1])
        have HS7 : Hid (getC s t x [(i : Int), (j : Int), 0] = (0, 24)) := Lib.hid (by rw [HG2.out]; simp [itemT, hj1])
        obtain ⟨v0, v1, v2, v3, u0, u1, u2, u3⟩ := K5.out.all
        have l0 := K5.out.lts
        have l1 := K5.out.lt
        simp only [hkl] at u1 u2 u3
        go_wp2_with fail
        clear v0 v1 v2 v3 u0 u1 u2 u3 l0 l1
        (with_reducible refine (tget_2 s _ c t x An _ cn ck _ ((i : Int)) ((j : Int)) _ _ ?_ K5.out.sat HSM.out K5.out.tat).mono ?_)
        · simp
        rintro e w2 ⟨rfl, hb⟩
        have K6 := Lib.hid (K5.out.step hb)
        clear hb
        rw [HS6.out, gotV_0]
        obtain ⟨v0, v1, v2, v3, u0, u1, u2, u3⟩ := K6.out.all
        have l0 := K6.out.lts
        have l1 := K6.out.lt
        simp only [hkl] at u1 u2 u3
        go_wp2_with fail
        clear v0 v1 v2 v3 u0 u1 u2 u3 l0 l1
        (with_reducible refine (tget_3 s _ c t x An _ cn ck _ ((i : Int)) ((j : Int)) (0) _ _ ?_ K6.out.sat HSM.out K6.out.tat).mono ?_)
        · simp
        rintro e w2 ⟨rfl, hb⟩
        have K7 := Lib.hid (K6.out.step hb)
        clear hb
        rw [HS7.out, gotV_24]
        obtain ⟨v0, v1, v2, v3, u0, u1, u2, u3⟩ := K7.out.all
        have l0 := K7.out.lts
        have l1 := K7.out.lt
        simp only [hkl] at u1 u2 u3
        go_wp2_with fail
        clear v0 v1 v2 v3 u0 u1 u2 u3 l0 l1
        refine (top_none _ K7.out.et).mono ?_
        rintro e w2 ⟨rfl, hb⟩
        have K8 := Lib.hid (K7.out.below hb)
        clear hb
        obtain ⟨v0, v1, v2, v3, u0, u1, u2, u3⟩ := K8.out.all
        have l0 := K8.out.lts
        have l1 := K8.out.lt
        simp only [hkl] at u1 u2 u3
        obtain ⟨bn, on, rfl, hbn, hcn⟩ := K8.out.taty.nums.some_ (by omega)
        have hcj := hcn j hj1
        clear hcn
        go_wp2_with fail
        clear v0 v1 v2 v3 u0 u1 u2 u3 l0 l1
        refine (top_one 24 (by omega) _ K8.out.et).mono ?_
        rintro e w2 ⟨rfl, hb⟩
        have K9 := Lib.hid (K8.out.below hb)
        clear hb
        obtain ⟨v0, v1, v2, v3, u0, u1, u2, u3⟩ := K9.out.all
        have l0 := K9.out.lts
        have l1 := K9.out.lt
        go_wp2
        go_roundw
        case rel => first | exact ⟨j + 1, by omega, by go_num, K9⟩ | ((repeat apply Exists.intro); exact ⟨⟨j + 1, by omega, by go_num, K9⟩, rfl⟩)
        case measure => simp [intOf]; omega
      · have e : j = y.nl := by omega
        have dj : decide (j < y.nl) = false := by simp; omega
        obtain ⟨v0, v1, v2, v3, u0, u1, u2, u3⟩ := K5.out.all
        have l0 := K5.out.lts
        have l1 := K5.out.lt
        go_wp2_with fail
        clear v0 v1 v2 v3 u0 u1 u2 u3 l0 l1
        refine (top_one 12 (by omega) _ K5.out.et).mono ?_
        rintro e w2 ⟨rfl, hb⟩
        have K6 := Lib.hid (K5.out.below hb)
        clear hb
        obtain ⟨v0, v1, v2, v3, u0, u1, u2, u3⟩ := K6.out.all
        have l0 := K6.out.lts
        have l1 := K6.out.lt
        go_wp2
        go_ret
        exact ⟨rfl, K6.out.be⟩
  · obtain ⟨e1, e2, e3, -, -, -, -, e8⟩ := HKO.out
    have HBS0_ := Lib.hid (e2 (by omega))
    have HNL_ := Lib.hid (e3 (by omega))
    have HK1_ := Lib.hid (e8 rfl)
    clear e1 e2 e3 e8
    go_enter Tryd.func19, Tryd.ntmps19
    have HS1 : Hid (getC s t x [(i : Int)] = (y.kl, 0)) := Lib.hid (by rw [HG1.out]; rfl)
    go_wp2_with fail
    clear z0 z1 z2 z3
    (with_reducible refine (tget_1 s _ c t x An _ cn ck _ i _ _ ?_ H0.out.sat HSM.out H0.out.tat).mono ?_)
    · simp
    rintro e w2 ⟨rfl, hb⟩
    have K1 := Lib.hid (H0.out.step hb)
    clear hb H0
    rw [HS1.out, gotV_0]
    have hbs0 := HBS0_.out
    have hnl := HNL_.out
    have hk1 := HK1_.out
    obtain ⟨v0, v1, v2, v3, u0, u1, u2, u3⟩ := K1.out.all
    have l0 := K1.out.lts
    have l1 := K1.out.lt
    simp only [hnl] at u1 u2 u3
    go_wp2_with fail
    clear v0 v1 v2 v3 u0 u1 u2 u3 l0 l1
    refine (top_none _ K1.out.et).mono ?_
    rintro e w2 ⟨rfl, hb⟩
    have K2 := Lib.hid (K1.out.below hb)
    clear hb
    obtain ⟨v0, v1, v2, v3, u0, u1, u2, u3⟩ := K2.out.all
    have l0 := K2.out.lts
    have l1 := K2.out.lt
    simp only [hnl] at u1 u2 u3
    have s1 := (K2.out.be.cell (p := ⟨bs, os + t, none⟩) hbs).trans hct
    have s2 := (K2.out.be.cell (p := ⟨bf, of + i * 2, none⟩) hbf).trans hcf1
    have s3 := (K2.out.be.cell (p := ⟨bf, of + i * 2 + 1, none⟩) hbf).trans hcf2
    by_cases hkz : y.kl = 1
    · have hdd : ∃ e, d = e + 1 := by
        have h := HMK.out 0 (by omega)
        cases d with
        | zero => exact absurd h (by simp [MadeT])
        | succ e => exact ⟨e, rfl⟩
      obtain ⟨e, rfl⟩ := hdd
      have hmk := HMK.out 0 (by omega)
      have hzl : 0 < (y.kf 0).kl := by rw [hmk.1.2.2.2]; exact (HSR.out.2.2 τ htl).1
      have HS5 : Hid (getC s τ (y.kf 0) [0] = (selfT (s.k τ 0) ((y.kf 0).kf 0), 0)) := Lib.hid (got_1 HSR.out htl hmk (by omega) hzl)
      have HS4 : Hid (getC s t x [(i : Int), 0] = (selfT (s.k τ 0) ((y.kf 0).kf 0), 0)) := Lib.hid (by rw [HG2.out]; simp only [show ((4 : Int) = 1) = False by simp, show ((4 : Int) = 2) = False by simp, show ((4 : Int) = 3) = False by simp, if_false, if_true]; rw [if_pos (by omega)]; exact getT_one hzl)
      obtain ⟨S, HSS⟩ : ∃ S, Hid (selfT (s.k τ 0) ((y.kf 0).kf 0) = S) := ⟨_, Lib.hid rfl⟩
      rw [HSS.out] at HS4 HS5
      simp only [hkz] at u3
      have hk0 : (0 : Int) < (y.kl : Int) := by omega
      go_wp2_with fail
      clear v0 v1 v2 v3 u0 u1 u2 u3 l0 l1
      clear s1 s2 s3
      (with_reducible refine (tget_2 s _ c t x An _ cn ck _ ((i : Int)) (0) _ _ ?_ K2.out.sat HSM.out K2.out.tat).mono ?_)
      · simp
      rintro e w2 ⟨rfl, hb⟩
      have K3 := Lib.hid (K2.out.step hb)
      clear hb
      rw [HS4.out, gotV_0]
      obtain ⟨v0, v1, v2, v3, u0, u1, u2, u3⟩ := K3.out.all
      have l0 := K3.out.lts
      have l1 := K3.out.lt
      simp only [hnl, hkz] at u1 u2 u3
      obtain ⟨b2, o2, rfl, -, hlt2, hc2⟩ := K3.out.taty.kids (by omega)
      obtain ⟨A3, k3, A4, k4, h4, htz⟩ := hc2 0 (by omega)
      obtain ⟨z0, z1, z2, z3⟩ := h4
      simp only [Nat.zero_mul, Nat.add_zero] at z0 z1 z2 z3
      have HTZ := Lib.hid htz
      obtain ⟨n, rfl⟩ := HSY.out.pos
      have HSZ := Lib.hid (HSY.out.kid (show 0 < y.kl by omega))
      obtain ⟨z, HZ⟩ : ∃ z, Hid (y.kf 0 = z) := ⟨_, Lib.hid rfl⟩
      rw [HZ.out] at z0 z1 z2 z3 HTZ HSZ HS5
      clear hc2 htz hmk hzl
      go_wp2_with fail
      clear v0 v1 v2 v3 u0 u1 u2 u3 l0 l1
      clear z0 z1 z2 z3
      (with_reducible refine (tget_1 s _ c τ z A3 A4 k3 k4 _ (0) _ _ ?_ K3.out.sat HSZ.out HTZ.out).mono ?_)
      · simp
      rintro e w2 ⟨rfl, hb⟩
      have K4 := Lib.hid (K3.out.step hb)
      clear hb
      rw [HS5.out, gotV_0]
      obtain ⟨v0, v1, v2, v3, u0, u1, u2, u3⟩ := K4.out.all
      have l0 := K4.out.lts
      have l1 := K4.out.lt
      go_wp2_with fail
      clear v0 v1 v2 v3 u0 u1 u2 u3 l0 l1
      refine (top_none _ K4.out.et).mono ?_
      rintro e w2 ⟨rfl, hb⟩
      have K5 := Lib.hid (K4.out.below hb)
      clear hb
      obtain ⟨v0, v1, v2, v3, u0, u1, u2, u3⟩ := K5.out.all
      have l0 := K5.out.lts
      have l1 := K5.out.lt
      go_wp2_with fail
      clear v0 v1 v2 v3 u0 u1 u2 u3 l0 l1
      refine (top_none _ K5.out.et).mono ?_
      rintro e w2 ⟨rfl, hb⟩
      have K6 := Lib.hid (K5.out.below hb)
      clear hb
      obtain ⟨v0, v1, v2, v3, u0, u1, u2, u3⟩ := K6.out.all
      have l0 := K6.out.lts
      have l1 := K6.out.lt
      go_wp2
      go_ret
      exact ⟨rfl, K6.out.be⟩
    · have hkz0 : y.kl = 0 := by omega
      have HKZ0 := Lib.hid hkz0
      simp only [hkz0] at u3
      have HS3 : Hid (getC s t x [(i : Int), 0] = (0, 12)) := Lib.hid (by rw [HG2.out]; simp [hkz0])
      go_wp2_with fail
      clear v0 v1 v2 v3 u0 u1 u2 u3 l0 l1
      clear s1 s2 s3
      (with_reducible refine (tget_2 s _ c t x An _ cn ck _ ((i : Int)) (0) _ _ ?_ K2.out.sat HSM.out K2.out.tat).mono ?_)
      · simp
      rintro e w2 ⟨rfl, hb⟩
      have K3 := Lib.hid (K2.out.step hb)
      clear hb
      rw [HS3.out, gotV_12]
      obtain ⟨v0, v1, v2, v3, u0, u1, u2, u3⟩ := K3.out.all
      have l0 := K3.out.lts
      have l1 := K3.out.lt
      simp only [hnl, hkz0] at u1 u2 u3
      go_wp2
      clear v0 v1 v2 v3 u0 u1 u2 u3 l0 l1
      go_loopw [23] (fun jv wr => jv = .int .i64 0 ∧ Hid (PW w s (some ⟨bs, os, none⟩) x An cn (some ⟨b, off, none⟩) ck y A1 k1 A2 k2 wr)) (fun _ _ => 0)
      case atStart => exact ⟨rfl, K3⟩
      case round =>
        obtain ⟨rfl, K5⟩ := hrel
        obtain ⟨v0, v1, v2, v3, u0, u1, u2, u3⟩ := K5.out.all
        have l0 := K5.out.lts
        have l1 := K5.out.lt
        go_wp2_with fail
        clear v0 v1 v2 v3 u0 u1 u2 u3 l0 l1
        refine (top_one 12 (by omega) _ K5.out.et).mono ?_
        rintro e w2 ⟨rfl, hb⟩
        have K6 := Lib.hid (K5.out.below hb)
        clear hb
        obtain ⟨v0, v1, v2, v3, u0, u1, u2, u3⟩ := K6.out.all
        have l0 := K6.out.lts
        have l1 := K6.out.lt
        go_wp2
        go_ret
        exact ⟨rfl, K6.out.be⟩
  · obtain ⟨e1, e2, e3, -, -⟩ := HKO.out
    have HBS0_ := Lib.hid (e2 (by omega))
    have HNL_ := Lib.hid (e3 (by omega))
    clear e1 e2 e3
    go_enter Tryd.func19, Tryd.ntmps19
    have HS1 : Hid (getC s t x [(i : Int)] = (y.kl, 0)) := Lib.hid (by rw [HG1.out]; rfl)
    go_wp2_with fail
    clear z0 z1 z2 z3
    (with_reducible refine (tget_1 s _ c t x An _ cn ck _ i _ _ ?_ H0.out.sat HSM.out H0.out.tat).mono ?_)
    · simp
    rintro e w2 ⟨rfl, hb⟩
    have K1 := Lib.hid (H0.out.step hb)
    clear hb H0
    rw [HS1.out, gotV_0]
    have hbs0 := HBS0_.out
    have hnl := HNL_.out
    obtain ⟨v0, v1, v2, v3, u0, u1, u2, u3⟩ := K1.out.all
    have l0 := K1.out.lts
    have l1 := K1.out.lt
    simp only [hnl] at u1 u2 u3
    go_wp2_with fail
    clear v0 v1 v2 v3 u0 u1 u2 u3 l0 l1
    refine (top_none _ K1.out.et).mono ?_
    rintro e w2 ⟨rfl, hb⟩
    have K2 := Lib.hid (K1.out.below hb)
    clear hb
    obtain ⟨v0, v1, v2, v3, u0, u1, u2, u3⟩ := K2.out.all
    have l0 := K2.out.lts
    have l1 := K2.out.lt
    simp only [hnl] at u1 u2 u3
    have s1 := (K2.out.be.cell (p := ⟨bs, os + t, none⟩) hbs).trans hct
    have s2 := (K2.out.be.cell (p := ⟨bf, of + i * 2, none⟩) hbf).trans hcf1
    have s3 := (K2.out.be.cell (p := ⟨bf, of + i * 2 + 1, none⟩) hbf).trans hcf2
    have HS3 : Hid (getC s t x [(i : Int), (y.kl : Int)] = (0, 12)) := Lib.hid (by rw [HG2.out]; simp)
    go_wp2_with fail
    clear v0 v1 v2 v3 u0 u1 u2 u3 l0 l1
    clear s1 s2 s3
    (with_reducible refine (tget_2 s _ c t x An _ cn ck _ ((i : Int)) ((y.kl : Int)) _ _ ?_ K2.out.sat HSM.out K2.out.tat).mono ?_)
    · simp
    rintro e w2 ⟨rfl, hb⟩
    have K3 := Lib.hid (K2.out.step hb)
    clear hb
    rw [HS3.out, gotV_12]
    obtain ⟨v0, v1, v2, v3, u0, u1, u2, u3⟩ := K3.out.all
    have l0 := K3.out.lts
    have l1 := K3.out.lt
    simp only [hnl] at u1 u2 u3
    go_wp2
    clear v0 v1 v2 v3 u0 u1 u2 u3 l0 l1
    go_loopw [23] (fun jv wr => ∃ j : Nat, j ≤ y.kl ∧ jv = .int .i64 j ∧ Hid (PW w s (some ⟨bs, os, none⟩) x An cn (some ⟨b, off, none⟩) ck y A1 k1 A2 k2 wr)) (fun jv _ => y.kl - (intOf jv).toNat)
    case atStart => exact ⟨0, by omega, rfl, K3⟩
    case round =>
      clear K3
      obtain ⟨j, hj, rfl, K5⟩ := hrel
      by_cases hj1 : j < y.kl
      · have hj0 : (0 : Int) ≤ (j : Int) := by omega
        have hmk := HMK.out j hj1
        obtain ⟨e, rfl⟩ : ∃ e, d = e + 1 := by
          cases d with
          | zero => exact absurd hmk (by simp [MadeT])
          | succ e => exact ⟨e, rfl⟩
        have hzk := hmk.1.2.2.2
        have hzl : 0 < (y.kf j).kl := by rw [hzk]; exact (HSR.out.2.2 τ htl).1
        have HS6 : Hid (getC s t x [(i : Int), (j : Int)] = (s.len τ, 0)) := Lib.hid (by rw [HG2.out]; simp [hj1, hzk])
        have HS7 : Hid (getC s t x [(i : Int), (j : Int), 0] = (selfT (s.k τ 0) ((y.kf j).kf 0), 0)) := Lib.hid (by rw [HG2.out]; simp only [show ((5 : Int) = 1) = False by simp, show ((5 : Int) = 2) = False by simp, show ((5 : Int) = 3) = False by simp, show ((5 : Int) = 4) = False by simp, if_false]; rw [if_pos (by omega), if_neg (by simp)]; exact getT_one hzl)
        have hl6 := (HSR.out.2.2 τ htl).2.1
        obtain ⟨Lτ, HLτ⟩ : ∃ Lτ, Hid (s.len τ = Lτ) := ⟨_, Lib.hid rfl⟩
        obtain ⟨At, ct, hAt, -⟩ := HL.out τ htl
        rw [HLτ.out] at HS6 hAt hl6
        clear hmk hzk hzl
        obtain ⟨v0, v1, v2, v3, u0, u1, u2, u3⟩ := K5.out.all
        have l0 := K5.out.lts
        have l1 := K5.out.lt
        simp only [hnl] at u1 u2 u3
        go_wp2_with fail
        clear v0 v1 v2 v3 u0 u1 u2 u3 l0 l1
        (with_reducible refine (tget_2 s _ c t x An _ cn ck _ ((i : Int)) ((j : Int)) _ _ ?_ K5.out.sat HSM.out K5.out.tat).mono ?_)
        · simp
        rintro e w2 ⟨rfl, hb⟩
        have K6 := Lib.hid (K5.out.step hb)
        clear hb
        rw [HS6.out, gotV_0]
        obtain ⟨v0, v1, v2, v3, u0, u1, u2, u3⟩ := K6.out.all
        have l0 := K6.out.lts
        have l1 := K6.out.lt
        simp only [hnl] at u1 u2 u3
        go_wp2_with fail
        clear v0 v1 v2 v3 u0 u1 u2 u3 l0 l1
        (with_reducible refine (tget_3 s _ c t x An _ cn ck _ ((i : Int)) ((j : Int)) (0) _ _ ?_ K6.out.sat HSM.out K6.out.tat).mono ?_)
        · simp
        rintro e w2 ⟨rfl, hb⟩
        have K7 := Lib.hid (K6.out.step hb)
        clear hb
        rw [HS7.out, gotV_0]
        obtain ⟨v0, v1, v2, v3, u0, u1, u2, u3⟩ := K7.out.all
        have l0 := K7.out.lts
        have l1 := K7.out.lt
        simp only [hnl] at u1 u2 u3
        go_wp2_with fail
        clear v0 v1 v2 v3 u0 u1 u2 u3 l0 l1
        refine (top_none _ K7.out.et).mono ?_
        rintro e w2 ⟨rfl, hb⟩
        have K8 := Lib.hid (K7.out.below hb)
        clear hb
        obtain ⟨v0, v1, v2, v3, u0, u1, u2, u3⟩ := K8.out.all
        have l0 := K8.out.lts
        have l1 := K8.out.lt
        simp only [hnl] at u1 u2 u3
        have s4 := (K8.out.be.cell (p := ⟨bs, os + τ, none⟩) hbs).trans hAt
        go_wp2_with fail
        clear v0 v1 v2 v3 u0 u1 u2 u3 l0 l1
        refine (top_none _ K8.out.et).mono ?_
        rintro e w2 ⟨rfl, hb⟩
        have K9 := Lib.hid (K8.out.below hb)
        clear hb
        obtain ⟨v0, v1, v2, v3, u0, u1, u2, u3⟩ := K9.out.all
        have l0 := K9.out.lts
        have l1 := K9.out.lt
        go_wp2
        go_roundw
        case rel => first | exact ⟨j + 1, by omega, by go_num, K9⟩ | ((repeat apply Exists.intro); exact ⟨⟨j + 1, by omega, by go_num, K9⟩, rfl⟩)
        case measure => simp [intOf]; omega
      · have e : j = y.kl := by omega
        have dj : decide (j < y.kl) = false := by simp; omega
        obtain ⟨v0, v1, v2, v3, u0, u1, u2, u3⟩ := K5.out.all
        have l0 := K5.out.lts
        have l1 := K5.out.lt
        go_wp2_with fail
        clear v0 v1 v2 v3 u0 u1 u2 u3 l0 l1
        refine (top_one 12 (by omega) _ K5.out.et).mono ?_
        rintro e w2 ⟨rfl, hb⟩
        have K6 := Lib.hid (K5.out.below hb)
        clear hb
        obtain ⟨v0, v1, v2, v3, u0, u1, u2, u3⟩ := K6.out.all
        have l0 := K6.out.lts
        have l1 := K6.out.lt
        go_wp2
        go_ret
        exact ⟨rfl, K6.out.be⟩

end Go.Proofs.YtkjplbekccmdnaaDoor
