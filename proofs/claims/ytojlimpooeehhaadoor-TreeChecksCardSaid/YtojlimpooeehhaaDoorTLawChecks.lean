/- TreeChecks: the law's walk. -/
import Derived.Test.YtojlimpooeehhaaDoorTChecks
namespace Go.Proofs.YtojlimpooeehhaaDoor
open Go.ChangeShapes Go.WideShapes Go.ChangeAt Go.RowKit
/-- Two trees in their boxes, and a schema. -/
structure L2 (w : World) (s : Sch) (A : Option Addr) (q1 : Nat) (v : Tr) (Vn : Option Addr) (vn : Nat) (Vk : Option Addr) (vk : Nat) (q2 : Nat) (x : Tr) (Xn : Option Addr) (xn : Nat) (Xk : Option Addr) (xk : Nat) (W : World) : Prop where
  be : Below w.heap.size w W
  sat : SAt W A s
  et : Cs.ErrT W
  b1 : Cell4 W q1 0 v Vn vn Vk vk
  b2 : Cell4 W q2 0 x Xn xn Xk xk
  l1 : q1 < W.heap.size
  l2 : q2 < W.heap.size
  t1 : TAt W (fun _ => True) v Vn Vk
  t2 : TAt W (fun _ => True) x Xn Xk
theorem L2.below {w : World} {s : Sch} {A : Option Addr} {q1 : Nat} {v : Tr} {Vn : Option Addr} {vn : Nat} {Vk : Option Addr} {vk : Nat} {q2 : Nat} {x : Tr} {Xn : Option Addr} {xn : Nat} {Xk : Option Addr} {xk : Nat} {W W' : World} (h : L2 w s A q1 v Vn vn Vk vk q2 x Xn xn Xk xk W) (hb : Below W.heap.size W W') : L2 w s A q1 v Vn vn Vk vk q2 x Xn xn Xk xk W' :=
  ⟨Below.step h.be hb h.be.size, h.sat.below hb, h.et.below hb, h.b1.of_block (hb.block _ h.l1), h.b2.of_block (hb.block _ h.l2), Nat.lt_of_lt_of_le h.l1 hb.size, Nat.lt_of_lt_of_le h.l2 hb.size, h.t1.below hb, h.t2.below hb⟩
theorem L2.alloc {w : World} {s : Sch} {A : Option Addr} {q1 : Nat} {v : Tr} {Vn : Option Addr} {vn : Nat} {Vk : Option Addr} {vk : Nat} {q2 : Nat} {x : Tr} {Xn : Option Addr} {xn : Nat} {Xk : Option Addr} {xk : Nat} {W : World} {o : Obj} (H : Hid (L2 w s A q1 v Vn vn Vk vk q2 x Xn xn Xk xk W)) : Hid (L2 w s A q1 v Vn vn Vk vk q2 x Xn xn Xk xk (W.alloc o)) := Lib.hid (H.out.below ((Below.refl _ _).alloc (Nat.le_refl _) o))
theorem L2.allH {w : World} {s : Sch} {A : Option Addr} {q1 : Nat} {v : Tr} {Vn : Option Addr} {vn : Nat} {Vk : Option Addr} {vk : Nat} {q2 : Nat} {x : Tr} {Xn : Option Addr} {xn : Nat} {Xk : Option Addr} {xk : Nat} {W : World} (H : Hid (L2 w s A q1 v Vn vn Vk vk q2 x Xn xn Xk xk W)) : W.cell? ⟨q1, 0, none⟩ = some (.int .u64 (v.num : Nat)) ∧ W.cell? ⟨q1, 1, none⟩ = some (.string v.bs) ∧ W.cell? ⟨q1, 2, none⟩ = some (.slice Vn v.nl vn) ∧ W.cell? ⟨q1, 3, none⟩ = some (.slice Vk v.kl vk) ∧ W.cell? ⟨q2, 0, none⟩ = some (.int .u64 (x.num : Nat)) ∧ W.cell? ⟨q2, 1, none⟩ = some (.string x.bs) ∧ W.cell? ⟨q2, 2, none⟩ = some (.slice Xn x.nl xn) ∧ W.cell? ⟨q2, 3, none⟩ = some (.slice Xk x.kl xk) ∧ Hid (L2 w s A q1 v Vn vn Vk vk q2 x Xn xn Xk xk W) := ⟨H.out.b1.c0, H.out.b1.c1, H.out.b1.c2, H.out.b1.c3, H.out.b2.c0, H.out.b2.c1, H.out.b2.c2, H.out.b2.c3, H⟩
theorem L2.checks1 {w : World} {s : Sch} {A : Option Addr} {q1 : Nat} {v : Tr} {Vn : Option Addr} {vn : Nat} {Vk : Option Addr} {vk : Nat} {q2 : Nat} {x : Tr} {Xn : Option Addr} {xn : Nat} {Xk : Option Addr} {xk : Nat} {W : World} {c n : Nat} {t : Int} (hS : Sm (2 * n) v) (hn : n ≤ 6) (H : Hid (L2 w s A q1 v Vn vn Vk vk q2 x Xn xn Xk xk W)) : Calls Tryd.prog 15 #[.slice A s.n c, .int .i64 t, (.agg #[.int .u64 ((v).num : Nat), .string (v).bs, .slice Vn (v).nl vn, .slice Vk (v).kl vk])] W fun e W' => e = .returned (.bool true) ∧ Hid (L2 w s A q1 v Vn vn Vk vk q2 x Xn xn Xk xk W') :=
  (checks_any s A c t v Vn Vk vn vk n W H.out.et H.out.sat hS hn H.out.t1).mono fun e W' ⟨he, hb⟩ => ⟨he, Lib.hid (H.out.below hb)⟩
theorem L2.checks2 {w : World} {s : Sch} {A : Option Addr} {q1 : Nat} {v : Tr} {Vn : Option Addr} {vn : Nat} {Vk : Option Addr} {vk : Nat} {q2 : Nat} {x : Tr} {Xn : Option Addr} {xn : Nat} {Xk : Option Addr} {xk : Nat} {W : World} {c n : Nat} {t : Int} (hS : Sm (2 * n) x) (hn : n ≤ 6) (H : Hid (L2 w s A q1 v Vn vn Vk vk q2 x Xn xn Xk xk W)) : Calls Tryd.prog 15 #[.slice A s.n c, .int .i64 t, (.agg #[.int .u64 ((x).num : Nat), .string (x).bs, .slice Xn (x).nl xn, .slice Xk (x).kl xk])] W fun e W' => e = .returned (.bool true) ∧ Hid (L2 w s A q1 v Vn vn Vk vk q2 x Xn xn Xk xk W') :=
  (checks_any s A c t x Xn Xk xn xk n W H.out.et H.out.sat hS hn H.out.t2).mono fun e W' ⟨he, hb⟩ => ⟨he, Lib.hid (H.out.below hb)⟩
theorem L2.checks0 {w : World} {s : Sch} {A : Option Addr} {q1 : Nat} {v : Tr} {Vn : Option Addr} {vn : Nat} {Vk : Option Addr} {vk : Nat} {q2 : Nat} {x : Tr} {Xn : Option Addr} {xn : Nat} {Xk : Option Addr} {xk : Nat} {W : World} {B : Option Addr} {c n : Nat} {t : Int} (hS : Sm (2 * n) v) (hn : n ≤ 6) (H : Hid (L2 w s A q1 v Vn vn Vk vk q2 x Xn xn Xk xk W)) : Calls Tryd.prog 15 #[.slice B 0 c, .int .i64 t, (.agg #[.int .u64 ((v).num : Nat), .string (v).bs, .slice Vn (v).nl vn, .slice Vk (v).kl vk])] W fun e W' => e = .returned (.bool true) ∧ Hid (L2 w s A q1 v Vn vn Vk vk q2 x Xn xn Xk xk W') :=
  (checks_any ⟨0, fun _ => 0, fun _ _ => 0, fun _ _ => 0⟩ B c t v Vn Vk vn vk n W H.out.et ⟨fun h => absurd h (Nat.lt_irrefl 0)⟩ hS hn H.out.t1).mono fun e W' ⟨he, hb⟩ => ⟨he, Lib.hid (H.out.below hb)⟩
theorem L2.deep1 {w : World} {s : Sch} {A : Option Addr} {q1 : Nat} {v : Tr} {Vn : Option Addr} {vn : Nat} {Vk : Option Addr} {vk : Nat} {q2 : Nat} {x : Tr} {Xn : Option Addr} {xn : Nat} {Xk : Option Addr} {xk : Nat} {W : World} {n D : Nat} (hS : Sm (2 * n) v) (hn : n ≤ 6) (hD : dp true v = D) (H : Hid (L2 w s A q1 v Vn vn Vk vk q2 x Xn xn Xk xk W)) : Calls Tryd.prog 16 #[(.agg #[.int .u64 ((v).num : Nat), .string (v).bs, .slice Vn (v).nl vn, .slice Vk (v).kl vk])] W fun e W' => e = .returned (.int .i64 (D : Int)) ∧ Hid (L2 w s A q1 v Vn vn Vk vk q2 x Xn xn Xk xk W') := by
  subst hD
  exact (tdeep_any v Vn Vk vn vk n W hS hn H.out.t1).mono fun e W' ⟨he, hb⟩ => ⟨he, Lib.hid (H.out.below hb)⟩
theorem L2.deep2 {w : World} {s : Sch} {A : Option Addr} {q1 : Nat} {v : Tr} {Vn : Option Addr} {vn : Nat} {Vk : Option Addr} {vk : Nat} {q2 : Nat} {x : Tr} {Xn : Option Addr} {xn : Nat} {Xk : Option Addr} {xk : Nat} {W : World} {n D : Nat} (hS : Sm (2 * n) x) (hn : n ≤ 6) (hD : dp true x = D) (H : Hid (L2 w s A q1 v Vn vn Vk vk q2 x Xn xn Xk xk W)) : Calls Tryd.prog 16 #[(.agg #[.int .u64 ((x).num : Nat), .string (x).bs, .slice Xn (x).nl xn, .slice Xk (x).kl xk])] W fun e W' => e = .returned (.int .i64 (D : Int)) ∧ Hid (L2 w s A q1 v Vn vn Vk vk q2 x Xn xn Xk xk W') := by
  subst hD
  exact (tdeep_any x Xn Xk xn xk n W hS hn H.out.t2).mono fun e W' ⟨he, hb⟩ => ⟨he, Lib.hid (H.out.below hb)⟩
theorem L2.rdeep1 {w : World} {s : Sch} {A : Option Addr} {q1 : Nat} {v : Tr} {Vn : Option Addr} {vn : Nat} {Vk : Option Addr} {vk : Nat} {q2 : Nat} {x : Tr} {Xn : Option Addr} {xn : Nat} {Xk : Option Addr} {xk : Nat} {W : World} {n D : Nat} (hS : Sm (2 * n) v) (hn : n ≤ 6) (hD : dp true v = D) (H : Hid (L2 w s A q1 v Vn vn Vk vk q2 x Xn xn Xk xk W)) : Calls Tryd.prog 17 #[(.agg #[.int .u64 ((v).num : Nat), .string (v).bs, .slice Vn (v).nl vn, .slice Vk (v).kl vk])] W fun e W' => e = .returned (.int .i64 (D : Int)) ∧ Hid (L2 w s A q1 v Vn vn Vk vk q2 x Xn xn Xk xk W') := by
  subst hD
  exact (r6deep_any n v Vn Vk vn vk W hS (by omega) H.out.t1).mono fun e W' ⟨he, hb⟩ => ⟨he, Lib.hid (H.out.below hb)⟩
theorem L2.rdeep2 {w : World} {s : Sch} {A : Option Addr} {q1 : Nat} {v : Tr} {Vn : Option Addr} {vn : Nat} {Vk : Option Addr} {vk : Nat} {q2 : Nat} {x : Tr} {Xn : Option Addr} {xn : Nat} {Xk : Option Addr} {xk : Nat} {W : World} {n D : Nat} (hS : Sm (2 * n) x) (hn : n ≤ 6) (hD : dp true x = D) (H : Hid (L2 w s A q1 v Vn vn Vk vk q2 x Xn xn Xk xk W)) : Calls Tryd.prog 17 #[(.agg #[.int .u64 ((x).num : Nat), .string (x).bs, .slice Xn (x).nl xn, .slice Xk (x).kl xk])] W fun e W' => e = .returned (.int .i64 (D : Int)) ∧ Hid (L2 w s A q1 v Vn vn Vk vk q2 x Xn xn Xk xk W') := by
  subst hD
  exact (r6deep_any n x Xn Xk xn xk W hS (by omega) H.out.t2).mono fun e W' ⟨he, hb⟩ => ⟨he, Lib.hid (H.out.below hb)⟩

set_option maxRecDepth 100000 in
set_option maxHeartbeats 16000000 in
theorem lawChecks_any (A1 : Option Addr) (L1 c1 : Nat) (A2 : Option Addr) (L2' c2 : Nat) (T : Int) (how at_ n : Int) (str : ByteArray) (dn : Bool) (m2 : Int) (w : World) (hE : Cs.ErrT w) (hN1 : NumsAt w A1 L1 c1) (hN2 : NumsAt w A2 L2' c2) (hstr : str.size ≤ 9223372036854775807) :
    Calls Tryd.prog 3 #[.agg #[.slice A1 L1 c1, .slice A2 L2' c2, .int .i64 T], .agg #[.int .i64 how, .int .i64 at_, .int .i64 n, .string str, .bool dn], .int .i64 m2] w fun e w' => e = .returned (.bool true) ∧ Below w.heap.size w w' := by
  have HE := Lib.hid hE
  have H1 := Lib.hid hN1
  have H2 := Lib.hid hN2
  clear hE hN1 hN2
  have hr1 := (spec_row w A1 L1 c1 A2 L2' c2 T).alloc (.cells #[.int .i64 how, .int .i64 at_, .int .i64 n, .string str, .bool dn] 26)
  have hr3 := turn_row (w.alloc (.cells #[.slice A1 L1 c1, .slice A2 L2' c2, .int .i64 T] 24)) how at_ n str dn
  simp only [World.size_alloc] at hr3
  have R1 := Lib.hid hr1
  have R3 := Lib.hid hr3
  have HB0 : Hid (Below w.heap.size w ((w.alloc (.cells #[.slice A1 L1 c1, .slice A2 L2' c2, .int .i64 T] 24)).alloc (.cells #[.int .i64 how, .int .i64 at_, .int .i64 n, .string str, .bool dn] 26))) := Lib.hid (by (repeat (first | with_reducible exact Below.refl _ _ | with_reducible refine Below.drew ?_ | (with_reducible refine Below.setCell ?_ ?side _; case side => exact (by first | (simp; done) | (simp; omega) | omega)) | (with_reducible refine Below.alloc ?_ ?side _; case side => exact (by first | (simp; done) | (simp; omega) | omega)))))
  clear hr1 hr3
  go_enter Tryd.func3, Tryd.ntmps3
  go_wp2_with fail
  refine (awake_any _ (HE.out.below HB0.out)).mono ?_
  rintro e w1 ⟨rfl, hb⟩
  have HB1 := Lib.hid (Below.step HB0.out hb HB0.out.size)
  have R1' := Lib.hid (R1.out.of_block (hb.block _ R1.out.lt))
  have R3' := Lib.hid (R3.out.of_block (hb.block _ R3.out.lt))
  clear hb R1 R3 HB0
  have b0 : w1.cell? ⟨w.heap.size, 0, none⟩ = some (.slice A1 L1 c1) := R1'.out.cell (i := 0) (by omega)
  have b1 : w1.cell? ⟨w.heap.size, 1, none⟩ = some (.slice A2 L2' c2) := R1'.out.cell (i := 1) (by omega)
  have b2 : w1.cell? ⟨w.heap.size, 2, none⟩ = some (.int .i64 T) := R1'.out.cell (i := 2) (by omega)
  go_wp2_with fail
  clear b0 b1 b2
  refine (smade_any 5 6 A1 L1 c1 A2 L2' c2 T _ (H1.out.below HB1.out) (H2.out.below HB1.out) (by omega) (by omega) (by omega)).mono ?_
  rintro e w2 ⟨s, A, c, t, v, Vn, vn, Vk, vk, rfl, hQ⟩
  have HQ := Lib.hid hQ
  have HSV := Lib.hid hQ.sm
  have HLV : Hid (Lo 6 v) := Lib.hid (hQ.made.lo hQ.four hQ.lt (fun i j hi hj => hQ.right.tlt hi hj))
  have HB2 := Lib.hid (Below.step HB1.out hQ.be HB1.out.size)
  have R3 := Lib.hid (R3'.out.of_block (hQ.be.block _ R3'.out.lt))
  clear hQ R1' R3'
  have b0 : w2.cell? ⟨w.heap.size + 1, 0, none⟩ = some (.int .i64 how) := R3.out.cell (i := 0) (by omega)
  have b1 : w2.cell? ⟨w.heap.size + 1, 1, none⟩ = some (.int .i64 at_) := R3.out.cell (i := 1) (by omega)
  have b2 : w2.cell? ⟨w.heap.size + 1, 2, none⟩ = some (.int .i64 n) := R3.out.cell (i := 2) (by omega)
  have b3 : w2.cell? ⟨w.heap.size + 1, 3, none⟩ = some (.string str) := R3.out.cell (i := 3) (by omega)
  have b4 : w2.cell? ⟨w.heap.size + 1, 4, none⟩ = some (.bool dn) := R3.out.cell (i := 4) (by omega)
  have hlt4 := R3.out.lt
  have hne : w.heap.size + 1 ≠ w2.heap.size := by omega
  have HTV := Lib.hid ((HQ.out.tat.mono (Q := fun _ => True) fun _ _ _ => trivial).below ((Below.refl _ _).alloc (Nat.le_refl _) (.cells #[.int .u64 ((v).num : Nat), .string (v).bs, .slice Vn (v).nl vn, .slice Vk (v).kl vk] 34)))
  go_wp2_with fail
  clear b0 b1 b2 b3 b4 hne
  refine (spoilt_any how at_ n str dn hstr 6 v Vn Vk vn vk (fun _ => True) _ HLV.out HTV.out).mono ?_
  rintro e w4 ⟨x, Xn, xn, Xk, xk, rfl, hSx, -, hTx, hb⟩
  have HSX := Lib.hid hSx
  have hB24 : Below w2.heap.size w2 w4 := ((Below.refl _ _).alloc (Nat.le_refl _) _).trans ⟨hb.os, hb.tape, hb.output, hb.size, fun k hk => hb.block k (by simp; omega)⟩
  have K0 : Hid (L2 w s A w2.heap.size v Vn vn Vk vk w4.heap.size x Xn xn Xk xk (w4.alloc (.cells #[.int .u64 ((x).num : Nat), .string (x).bs, .slice Xn (x).nl xn, .slice Xk (x).kl xk] 34))) := by
    have hA : Below w4.heap.size w4 (w4.alloc (.cells #[.int .u64 ((x).num : Nat), .string (x).bs, .slice Xn (x).nl xn, .slice Xk (x).kl xk] 34)) := ((Below.refl _ _).alloc (Nat.le_refl _) _)
    have hbv := (cell4_box w2 v Vn vn Vk vk).of_block (hb.block _ (by simp))
    have hlv : w2.heap.size < w4.heap.size := by have := hb.size; simp at this; omega
    have hB4 := Below.step HB2.out hB24 HB2.out.size
    refine Lib.hid ⟨hB4.alloc hB4.size _, (HQ.out.sat.below hB24).below hA, (HE.out.below hB4).below hA, hbv.of_block (hA.block _ hlv), cell4_box w4 x Xn xn Xk xk, by simp; omega, by simp, (HTV.out.below hb).below hA, (hTx.below hA).mono fun _ _ _ => trivial⟩
  clear hSx hTx hb hB24 HTV HB2 R3 HLV HQ HB1 hlt4
  go_upto_region 4 with (fail)
  generalize w4.alloc (.cells #[.int .u64 ((x).num : Nat), .string (x).bs, .slice Xn (x).nl xn, .slice Xk (x).kl xk] 34) = W0 at K0 ⊢
  generalize w2.heap.size = q1 at K0 ⊢
  generalize w4.heap.size = q2 at K0 ⊢
  obtain ⟨v0, v1, v2, v3, x0, x1, x2, x3, -⟩ := L2.allH K0
  go_wp2_with fail
  clear v0 v1 v2 v3 x0 x1 x2 x3
  refine (L2.checks1 HSV.out (by omega) K0).mono ?_
  rintro e W1 ⟨rfl, K1⟩
  clear K0
  obtain ⟨v0, v1, v2, v3, x0, x1, x2, x3, -⟩ := L2.allH K1
  go_wp2_with fail
  clear v0 v1 v2 v3 x0 x1 x2 x3
  refine (L2.checks2 HSX.out (by omega) K1).mono ?_
  rintro e W2 ⟨rfl, K2⟩
  clear K1
  go_wp2_with fail
  have KD := Lib.hid (K2.out.below (Below.refl _ _).drew)
  obtain ⟨D1, HD1⟩ : ∃ D, Hid (dp true v = D) := ⟨_, Lib.hid rfl⟩
  obtain ⟨D2, HD2⟩ : ∃ D, Hid (dp true x = D) := ⟨_, Lib.hid rfl⟩
  go_region_held3 (fun w' => w'.cell? ⟨q1, 0, none⟩ = some (.int .u64 (v.num : Nat)) ∧ w'.cell? ⟨q1, 1, none⟩ = some (.string v.bs) ∧ w'.cell? ⟨q1, 2, none⟩ = some (.slice Vn v.nl vn) ∧ w'.cell? ⟨q1, 3, none⟩ = some (.slice Vk v.kl vk) ∧ w'.cell? ⟨q2, 0, none⟩ = some (.int .u64 (x.num : Nat)) ∧ w'.cell? ⟨q2, 1, none⟩ = some (.string x.bs) ∧ w'.cell? ⟨q2, 2, none⟩ = some (.slice Xn x.nl xn) ∧ w'.cell? ⟨q2, 3, none⟩ = some (.slice Xk x.kl xk) ∧ Hid (L2 w s A q1 v Vn vn Vk vk q2 x Xn xn Xk xk w'))
    (first | exact L2.allH (by assumption) | exact L2.allH (L2.alloc (by assumption)))
    (first
      | (go_at_call 15; (with_reducible refine (L2.checks1 HSV.out (by omega) (by first | assumption | exact L2.alloc (by assumption))).mono ?_); rintro e w5 ⟨rfl, K3⟩)
      | (go_at_call 15; (with_reducible refine (L2.checks0 HSV.out (by omega) (by first | assumption | exact L2.alloc (by assumption))).mono ?_); rintro e w5 ⟨rfl, K3⟩)
      | (go_at_call 16; (with_reducible refine (L2.deep1 HSV.out (by omega) HD1.out (by first | assumption | exact L2.alloc (by assumption))).mono ?_); rintro e w5 ⟨rfl, K3⟩)
      | (go_at_call 16; (with_reducible refine (L2.deep2 HSX.out (by omega) HD2.out (by first | assumption | exact L2.alloc (by assumption))).mono ?_); rintro e w5 ⟨rfl, K3⟩)
      | (go_at_call 17; (with_reducible refine (L2.rdeep1 HSV.out (by omega) HD1.out (by first | assumption | exact L2.alloc (by assumption))).mono ?_); rintro e w5 ⟨rfl, K3⟩)
      | (go_at_call 17; (with_reducible refine (L2.rdeep2 HSX.out (by omega) HD2.out (by first | assumption | exact L2.alloc (by assumption))).mono ?_); rintro e w5 ⟨rfl, K3⟩))
  all_goals
    go_wp2
    go_ret
    exact ⟨rfl, K3.out.be⟩

end Go.Proofs.YtojlimpooeehhaaDoor
