/- TreeSame: the law's walk. -/
import Derived.Test.YtojlimpooeehhaaDoorTSame2
import Derived.Test.YtojlimpooeehhaaDoorTSpoilt
import Derived.Test.YtojlimpooeehhaaDoorTLawB
namespace Go.Proofs.YtojlimpooeehhaaDoor
open Go.ChangeShapes Go.WideShapes Go.ChangeAt Go.RowKit
/-- Three trees in their boxes. -/
structure L3 (w : World) (q1 : Nat) (v : Tr) (Vn : Option Addr) (vn : Nat) (Vk : Option Addr) (vk : Nat) (q2 : Nat) (u : Tr) (Un : Option Addr) (un : Nat) (Uk : Option Addr) (uk : Nat) (q3 : Nat) (x : Tr) (Xn : Option Addr) (xn : Nat) (Xk : Option Addr) (xk : Nat) (W : World) : Prop where
  be : Below w.heap.size w W
  b1 : Cell4 W q1 0 v Vn vn Vk vk
  b2 : Cell4 W q2 0 u Un un Uk uk
  b3 : Cell4 W q3 0 x Xn xn Xk xk
  l1 : q1 < W.heap.size
  l2 : q2 < W.heap.size
  l3 : q3 < W.heap.size
  t1 : TAt W (fun _ => True) v Vn Vk
  t2 : TAt W (fun _ => True) u Un Uk
  t3 : TAt W (fun _ => True) x Xn Xk
theorem L3.below {w : World} {q1 : Nat} {v : Tr} {Vn : Option Addr} {vn : Nat} {Vk : Option Addr} {vk : Nat} {q2 : Nat} {u : Tr} {Un : Option Addr} {un : Nat} {Uk : Option Addr} {uk : Nat} {q3 : Nat} {x : Tr} {Xn : Option Addr} {xn : Nat} {Xk : Option Addr} {xk : Nat} {W W' : World} (h : L3 w q1 v Vn vn Vk vk q2 u Un un Uk uk q3 x Xn xn Xk xk W) (hb : Below W.heap.size W W') : L3 w q1 v Vn vn Vk vk q2 u Un un Uk uk q3 x Xn xn Xk xk W' :=
  ⟨Below.step h.be hb h.be.size, h.b1.of_block (hb.block _ h.l1), h.b2.of_block (hb.block _ h.l2), h.b3.of_block (hb.block _ h.l3), Nat.lt_of_lt_of_le h.l1 hb.size, Nat.lt_of_lt_of_le h.l2 hb.size, Nat.lt_of_lt_of_le h.l3 hb.size, h.t1.below hb, h.t2.below hb, h.t3.below hb⟩
theorem L3.all {w : World} {q1 : Nat} {v : Tr} {Vn : Option Addr} {vn : Nat} {Vk : Option Addr} {vk : Nat} {q2 : Nat} {u : Tr} {Un : Option Addr} {un : Nat} {Uk : Option Addr} {uk : Nat} {q3 : Nat} {x : Tr} {Xn : Option Addr} {xn : Nat} {Xk : Option Addr} {xk : Nat} {W : World} (H : Hid (L3 w q1 v Vn vn Vk vk q2 u Un un Uk uk q3 x Xn xn Xk xk W)) : W.cell? ⟨q1, 0, none⟩ = some (.int .u64 (v.num : Nat)) ∧ W.cell? ⟨q1, 1, none⟩ = some (.string v.bs) ∧ W.cell? ⟨q1, 2, none⟩ = some (.slice Vn v.nl vn) ∧ W.cell? ⟨q1, 3, none⟩ = some (.slice Vk v.kl vk) ∧ W.cell? ⟨q2, 0, none⟩ = some (.int .u64 (u.num : Nat)) ∧ W.cell? ⟨q2, 1, none⟩ = some (.string u.bs) ∧ W.cell? ⟨q2, 2, none⟩ = some (.slice Un u.nl un) ∧ W.cell? ⟨q2, 3, none⟩ = some (.slice Uk u.kl uk) ∧ W.cell? ⟨q3, 0, none⟩ = some (.int .u64 (x.num : Nat)) ∧ W.cell? ⟨q3, 1, none⟩ = some (.string x.bs) ∧ W.cell? ⟨q3, 2, none⟩ = some (.slice Xn x.nl xn) ∧ W.cell? ⟨q3, 3, none⟩ = some (.slice Xk x.kl xk) ∧ Hid (L3 w q1 v Vn vn Vk vk q2 u Un un Uk uk q3 x Xn xn Xk xk W) :=
  ⟨H.out.b1.c0, H.out.b1.c1, H.out.b1.c2, H.out.b1.c3, H.out.b2.c0, H.out.b2.c1, H.out.b2.c2, H.out.b2.c3, H.out.b3.c0, H.out.b3.c1, H.out.b3.c2, H.out.b3.c3, H⟩
theorem L3.same11 {w : World} {q1 : Nat} {v : Tr} {Vn : Option Addr} {vn : Nat} {Vk : Option Addr} {vk : Nat} {q2 : Nat} {u : Tr} {Un : Option Addr} {un : Nat} {Uk : Option Addr} {uk : Nat} {q3 : Nat} {x : Tr} {Xn : Option Addr} {xn : Nat} {Xk : Option Addr} {xk : Nat} {W : World} {n : Nat} (hS : Sm n v) (hn : n ≤ 12) (H : Hid (L3 w q1 v Vn vn Vk vk q2 u Un un Uk uk q3 x Xn xn Xk xk W)) : Calls Tryd.prog 19 #[(.agg #[.int .u64 ((v).num : Nat), .string (v).bs, .slice Vn (v).nl vn, .slice Vk (v).kl vk]), (.agg #[.int .u64 ((v).num : Nat), .string (v).bs, .slice Vn (v).nl vn, .slice Vk (v).kl vk])] W fun e W' => e = .returned (.bool (sameTB v v)) ∧ Hid (L3 w q1 v Vn vn Vk vk q2 u Un un Uk uk q3 x Xn xn Xk xk W') :=
  (tsame_any v v Vn Vk Vn Vk vn vk vn vk n W hS hn H.out.t1 H.out.t1).mono fun _ _ ⟨he, hb⟩ => ⟨he, Lib.hid (H.out.below hb)⟩
theorem L3.same12 {w : World} {q1 : Nat} {v : Tr} {Vn : Option Addr} {vn : Nat} {Vk : Option Addr} {vk : Nat} {q2 : Nat} {u : Tr} {Un : Option Addr} {un : Nat} {Uk : Option Addr} {uk : Nat} {q3 : Nat} {x : Tr} {Xn : Option Addr} {xn : Nat} {Xk : Option Addr} {xk : Nat} {W : World} {n : Nat} (hS : Sm n v) (hn : n ≤ 12) (H : Hid (L3 w q1 v Vn vn Vk vk q2 u Un un Uk uk q3 x Xn xn Xk xk W)) : Calls Tryd.prog 19 #[(.agg #[.int .u64 ((v).num : Nat), .string (v).bs, .slice Vn (v).nl vn, .slice Vk (v).kl vk]), (.agg #[.int .u64 ((u).num : Nat), .string (u).bs, .slice Un (u).nl un, .slice Uk (u).kl uk])] W fun e W' => e = .returned (.bool (sameTB v u)) ∧ Hid (L3 w q1 v Vn vn Vk vk q2 u Un un Uk uk q3 x Xn xn Xk xk W') :=
  (tsame_any v u Vn Vk Un Uk vn vk un uk n W hS hn H.out.t1 H.out.t2).mono fun _ _ ⟨he, hb⟩ => ⟨he, Lib.hid (H.out.below hb)⟩
theorem L3.same21 {w : World} {q1 : Nat} {v : Tr} {Vn : Option Addr} {vn : Nat} {Vk : Option Addr} {vk : Nat} {q2 : Nat} {u : Tr} {Un : Option Addr} {un : Nat} {Uk : Option Addr} {uk : Nat} {q3 : Nat} {x : Tr} {Xn : Option Addr} {xn : Nat} {Xk : Option Addr} {xk : Nat} {W : World} {n : Nat} (hS : Sm n u) (hn : n ≤ 12) (H : Hid (L3 w q1 v Vn vn Vk vk q2 u Un un Uk uk q3 x Xn xn Xk xk W)) : Calls Tryd.prog 19 #[(.agg #[.int .u64 ((u).num : Nat), .string (u).bs, .slice Un (u).nl un, .slice Uk (u).kl uk]), (.agg #[.int .u64 ((v).num : Nat), .string (v).bs, .slice Vn (v).nl vn, .slice Vk (v).kl vk])] W fun e W' => e = .returned (.bool (sameTB u v)) ∧ Hid (L3 w q1 v Vn vn Vk vk q2 u Un un Uk uk q3 x Xn xn Xk xk W') :=
  (tsame_any u v Un Uk Vn Vk un uk vn vk n W hS hn H.out.t2 H.out.t1).mono fun _ _ ⟨he, hb⟩ => ⟨he, Lib.hid (H.out.below hb)⟩
theorem L3.same13 {w : World} {q1 : Nat} {v : Tr} {Vn : Option Addr} {vn : Nat} {Vk : Option Addr} {vk : Nat} {q2 : Nat} {u : Tr} {Un : Option Addr} {un : Nat} {Uk : Option Addr} {uk : Nat} {q3 : Nat} {x : Tr} {Xn : Option Addr} {xn : Nat} {Xk : Option Addr} {xk : Nat} {W : World} {n : Nat} (hS : Sm n v) (hn : n ≤ 12) (H : Hid (L3 w q1 v Vn vn Vk vk q2 u Un un Uk uk q3 x Xn xn Xk xk W)) : Calls Tryd.prog 19 #[(.agg #[.int .u64 ((v).num : Nat), .string (v).bs, .slice Vn (v).nl vn, .slice Vk (v).kl vk]), (.agg #[.int .u64 ((x).num : Nat), .string (x).bs, .slice Xn (x).nl xn, .slice Xk (x).kl xk])] W fun e W' => e = .returned (.bool (sameTB v x)) ∧ Hid (L3 w q1 v Vn vn Vk vk q2 u Un un Uk uk q3 x Xn xn Xk xk W') :=
  (tsame_any v x Vn Vk Xn Xk vn vk xn xk n W hS hn H.out.t1 H.out.t3).mono fun _ _ ⟨he, hb⟩ => ⟨he, Lib.hid (H.out.below hb)⟩
theorem L3.same23 {w : World} {q1 : Nat} {v : Tr} {Vn : Option Addr} {vn : Nat} {Vk : Option Addr} {vk : Nat} {q2 : Nat} {u : Tr} {Un : Option Addr} {un : Nat} {Uk : Option Addr} {uk : Nat} {q3 : Nat} {x : Tr} {Xn : Option Addr} {xn : Nat} {Xk : Option Addr} {xk : Nat} {W : World} {n : Nat} (hS : Sm n u) (hn : n ≤ 12) (H : Hid (L3 w q1 v Vn vn Vk vk q2 u Un un Uk uk q3 x Xn xn Xk xk W)) : Calls Tryd.prog 19 #[(.agg #[.int .u64 ((u).num : Nat), .string (u).bs, .slice Un (u).nl un, .slice Uk (u).kl uk]), (.agg #[.int .u64 ((x).num : Nat), .string (x).bs, .slice Xn (x).nl xn, .slice Xk (x).kl xk])] W fun e W' => e = .returned (.bool (sameTB u x)) ∧ Hid (L3 w q1 v Vn vn Vk vk q2 u Un un Uk uk q3 x Xn xn Xk xk W') :=
  (tsame_any u x Un Uk Xn Xk un uk xn xk n W hS hn H.out.t2 H.out.t3).mono fun _ _ ⟨he, hb⟩ => ⟨he, Lib.hid (H.out.below hb)⟩

/-- The first i kids are the same. -/
noncomputable def sB (v x : Tr) (i : Nat) : Bool := @decide (∀ j, j < i → sameT (v.kf j) (x.kf j)) (Classical.propDecidable _)
theorem sB_true {v x : Tr} {i : Nat} (h : ∀ j, j < i → sameT (v.kf j) (x.kf j)) : sB v x i = true := by simp only [sB, decide_eq_true_eq]; exact h
theorem sB_false {v x : Tr} {i : Nat} (h : ¬ ∀ j, j < i → sameT (v.kf j) (x.kf j)) : sB v x i = false := by simp only [sB, decide_eq_false_iff_not]; exact h
theorem sB_next {v x : Tr} {i : Nat} (h : ∀ j, j < i → sameT (v.kf j) (x.kf j)) : sB v x (i + 1) = sameTB (v.kf i) (x.kf i) := by
  by_cases e : sameT (v.kf i) (x.kf i)
  · rw [sameTB_true e, sB_true fun j hj => by
      by_cases f : j = i
      · rw [f]; exact e
      · exact h j (by omega)]
  · rw [sameTB_false e, sB_false fun g => e (g i (by omega))]
theorem sB_no {v x : Tr} {i : Nat} (h : ¬ ∀ j, j < i → sameT (v.kf j) (x.kf j)) : sB v x (i + 1) = false := sB_false fun g => h fun j hj => g j (by omega)
def difB (v x : Tr) : Bool := decide (¬ (v.kl = x.kl ∧ v.num = x.num))
theorem difB_true {v x : Tr} (h : ¬ v.kl = x.kl ∨ ¬ v.num = x.num) : difB v x = true := decide_eq_true (by omega)
theorem difB_false {v x : Tr} (h : v.kl = x.kl) (g : v.num = x.num) : difB v x = false := decide_eq_false (fun f => f ⟨h, g⟩)
theorem same_fin {v x : Tr} (h1 : x.bs = v.bs) (h2 : x.nl = v.nl) (h3 : ∀ i, x.nf i = v.nf i) : sameT v x ↔ v.kl = x.kl ∧ v.num = x.num ∧ ∀ j, j < v.kl → sameT (v.kf j) (x.kf j) := by
  rw [sameT_eq]
  exact ⟨fun ⟨a, _, _, d, e⟩ => ⟨d, a, e⟩, fun ⟨a, b, c⟩ => ⟨b, h1.symm, ⟨h2.symm, fun i _ => (h3 i).symm⟩, a, c⟩⟩

/-- The cells that a round reads. -/
theorem L3.kids {w : World} {q1 : Nat} {v : Tr} {Vn : Option Addr} {vn : Nat} {Vk : Option Addr} {vk : Nat} {q2 : Nat} {u : Tr} {Un : Option Addr} {un : Nat} {Uk : Option Addr} {uk : Nat} {q3 : Nat} {x : Tr} {Xn : Option Addr} {xn : Nat} {Xk : Option Addr} {xk : Nat} {W : World} (H : Hid (L3 w q1 v Vn vn Vk vk q2 u Un un Uk uk q3 x Xn xn Xk xk W)) {b o b' o' i : Nat} {A1 : Option Addr} {k1 : Nat} {A2 : Option Addr} {k2 : Nat} {A3 : Option Addr} {k3 : Nat} {A4 : Option Addr} {k4 : Nat} {y z : Tr} (hV : Vk = some ⟨b, o, none⟩) (hX : Xk = some ⟨b', o', none⟩) {W0 : World} (hc : Cell4 W0 b (o + i * 4) y A1 k1 A2 k2) (hb : b < W0.heap.size) (hc' : Cell4 W0 b' (o' + i * 4) z A3 k3 A4 k4) (hb' : b' < W0.heap.size) (hB : Below W0.heap.size W0 W) :
    W.cell? ⟨q1, 3, none⟩ = some (.slice (some ⟨b, o, none⟩) v.kl vk) ∧ W.cell? ⟨q3, 3, none⟩ = some (.slice (some ⟨b', o', none⟩) x.kl xk) ∧ W.cell? ⟨b, o + i * 4, none⟩ = some (.int .u64 (y.num : Nat)) ∧ W.cell? ⟨b, o + i * 4 + 1, none⟩ = some (.string y.bs) ∧ W.cell? ⟨b, o + i * 4 + 2, none⟩ = some (.slice A1 y.nl k1) ∧ W.cell? ⟨b, o + i * 4 + 3, none⟩ = some (.slice A2 y.kl k2) ∧ W.cell? ⟨b', o' + i * 4, none⟩ = some (.int .u64 (z.num : Nat)) ∧ W.cell? ⟨b', o' + i * 4 + 1, none⟩ = some (.string z.bs) ∧ W.cell? ⟨b', o' + i * 4 + 2, none⟩ = some (.slice A3 z.nl k3) ∧ W.cell? ⟨b', o' + i * 4 + 3, none⟩ = some (.slice A4 z.kl k4) ∧ Hid (L3 w q1 v Vn vn Vk vk q2 u Un un Uk uk q3 x Xn xn Xk xk W) ∧ Below W0.heap.size W0 W := by
  subst hV hX
  have c := hc.of_block (hB.block b hb)
  have d := hc'.of_block (hB.block b' hb')
  exact ⟨H.out.b1.c3, H.out.b3.c3, c.c0, c.c1, c.c2, c.c3, d.c0, d.c1, d.c2, d.c3, H, hB⟩

set_option maxRecDepth 100000 in
set_option maxHeartbeats 16000000 in
theorem lawSame_any (A1 : Option Addr) (L1 c1 : Nat) (A2 : Option Addr) (L2 c2 : Nat) (T : Int) (B1 : Option Addr) (M1 e1 : Nat) (B2 : Option Addr) (M2 e2 : Nat) (T' : Int) (how at_ n : Int) (str : ByteArray) (dn : Bool) (w : World) (hE : Cs.ErrT w) (hN1 : NumsAt w A1 L1 c1) (hN2 : NumsAt w A2 L2 c2) (hN3 : NumsAt w B1 M1 e1) (hN4 : NumsAt w B2 M2 e2) (hstr : str.size ≤ 9223372036854775807) :
    Calls Tryd.prog 5 #[.agg #[.slice A1 L1 c1, .slice A2 L2 c2, .int .i64 T], .agg #[.slice B1 M1 e1, .slice B2 M2 e2, .int .i64 T'], .agg #[.int .i64 how, .int .i64 at_, .int .i64 n, .string str, .bool dn]] w fun e w' => e = .returned (.bool true) ∧ Below w.heap.size w w' := by
  have HE := Lib.hid hE
  have H1 := Lib.hid hN1
  have H2 := Lib.hid hN2
  have H3 := Lib.hid hN3
  have H4 := Lib.hid hN4
  clear hE hN1 hN2 hN3 hN4
  have hr1 := ((spec_row w A1 L1 c1 A2 L2 c2 T).alloc (.cells #[.slice B1 M1 e1, .slice B2 M2 e2, .int .i64 T'] 24)).alloc (.cells #[.int .i64 how, .int .i64 at_, .int .i64 n, .string str, .bool dn] 26)
  have hr2 := (spec_row (w.alloc (.cells #[.slice A1 L1 c1, .slice A2 L2 c2, .int .i64 T] 24)) B1 M1 e1 B2 M2 e2 T').alloc (.cells #[.int .i64 how, .int .i64 at_, .int .i64 n, .string str, .bool dn] 26)
  have hr3 := turn_row ((w.alloc (.cells #[.slice A1 L1 c1, .slice A2 L2 c2, .int .i64 T] 24)).alloc (.cells #[.slice B1 M1 e1, .slice B2 M2 e2, .int .i64 T'] 24)) how at_ n str dn
  simp only [World.size_alloc] at hr2 hr3
  have R1 := Lib.hid hr1
  have R2 := Lib.hid hr2
  have R3 := Lib.hid hr3
  have HB0 : Hid (Below w.heap.size w (((w.alloc (.cells #[.slice A1 L1 c1, .slice A2 L2 c2, .int .i64 T] 24)).alloc (.cells #[.slice B1 M1 e1, .slice B2 M2 e2, .int .i64 T'] 24)).alloc (.cells #[.int .i64 how, .int .i64 at_, .int .i64 n, .string str, .bool dn] 26))) := Lib.hid (by (repeat (first | with_reducible exact Below.refl _ _ | with_reducible refine Below.drew ?_ | (with_reducible refine Below.setCell ?_ ?side _; case side => exact (by first | (simp; done) | (simp; omega) | omega)) | (with_reducible refine Below.alloc ?_ ?side _; case side => exact (by first | (simp; done) | (simp; omega) | omega)))))
  clear hr1 hr2 hr3
  go_enter Tryd.func5, Tryd.ntmps5
  go_wp2_with fail
  refine (awake_any _ (HE.out.below HB0.out)).mono ?_
  rintro e w1 ⟨rfl, hb⟩
  have HB1 := Lib.hid (Below.step HB0.out hb HB0.out.size)
  have R1' := Lib.hid (R1.out.of_block (hb.block _ R1.out.lt))
  have R2' := Lib.hid (R2.out.of_block (hb.block _ R2.out.lt))
  have R3' := Lib.hid (R3.out.of_block (hb.block _ R3.out.lt))
  clear hb R1 R2 R3 HB0
  have b0 : w1.cell? ⟨w.heap.size, 0, none⟩ = some (.slice A1 L1 c1) := R1'.out.cell (i := 0) (by omega)
  have b1 : w1.cell? ⟨w.heap.size, 1, none⟩ = some (.slice A2 L2 c2) := R1'.out.cell (i := 1) (by omega)
  have b2 : w1.cell? ⟨w.heap.size, 2, none⟩ = some (.int .i64 T) := R1'.out.cell (i := 2) (by omega)
  go_wp2_with fail
  clear b0 b1 b2
  refine (smade_any 4 5 A1 L1 c1 A2 L2 c2 T _ (H1.out.below HB1.out) (H2.out.below HB1.out) (by omega) (by omega) (by omega)).mono ?_
  rintro e w2 ⟨s, A, c, t, v, Vn, vn, Vk, vk, rfl, hQ⟩
  have HQ := Lib.hid hQ
  have HSV := Lib.hid hQ.sm
  have HLV : Hid (Lo 5 v) := Lib.hid (hQ.made.lo hQ.four hQ.lt (fun i j hi hj => hQ.right.tlt hi hj))
  have HB2 := Lib.hid (Below.step HB1.out hQ.be HB1.out.size)
  have R2 := Lib.hid (R2'.out.of_block (hQ.be.block _ R2'.out.lt))
  have R3 := Lib.hid (R3'.out.of_block (hQ.be.block _ R3'.out.lt))
  clear hQ R1' R2' R3'
  have b0 : w2.cell? ⟨w.heap.size + 1, 0, none⟩ = some (.slice B1 M1 e1) := R2.out.cell (i := 0) (by omega)
  have b1 : w2.cell? ⟨w.heap.size + 1, 1, none⟩ = some (.slice B2 M2 e2) := R2.out.cell (i := 1) (by omega)
  have b2 : w2.cell? ⟨w.heap.size + 1, 2, none⟩ = some (.int .i64 T') := R2.out.cell (i := 2) (by omega)
  have hlt := R2.out.lt
  have hlt3 := R3.out.lt
  have hne : w.heap.size + 1 ≠ w2.heap.size := by omega
  go_wp2_with fail
  clear b0 b1 b2 hne hlt
  have HB2' := Lib.hid (HB2.out.alloc HB2.out.size (.cells #[.int .u64 ((v).num : Nat), .string (v).bs, .slice Vn (v).nl vn, .slice Vk (v).kl vk] 34))
  refine (smade_any 4 5 B1 M1 e1 B2 M2 e2 T' _ (H3.out.below HB2'.out) (H4.out.below HB2'.out) (by omega) (by omega) (by omega)).mono ?_
  rintro e w3 ⟨s', A', c', t', u, Un, un, Uk, uk, rfl, hQ⟩
  have HSU := Lib.hid hQ.sm
  have hbv := (cell4_box w2 v Vn vn Vk vk).of_block (hQ.be.block _ (by simp))
  have hlv : w2.heap.size < w3.heap.size := by have := hQ.be.size; simp at this; omega
  have HTV := Lib.hid (((HQ.out.tat.mono (Q := fun _ => True) fun _ _ _ => trivial).below ((Below.refl _ _).alloc (Nat.le_refl _) (.cells #[.int .u64 ((v).num : Nat), .string (v).bs, .slice Vn (v).nl vn, .slice Vk (v).kl vk] 34))).below hQ.be)
  have HTU := Lib.hid (hQ.tat.mono (Q := fun _ => True) fun _ _ _ => trivial)
  have HB3 := Lib.hid (Below.step HB2'.out hQ.be HB2'.out.size)
  have R3' := Lib.hid ((R3.out.alloc (.cells #[.int .u64 ((v).num : Nat), .string (v).bs, .slice Vn (v).nl vn, .slice Vk (v).kl vk] 34)).of_block (hQ.be.block _ (by simp; omega)))
  have HBV := Lib.hid hbv
  obtain ⟨v0, v1, v2, v3⟩ := hbv
  clear hQ HQ R2 R3 HB1 HB2 HB2'
  simp only [Nat.zero_add] at v1 v2 v3
  have b0 : w3.cell? ⟨w.heap.size + 1 + 1, 0, none⟩ = some (.int .i64 how) := R3'.out.cell (i := 0) (by omega)
  have b1 : w3.cell? ⟨w.heap.size + 1 + 1, 1, none⟩ = some (.int .i64 at_) := R3'.out.cell (i := 1) (by omega)
  have b2 : w3.cell? ⟨w.heap.size + 1 + 1, 2, none⟩ = some (.int .i64 n) := R3'.out.cell (i := 2) (by omega)
  have b3 : w3.cell? ⟨w.heap.size + 1 + 1, 3, none⟩ = some (.string str) := R3'.out.cell (i := 3) (by omega)
  have b4 : w3.cell? ⟨w.heap.size + 1 + 1, 4, none⟩ = some (.bool dn) := R3'.out.cell (i := 4) (by omega)
  have hlt4 := R3'.out.lt
  have hne : w.heap.size + 1 + 1 ≠ w3.heap.size := by omega
  have hne' : w2.heap.size ≠ w3.heap.size := by omega
  go_wp2_with fail
  clear b0 b1 b2 b3 b4 v0 v1 v2 v3 hne hne'
  refine (spoilt_any how at_ n str dn hstr 5 v Vn Vk vn vk (fun _ => True) _ HLV.out (HTV.out.below ((Below.refl _ _).alloc (Nat.le_refl _) _))).mono ?_
  rintro e w4 ⟨x, Xn, xn, Xk, xk, rfl, hSx, ⟨hbs, hnl, hnf⟩, hTx, hb⟩
  have HSX := Lib.hid hSx
  have HSF := Lib.hid (same_fin hbs hnl hnf)
  have hB34 : Below w3.heap.size w3 w4 := ((Below.refl _ _).alloc (Nat.le_refl _) _).trans ⟨hb.os, hb.tape, hb.output, hb.size, fun k hk => hb.block k (by simp; omega)⟩
  have K0 : Hid (L3 w w2.heap.size v Vn vn Vk vk w3.heap.size u Un un Uk uk w4.heap.size x Xn xn Xk xk (w4.alloc (.cells #[.int .u64 ((x).num : Nat), .string (x).bs, .slice Xn (x).nl xn, .slice Xk (x).kl xk] 34))) := by
    have hA : Below w4.heap.size w4 (w4.alloc (.cells #[.int .u64 ((x).num : Nat), .string (x).bs, .slice Xn (x).nl xn, .slice Xk (x).kl xk] 34)) := ((Below.refl _ _).alloc (Nat.le_refl _) _)
    have h34 := hB34.size
    have hbu := (cell4_box w3 u Un un Uk uk).of_block (hb.block _ (by simp))
    have hlu : w3.heap.size < w4.heap.size := by have := hb.size; simp at this; omega
    refine Lib.hid ⟨(Below.step HB3.out hB34 HB3.out.size).alloc (by have := HB3.out.size; omega) _, (HBV.out.of_block (hB34.block _ hlv)).of_block (hA.block _ (by omega)), hbu.of_block (hA.block _ hlu), cell4_box w4 x Xn xn Xk xk, by simp; omega, by simp; omega, by simp, (HTV.out.below hB34).below hA, (HTU.out.below hB34).below hA, (hTx.below hA).mono fun _ _ _ => trivial⟩
  clear hSx hbs hnl hnf hTx hb hB34 HBV HTV HTU HB3 R3' HLV
  go_wp2_with fail
  generalize w4.alloc (.cells #[.int .u64 ((x).num : Nat), .string (x).bs, .slice Xn (x).nl xn, .slice Xk (x).kl xk] 34) = W0 at K0 ⊢
  generalize w2.heap.size = q1 at K0 ⊢
  generalize w3.heap.size = q2 at K0 ⊢
  generalize w4.heap.size = q3 at K0 ⊢
  have hv5 := HSV.out.le.2.2.2
  have hx5 := HSX.out.le.2.2.2
  go_loopw [15, 16] (fun sv iv wr => ∃ i : Nat, i ≤ v.kl ∧ i ≤ x.kl ∧ iv = .int .i64 i ∧ sv = .bool (sB v x i) ∧ Hid (L3 w q1 v Vn vn Vk vk q2 u Un un Uk uk q3 x Xn xn Xk xk wr)) (fun _ iv _ => v.kl - (intOf iv).toNat)
  case atStart => exact ⟨0, by omega, by omega, rfl, by rw [sB_true fun j hj => absurd hj (Nat.not_lt_zero j)], K0⟩
  case round =>
    clear K0
    obtain ⟨i, hi, hi', rfl, rfl, K1⟩ := hrel
    obtain ⟨v0, v1, v2, v3, u0, u1, u2, u3, x0, x1, x2, x3, -⟩ := L3.all K1
    by_cases hi1 : i < v.kl ∧ i < x.kl
    · obtain ⟨hiv, hix⟩ := hi1
      by_cases hs : ∀ j, j < i → sameT (v.kf j) (x.kf j)
      · rw [sB_true hs]
        have HNX := Lib.hid (sB_next hs)
        obtain ⟨b, o, hVk, -, hlb, hcv⟩ := K1.out.t1.kids (by omega)
        obtain ⟨C1, k1, C2, k2, h4, hty⟩ := hcv i hiv
        obtain ⟨b', o', hXk, -, hlb', hcx⟩ := K1.out.t3.kids (by omega)
        obtain ⟨C3, k3, C4, k4, h4', htz⟩ := hcx i hix
        have H4 := Lib.hid h4
        have H4' := Lib.hid h4'
        have HTY := Lib.hid hty
        have HTZ := Lib.hid htz
        have HVK := Lib.hid hVk
        have HXK := Lib.hid hXk
        have HSY := Lib.hid (HSV.out.kid hiv)
        clear hs hcv hcx h4 h4' hty htz
        obtain ⟨y, HY⟩ : ∃ y, Hid (v.kf i = y) := ⟨_, Lib.hid rfl⟩
        obtain ⟨z, HZ⟩ : ∃ z, Hid (x.kf i = z) := ⟨_, Lib.hid rfl⟩
        rw [HY.out] at H4 HTY HSY HNX
        rw [HZ.out] at H4' HTZ HNX
        rw [hVk] at v3
        rw [hXk] at x3
        clear hVk hXk
        have g0 : (0 : Int) ≤ (i : Int) := by omega
        have g1 : (i : Int) < (v.kl : Int) := by omega
        have g2 : (i : Int) < (x.kl : Int) := by omega
        go_wp2_with fail
        clear v0 v1 v2 v3 u0 u1 u2 u3 x0 x1 x2 x3
        go_region_held3 (fun w' => w'.cell? ⟨q1, 3, none⟩ = some (.slice (some ⟨b, o, none⟩) v.kl vk) ∧ w'.cell? ⟨q3, 3, none⟩ = some (.slice (some ⟨b', o', none⟩) x.kl xk) ∧ w'.cell? ⟨b, o + i * 4, none⟩ = some (.int .u64 (y.num : Nat)) ∧ w'.cell? ⟨b, o + i * 4 + 1, none⟩ = some (.string y.bs) ∧ w'.cell? ⟨b, o + i * 4 + 2, none⟩ = some (.slice C1 y.nl k1) ∧ w'.cell? ⟨b, o + i * 4 + 3, none⟩ = some (.slice C2 y.kl k2) ∧ w'.cell? ⟨b', o' + i * 4, none⟩ = some (.int .u64 (z.num : Nat)) ∧ w'.cell? ⟨b', o' + i * 4 + 1, none⟩ = some (.string z.bs) ∧ w'.cell? ⟨b', o' + i * 4 + 2, none⟩ = some (.slice C3 z.nl k3) ∧ w'.cell? ⟨b', o' + i * 4 + 3, none⟩ = some (.slice C4 z.kl k4) ∧ Hid (L3 w q1 v Vn vn Vk vk q2 u Un un Uk uk q3 x Xn xn Xk xk w') ∧ Below wr.heap.size wr w')
          (first | exact L3.kids (Lib.hid (K1.out.below (Below.refl _ _).drew)) HVK.out HXK.out H4.out hlb H4'.out hlb' (Below.refl _ _).drew | exact L3.kids K2 HVK.out HXK.out H4.out hlb H4'.out hlb' HB2.out | assumption)
          (first
            | (go_at_call 19; (with_reducible refine (tsame_any y z C1 C2 C3 C4 k1 k2 k3 k4 _ _ HSY.out (by omega) (HTY.out.below (Below.refl _ _).drew) (HTZ.out.below (Below.refl _ _).drew)).mono ?_); rintro e w5 ⟨rfl, hb⟩; have HB2 := Lib.hid ((Below.refl wr.heap.size wr).drew.trans hb); have K2 := Lib.hid (K1.out.below HB2.out); clear hb))
        all_goals
          go_wp2
          go_roundw
          case rel => first | exact ⟨i + 1, by omega, by omega, by go_num, by rw [HNX.out], K2⟩ | ((repeat apply Exists.intro); exact ⟨⟨i + 1, by omega, by omega, by go_num, by rw [HNX.out], K2⟩, rfl⟩)
          case measure => simp [intOf]; omega
      · rw [sB_false hs]
        have HNX := Lib.hid (sB_no hs)
        clear hs
        have g0 : (0 : Int) ≤ (i : Int) := by omega
        have g1 : (i : Int) < (v.kl : Int) := by omega
        have g2 : (i : Int) < (x.kl : Int) := by omega
        go_wp2_with fail
        go_quiet (fail)
        go_wp2
        go_roundw
        case rel => first | exact ⟨i + 1, by omega, by omega, by go_num, by rw [HNX.out], Lib.hid (K1.out.below (below_drewN (Below.refl _ _) _))⟩ | ((repeat apply Exists.intro); exact ⟨⟨i + 1, by omega, by omega, by go_num, by rw [HNX.out], Lib.hid (K1.out.below (below_drewN (Below.refl _ _) _))⟩, rfl⟩)
        case measure => simp [intOf]; omega
    · have HMin := Lib.hid (show v.kl = x.kl → i = v.kl by omega)
      go_upto_region 7 with (fail)
      go_cut [44] (fun cv wc => cv = .bool false ∧ Hid (L3 w q1 v Vn vn Vk vk q2 u Un un Uk uk q3 x Xn xn Xk xk wc))
      case first =>
        have hlt : (¬ i < v.kl ∧ decide ((i : Int) < (v.kl : Int)) = false ∧ decide (i < v.kl) = false) ∨ ((i < v.kl ∧ decide ((i : Int) < (v.kl : Int)) = true ∧ decide (i < v.kl) = true) ∧ ¬ i < x.kl ∧ decide ((i : Int) < (x.kl : Int)) = false ∧ decide (i < x.kl) = false) := by
          by_cases h : i < v.kl
          · exact .inr ⟨⟨h, decide_eq_true (by omega), decide_eq_true h⟩, by omega, decide_eq_false (by omega), decide_eq_false (by omega)⟩
          · exact .inl ⟨h, decide_eq_false (by omega), decide_eq_false h⟩
        clear hi1
        rcases hlt with ⟨hl1, hl2, hl3⟩ | ⟨⟨hl1, hl2, hl3⟩, hl4, hl5, hl6⟩
        all_goals
          go_wp2
          go_meet
          case rel => exact ⟨rfl, K1⟩
      case rest =>
      clear K1 v0 v1 v2 v3 u0 u1 u2 u3 x0 x1 x2 x3 hi1
      obtain ⟨rfl, K1⟩ := hcut
      obtain ⟨v0, v1, v2, v3, u0, u1, u2, u3, x0, x1, x2, x3, -⟩ := L3.all K1
      go_upto_region 10 with (fail)
      go_cut [74] from 61 (fun cv wc => cv = .bool (difB v x) ∧ Hid (L3 w q1 v Vn vn Vk vk q2 u Un un Uk uk q3 x Xn xn Xk xk wc))
      case first =>
        by_cases hkl : v.kl = x.kl
        · rw [← hkl] at x3
          by_cases hnm : v.num = x.num
          · have HF : Hid (difB v x = false) := Lib.hid (difB_false hkl hnm)
            rw [← hnm] at x0
            clear hkl hnm
            go_wp2
            go_meet
            case rel => exact ⟨by rw [HF.out], K1⟩
          · have HF : Hid (difB v x = true) := Lib.hid (difB_true (.inr hnm))
            have t1 : ((v.num : Int) != (x.num : Int)) = true := by simp; omega
            have t2 : (v.num != x.num) = true := by simp; omega
            clear hkl
            go_wp2
            go_meet
            case rel => exact ⟨by rw [HF.out], K1⟩
        · have HF : Hid (difB v x = true) := Lib.hid (difB_true (.inl hkl))
          have t1 : ((v.kl : Int) != (x.kl : Int)) = true := by simp; omega
          have t2 : (v.kl != x.kl) = true := by simp; omega
          go_wp2
          go_meet
          case rel => exact ⟨by rw [HF.out], K1⟩
      case rest =>
      clear K1 v0 v1 v2 v3 u0 u1 u2 u3 x0 x1 x2 x3
      obtain ⟨rfl, K1⟩ := hcut
      go_upto_if 74 with (fail)
      go_cut [15] from 74 (fun sv wc => sv = .bool (sameTB v x) ∧ Hid (L3 w q1 v Vn vn Vk vk q2 u Un un Uk uk q3 x Xn xn Xk xk wc))
      case first =>
        by_cases hd : v.kl = x.kl ∧ v.num = x.num
        · rw [difB_false hd.1 hd.2]
          have HF : Hid (sB v x i = sameTB v x) := Lib.hid (by
            rw [HMin.out hd.1]
            by_cases h : ∀ j, j < v.kl → sameT (v.kf j) (x.kf j)
            · rw [sB_true h, sameTB_true (HSF.out.2 ⟨hd.1, hd.2, h⟩)]
            · rw [sB_false h, sameTB_false fun g => h (HSF.out.1 g).2.2])
          clear hd
          go_wp2
          go_meet
          case rel => exact ⟨by rw [HF.out], K1⟩
        · have HF : Hid (sameTB v x = false) := Lib.hid (sameTB_false fun g => hd ⟨(HSF.out.1 g).1, (HSF.out.1 g).2.1⟩)
          rw [difB_true (by omega)]
          clear hd
          go_wp2
          go_meet
          case rel => exact ⟨by rw [HF.out], K1⟩
      case rest =>
        clear K1
        obtain ⟨rfl, K1⟩ := hcut
        have T11 := Lib.hid (sameTB_true (sameT_refl v))
        have KD := Lib.hid (K1.out.below (Below.refl _ _).drew)
        by_cases hB : sameT v u
        · by_cases hM : sameT v x
          all_goals
            have T12 := Lib.hid (by first | exact sameTB_true hB | exact sameTB_false hB)
            have T21 := Lib.hid (by first | exact sameTB_true (sameT_symm hB) | exact sameTB_false fun h => hB (sameT_symm h))
            have T13 := Lib.hid (by first | exact sameTB_true hM | exact sameTB_false hM)
            have T23 := Lib.hid (by first | exact sameTB_true (sameT_trans (sameT_symm hB) hM) | exact sameTB_false fun h => hM (sameT_trans hB h) | exact trivial)
            rw [T13.out]
            clear hM hB HSF
            go_upto_region 12 with (fail)
            go_region_held3 (fun w' => w'.cell? ⟨q1, 0, none⟩ = some (.int .u64 (v.num : Nat)) ∧ w'.cell? ⟨q1, 1, none⟩ = some (.string v.bs) ∧ w'.cell? ⟨q1, 2, none⟩ = some (.slice Vn v.nl vn) ∧ w'.cell? ⟨q1, 3, none⟩ = some (.slice Vk v.kl vk) ∧ w'.cell? ⟨q2, 0, none⟩ = some (.int .u64 (u.num : Nat)) ∧ w'.cell? ⟨q2, 1, none⟩ = some (.string u.bs) ∧ w'.cell? ⟨q2, 2, none⟩ = some (.slice Un u.nl un) ∧ w'.cell? ⟨q2, 3, none⟩ = some (.slice Uk u.kl uk) ∧ w'.cell? ⟨q3, 0, none⟩ = some (.int .u64 (x.num : Nat)) ∧ w'.cell? ⟨q3, 1, none⟩ = some (.string x.bs) ∧ w'.cell? ⟨q3, 2, none⟩ = some (.slice Xn x.nl xn) ∧ w'.cell? ⟨q3, 3, none⟩ = some (.slice Xk x.kl xk) ∧ Hid (L3 w q1 v Vn vn Vk vk q2 u Un un Uk uk q3 x Xn xn Xk xk w'))
              (first | exact L3.all (by assumption))
              (first
                | (go_at_call 19; (with_reducible refine (L3.same11 HSV.out (by omega) (by assumption)).mono ?_); rintro e w5 ⟨rfl, K2⟩; rw [T11.out])
                | (go_at_call 19; (with_reducible refine (L3.same12 HSV.out (by omega) (by assumption)).mono ?_); rintro e w5 ⟨rfl, K2⟩; rw [T12.out])
                | (go_at_call 19; (with_reducible refine (L3.same21 HSU.out (by omega) (by assumption)).mono ?_); rintro e w5 ⟨rfl, K2⟩; rw [T21.out])
                | (go_at_call 19; (with_reducible refine (L3.same13 HSV.out (by omega) (by assumption)).mono ?_); rintro e w5 ⟨rfl, K2⟩; rw [T13.out])
                | (go_at_call 19; (with_reducible refine (L3.same23 HSU.out (by omega) (by assumption)).mono ?_); rintro e w5 ⟨rfl, K2⟩; rw [T23.out]))
            all_goals
              go_wp2
              go_ret
              exact ⟨rfl, K2.out.be⟩
        · by_cases hM : sameT v x
          all_goals
            have T12 := Lib.hid (by first | exact sameTB_true hB | exact sameTB_false hB)
            have T21 := Lib.hid (by first | exact sameTB_true (sameT_symm hB) | exact sameTB_false fun h => hB (sameT_symm h))
            have T13 := Lib.hid (by first | exact sameTB_true hM | exact sameTB_false hM)
            have T23 := Lib.hid (by first | exact sameTB_true (sameT_trans (sameT_symm hB) hM) | exact sameTB_false fun h => hM (sameT_trans hB h) | exact trivial)
            rw [T13.out]
            clear hM hB HSF
            go_upto_region 12 with (fail)
            refine wp_region_held_drew (S := (fun w' => w'.cell? ⟨q1, 0, none⟩ = some (.int .u64 (v.num : Nat)) ∧ w'.cell? ⟨q1, 1, none⟩ = some (.string v.bs) ∧ w'.cell? ⟨q1, 2, none⟩ = some (.slice Vn v.nl vn) ∧ w'.cell? ⟨q1, 3, none⟩ = some (.slice Vk v.kl vk) ∧ w'.cell? ⟨q2, 0, none⟩ = some (.int .u64 (u.num : Nat)) ∧ w'.cell? ⟨q2, 1, none⟩ = some (.string u.bs) ∧ w'.cell? ⟨q2, 2, none⟩ = some (.slice Un u.nl un) ∧ w'.cell? ⟨q2, 3, none⟩ = some (.slice Uk u.kl uk) ∧ w'.cell? ⟨q3, 0, none⟩ = some (.int .u64 (x.num : Nat)) ∧ w'.cell? ⟨q3, 1, none⟩ = some (.string x.bs) ∧ w'.cell? ⟨q3, 2, none⟩ = some (.slice Xn x.nl xn) ∧ w'.cell? ⟨q3, 3, none⟩ = some (.slice Xk x.kl xk) ∧ Hid (L3 w q1 v Vn vn Vk vk q2 u Un un Uk uk q3 x Xn xn Xk xk w'))) (by kernel_rfl) (L3.all KD) (fun hHeld => ?_)
            refine wpAnyH_take (i := 0) (oi := ({ dst := some 75, op := Go.Op.move (Go.Operand.tmp 7), type := 4, pos := "law.go:135", after := #[], guard := none })) (v := ?_) rfl (by kernel_rfl) (by kernel_rfl) (by kernel_rfl) (fun _ _ _ h => h) (Or.inl ⟨by rfl, ?_⟩) (by assumption) ?_
            rotate_left
            · first | exact fun _ _ => rfl | (intro w hSw; (try dsimp only at hSw); go_simp; try with_reducible rfl)
            try simp only [Act.put, List.setIfInBounds_toArray, List.set_cons_zero, List.set_cons_succ]
            refine wpAnyH_take (i := 1) (oi := ({ dst := some 76, op := Go.Op.move (Go.Operand.tmp 75), type := 4, pos := "law.go:135", after := #[{ on := 0, ground := Go.Ground.data }], guard := none })) (v := ?_) rfl (by kernel_rfl) (by kernel_rfl) (by kernel_rfl) (fun _ _ _ h => h) (Or.inl ⟨by rfl, ?_⟩) (by assumption) ?_
            rotate_left
            · first | exact fun _ _ => rfl | (intro w hSw; (try dsimp only at hSw); go_simp; try with_reducible rfl)
            try simp only [Act.put, List.setIfInBounds_toArray, List.set_cons_zero, List.set_cons_succ]
            refine wpAnyH_take (i := 2) (oi := ({ dst := some 77, op := Go.Op.load 34 (Go.Operand.tmp 10), type := 34, pos := "law.go:135", after := #[{ on := 1, ground := Go.Ground.guard }], guard := some (1, true) })) (v := ?_) rfl (by kernel_rfl) (by kernel_rfl) (by kernel_rfl) (fun _ _ _ h => h) (Or.inl ⟨by rfl, ?_⟩) (by assumption) ?_
            rotate_left
            · first | exact fun _ _ => rfl | (intro w hSw; (try dsimp only at hSw); go_simp; try with_reducible rfl)
            try simp only [Act.put, List.setIfInBounds_toArray, List.set_cons_zero, List.set_cons_succ]
            refine wpAnyH_take (i := 3) (oi := ({ dst := some 78, op := Go.Op.load 34 (Go.Operand.tmp 10), type := 34, pos := "law.go:135", after := #[{ on := 1, ground := Go.Ground.guard }], guard := some (1, true) })) (v := ?_) rfl (by kernel_rfl) (by kernel_rfl) (by kernel_rfl) (fun _ _ _ h => h) (Or.inl ⟨by rfl, ?_⟩) (by assumption) ?_
            rotate_left
            · first | exact fun _ _ => rfl | (intro w hSw; (try dsimp only at hSw); go_simp; try with_reducible rfl)
            try simp only [Act.put, List.setIfInBounds_toArray, List.set_cons_zero, List.set_cons_succ]
            refine wpAnyH_ready (rs := [4]) (by kernel_rfl) (by simp) ?_
            refine AllReadyH.cons (o := ({ dst := some 79, op := Go.Op.call { callee := Go.Callee.value (Go.Operand.func 19), args := #[Go.Operand.tmp 77, Go.Operand.tmp 78], argTypes := #[34, 34] }, type := 4, pos := "law.go:135", after := #[{ on := 2, ground := Go.Ground.data }, { on := 3, ground := Go.Ground.data }, { on := 1, ground := Go.Ground.chain }, { on := 1, ground := Go.Ground.guard }], guard := some (1, true) })) rfl (fun Kc hKc => ?_) AllReadyH.nil
            go_simp
            (go_at_call 19; (with_reducible refine (L3.same11 HSV.out (by omega) (by assumption)).mono ?_); rintro e w5 ⟨rfl, K2⟩; rw [T11.out])
            try go_wp2_with fail
            refine hKc.out _ _ (L3.all (by assumption)) (fun hHeld => ?_)
            clear hKc Kc
            try simp only [Act.put, List.setIfInBounds_toArray, List.set_cons_zero, List.set_cons_succ]
            refine wpAnyH_take (i := 5) (oi := ({ dst := some 80, op := Go.Op.pick (Go.Operand.tmp 76) (Go.Operand.tmp 79) (Go.Operand.const (Go.Value.bool false)), type := 4, pos := "law.go:135", after := #[{ on := 1, ground := Go.Ground.data }, { on := 4, ground := Go.Ground.data }], guard := none })) (v := ?_) rfl (by kernel_rfl) (by kernel_rfl) (by kernel_rfl) (fun _ _ _ h => h) (Or.inl ⟨by rfl, ?_⟩) (by assumption) ?_
            rotate_left
            · first | exact fun _ _ => rfl | (intro w hSw; (try dsimp only at hSw); go_simp; try with_reducible rfl)
            try simp only [Act.put, List.setIfInBounds_toArray, List.set_cons_zero, List.set_cons_succ]
            refine wpAnyH_take (i := 6) (oi := ({ dst := some 81, op := Go.Op.move (Go.Operand.tmp 80), type := 4, pos := "law.go:135", after := #[{ on := 5, ground := Go.Ground.data }, { on := 4, ground := Go.Ground.chain }], guard := none })) (v := ?_) rfl (by kernel_rfl) (by kernel_rfl) (by kernel_rfl) (fun _ _ _ h => h) (Or.inl ⟨by rfl, ?_⟩) (by assumption) ?_
            rotate_left
            · first | exact fun _ _ => rfl | (intro w hSw; (try dsimp only at hSw); go_simp; try with_reducible rfl)
            try simp only [Act.put, List.setIfInBounds_toArray, List.set_cons_zero, List.set_cons_succ]
            refine wpAnyH_take (i := 7) (oi := ({ dst := some 82, op := Go.Op.load 34 (Go.Operand.tmp 10), type := 34, pos := "law.go:135", after := #[{ on := 6, ground := Go.Ground.guard }], guard := some (6, true) })) (v := ?_) rfl (by kernel_rfl) (by kernel_rfl) (by kernel_rfl) (fun _ _ _ h => h) (Or.inl ⟨by rfl, ?_⟩) (by assumption) ?_
            rotate_left
            · first | exact fun _ _ => rfl | (intro w hSw; (try dsimp only at hSw); go_simp; try with_reducible rfl)
            try simp only [Act.put, List.setIfInBounds_toArray, List.set_cons_zero, List.set_cons_succ]
            refine wpAnyH_take (i := 8) (oi := ({ dst := some 83, op := Go.Op.load 34 (Go.Operand.tmp 13), type := 34, pos := "law.go:135", after := #[{ on := 6, ground := Go.Ground.guard }], guard := some (6, true) })) (v := ?_) rfl (by kernel_rfl) (by kernel_rfl) (by kernel_rfl) (fun _ _ _ h => h) (Or.inl ⟨by rfl, ?_⟩) (by assumption) ?_
            rotate_left
            · first | exact fun _ _ => rfl | (intro w hSw; (try dsimp only at hSw); go_simp; try with_reducible rfl)
            try simp only [Act.put, List.setIfInBounds_toArray, List.set_cons_zero, List.set_cons_succ]
            refine wpAnyH_take (i := 10) (oi := ({ dst := some 85, op := Go.Op.load 34 (Go.Operand.tmp 13), type := 34, pos := "law.go:135", after := #[{ on := 6, ground := Go.Ground.guard }], guard := some (6, true) })) (v := ?_) rfl (by kernel_rfl) (by kernel_rfl) (by kernel_rfl) (fun _ _ _ h => h) (Or.inl ⟨by rfl, ?_⟩) (by assumption) ?_
            rotate_left
            · first | exact fun _ _ => rfl | (intro w hSw; (try dsimp only at hSw); go_simp; try with_reducible rfl)
            try simp only [Act.put, List.setIfInBounds_toArray, List.set_cons_zero, List.set_cons_succ]
            refine wpAnyH_take (i := 11) (oi := ({ dst := some 86, op := Go.Op.load 34 (Go.Operand.tmp 10), type := 34, pos := "law.go:135", after := #[{ on := 6, ground := Go.Ground.guard }], guard := some (6, true) })) (v := ?_) rfl (by kernel_rfl) (by kernel_rfl) (by kernel_rfl) (fun _ _ _ h => h) (Or.inl ⟨by rfl, ?_⟩) (by assumption) ?_
            rotate_left
            · first | exact fun _ _ => rfl | (intro w hSw; (try dsimp only at hSw); go_simp; try with_reducible rfl)
            try simp only [Act.put, List.setIfInBounds_toArray, List.set_cons_zero, List.set_cons_succ]
            refine wpAnyH_ready (rs := [9]) (by kernel_rfl) (by simp) ?_
            refine AllReadyH.cons (o := ({ dst := some 84, op := Go.Op.call { callee := Go.Callee.value (Go.Operand.func 19), args := #[Go.Operand.tmp 82, Go.Operand.tmp 83], argTypes := #[34, 34] }, type := 4, pos := "law.go:135", after := #[{ on := 7, ground := Go.Ground.data }, { on := 8, ground := Go.Ground.data }, { on := 6, ground := Go.Ground.chain }, { on := 6, ground := Go.Ground.guard }], guard := some (6, true) })) rfl (fun Kc hKc => ?_) AllReadyH.nil
            go_simp
            (go_at_call 19; (with_reducible refine (L3.same12 HSV.out (by omega) (by assumption)).mono ?_); rintro e w5 ⟨rfl, K2⟩; rw [T12.out])
            try go_wp2_with fail
            refine hKc.out _ _ (L3.all (by assumption)) (fun hHeld => ?_)
            clear hKc Kc
            try simp only [Act.put, List.setIfInBounds_toArray, List.set_cons_zero, List.set_cons_succ]
            refine wpAnyH_ready (rs := [12]) (by kernel_rfl) (by simp) ?_
            refine AllReadyH.cons (o := ({ dst := some 87, op := Go.Op.call { callee := Go.Callee.value (Go.Operand.func 19), args := #[Go.Operand.tmp 85, Go.Operand.tmp 86], argTypes := #[34, 34] }, type := 4, pos := "law.go:135", after := #[{ on := 10, ground := Go.Ground.data }, { on := 11, ground := Go.Ground.data }, { on := 9, ground := Go.Ground.chain }, { on := 6, ground := Go.Ground.guard }], guard := some (6, true) })) rfl (fun Kc hKc => ?_) AllReadyH.nil
            go_simp
            (go_at_call 19; (with_reducible refine (L3.same21 HSU.out (by omega) (by assumption)).mono ?_); rintro e w5 ⟨rfl, K2⟩; rw [T21.out])
            try go_wp2_with fail
            refine hKc.out _ _ (L3.all (by assumption)) (fun hHeld => ?_)
            clear hKc Kc
            try simp only [Act.put, List.setIfInBounds_toArray, List.set_cons_zero, List.set_cons_succ]
            refine wpAnyH_take (i := 13) (oi := ({ dst := some 88, op := Go.Op.binOp Go.BinOp.eql 4 (Go.Operand.tmp 84) (Go.Operand.tmp 87) 4, type := 4, pos := "law.go:135", after := #[{ on := 9, ground := Go.Ground.data }, { on := 12, ground := Go.Ground.data }, { on := 6, ground := Go.Ground.guard }], guard := some (6, true) })) (v := ?_) rfl (by kernel_rfl) (by kernel_rfl) (by kernel_rfl) (fun _ _ _ h => h) (Or.inl ⟨by rfl, ?_⟩) (by assumption) ?_
            rotate_left
            · first | exact fun _ _ => rfl | (intro w hSw; (try dsimp only at hSw); go_simp; try with_reducible rfl)
            try simp only [Act.put, List.setIfInBounds_toArray, List.set_cons_zero, List.set_cons_succ]
            refine wpAnyH_take (i := 14) (oi := ({ dst := some 89, op := Go.Op.pick (Go.Operand.tmp 81) (Go.Operand.tmp 88) (Go.Operand.const (Go.Value.bool false)), type := 4, pos := "law.go:135", after := #[{ on := 6, ground := Go.Ground.data }, { on := 13, ground := Go.Ground.data }], guard := none })) (v := ?_) rfl (by kernel_rfl) (by kernel_rfl) (by kernel_rfl) (fun _ _ _ h => h) (Or.inl ⟨by rfl, ?_⟩) (by assumption) ?_
            rotate_left
            · first | exact fun _ _ => rfl | (intro w hSw; (try dsimp only at hSw); go_simp; try with_reducible rfl)
            try simp only [Act.put, List.setIfInBounds_toArray, List.set_cons_zero, List.set_cons_succ]
            refine wpAnyH_take (i := 15) (oi := ({ dst := some 90, op := Go.Op.move (Go.Operand.tmp 89), type := 4, pos := "law.go:135", after := #[{ on := 14, ground := Go.Ground.data }, { on := 12, ground := Go.Ground.chain }], guard := none })) (v := ?_) rfl (by kernel_rfl) (by kernel_rfl) (by kernel_rfl) (fun _ _ _ h => h) (Or.inl ⟨by rfl, ?_⟩) (by assumption) ?_
            rotate_left
            · first | exact fun _ _ => rfl | (intro w hSw; (try dsimp only at hSw); go_simp; try with_reducible rfl)
            try simp only [Act.put, List.setIfInBounds_toArray, List.set_cons_zero, List.set_cons_succ]
            refine wpAnyH_take (i := 16) (oi := ({ dst := some 91, op := Go.Op.load 34 (Go.Operand.tmp 10), type := 34, pos := "law.go:135", after := #[{ on := 15, ground := Go.Ground.guard }], guard := some (15, true) })) (v := ?_) rfl (by kernel_rfl) (by kernel_rfl) (by kernel_rfl) (fun _ _ _ h => h) (Or.inl ⟨by rfl, ?_⟩) (by assumption) ?_
            rotate_left
            · first | exact fun _ _ => rfl | (intro w hSw; (try dsimp only at hSw); go_simp; try with_reducible rfl)
            try simp only [Act.put, List.setIfInBounds_toArray, List.set_cons_zero, List.set_cons_succ]
            refine wpAnyH_take (i := 17) (oi := ({ dst := some 92, op := Go.Op.load 34 (Go.Operand.tmp 14), type := 34, pos := "law.go:135", after := #[{ on := 15, ground := Go.Ground.guard }], guard := some (15, true) })) (v := ?_) rfl (by kernel_rfl) (by kernel_rfl) (by kernel_rfl) (fun _ _ _ h => h) (Or.inl ⟨by rfl, ?_⟩) (by assumption) ?_
            rotate_left
            · first | exact fun _ _ => rfl | (intro w hSw; (try dsimp only at hSw); go_simp; try with_reducible rfl)
            try simp only [Act.put, List.setIfInBounds_toArray, List.set_cons_zero, List.set_cons_succ]
            refine wpAnyH_take (i := 19) (oi := ({ dst := some 94, op := Go.Op.move (Go.Operand.tmp 15), type := 4, pos := "law.go:135", after := #[{ on := 15, ground := Go.Ground.guard }], guard := some (15, true) })) (v := ?_) rfl (by kernel_rfl) (by kernel_rfl) (by kernel_rfl) (fun _ _ _ h => h) (Or.inl ⟨by rfl, ?_⟩) (by assumption) ?_
            rotate_left
            · first | exact fun _ _ => rfl | (intro w hSw; (try dsimp only at hSw); go_simp; try with_reducible rfl)
            try simp only [Act.put, List.setIfInBounds_toArray, List.set_cons_zero, List.set_cons_succ]
            refine wpAnyH_ready (rs := [18]) (by kernel_rfl) (by simp) ?_
            refine AllReadyH.cons (o := ({ dst := some 93, op := Go.Op.call { callee := Go.Callee.value (Go.Operand.func 19), args := #[Go.Operand.tmp 91, Go.Operand.tmp 92], argTypes := #[34, 34] }, type := 4, pos := "law.go:135", after := #[{ on := 16, ground := Go.Ground.data }, { on := 17, ground := Go.Ground.data }, { on := 15, ground := Go.Ground.chain }, { on := 15, ground := Go.Ground.guard }], guard := some (15, true) })) rfl (fun Kc hKc => ?_) AllReadyH.nil
            go_simp
            (go_at_call 19; (with_reducible refine (L3.same13 HSV.out (by omega) (by assumption)).mono ?_); rintro e w5 ⟨rfl, K2⟩; rw [T13.out])
            try go_wp2_with fail
            refine hKc.out _ _ (L3.all (by assumption)) (fun hHeld => ?_)
            clear hKc Kc
            try simp only [Act.put, List.setIfInBounds_toArray, List.set_cons_zero, List.set_cons_succ]
            refine wpAnyH_take (i := 20) (oi := ({ dst := some 95, op := Go.Op.binOp Go.BinOp.eql 4 (Go.Operand.tmp 93) (Go.Operand.tmp 94) 4, type := 4, pos := "law.go:135", after := #[{ on := 18, ground := Go.Ground.data }, { on := 19, ground := Go.Ground.data }, { on := 15, ground := Go.Ground.guard }], guard := some (15, true) })) (v := ?_) rfl (by kernel_rfl) (by kernel_rfl) (by kernel_rfl) (fun _ _ _ h => h) (Or.inl ⟨by rfl, ?_⟩) (by assumption) ?_
            rotate_left
            · first | exact fun _ _ => rfl | (intro w hSw; (try dsimp only at hSw); go_simp; try with_reducible rfl)
            try simp only [Act.put, List.setIfInBounds_toArray, List.set_cons_zero, List.set_cons_succ]
            refine wpAnyH_take (i := 21) (oi := ({ dst := some 96, op := Go.Op.pick (Go.Operand.tmp 90) (Go.Operand.tmp 95) (Go.Operand.const (Go.Value.bool false)), type := 4, pos := "law.go:135", after := #[{ on := 15, ground := Go.Ground.data }, { on := 20, ground := Go.Ground.data }], guard := none })) (v := ?_) rfl (by kernel_rfl) (by kernel_rfl) (by kernel_rfl) (fun _ _ _ h => h) (Or.inl ⟨by rfl, ?_⟩) (by assumption) ?_
            rotate_left
            · first | exact fun _ _ => rfl | (intro w hSw; (try dsimp only at hSw); go_simp; try with_reducible rfl)
            try simp only [Act.put, List.setIfInBounds_toArray, List.set_cons_zero, List.set_cons_succ]
            refine wpAnyH_take (i := 22) (oi := ({ dst := some 97, op := Go.Op.move (Go.Operand.tmp 96), type := 4, pos := "law.go:135", after := #[{ on := 21, ground := Go.Ground.data }, { on := 18, ground := Go.Ground.chain }], guard := none })) (v := ?_) rfl (by kernel_rfl) (by kernel_rfl) (by kernel_rfl) (fun _ _ _ h => h) (Or.inl ⟨by rfl, ?_⟩) (by assumption) ?_
            rotate_left
            · first | exact fun _ _ => rfl | (intro w hSw; (try dsimp only at hSw); go_simp; try with_reducible rfl)
            try simp only [Act.put, List.setIfInBounds_toArray, List.set_cons_zero, List.set_cons_succ]
            refine wpAnyH_take (i := 23) (oi := ({ dst := some 98, op := Go.Op.load 34 (Go.Operand.tmp 10), type := 34, pos := "law.go:135", after := #[{ on := 22, ground := Go.Ground.guard }], guard := some (22, true) })) (v := ?_) rfl (by kernel_rfl) (by kernel_rfl) (by kernel_rfl) (fun _ _ _ h => h) (Or.inl ⟨by rfl, ?_⟩) (by assumption) ?_
            rotate_left
            · first | exact fun _ _ => rfl | (intro w hSw; (try dsimp only at hSw); go_simp; try with_reducible rfl)
            try simp only [Act.put, List.setIfInBounds_toArray, List.set_cons_zero, List.set_cons_succ]
            refine wpAnyH_take (i := 24) (oi := ({ dst := some 99, op := Go.Op.load 34 (Go.Operand.tmp 13), type := 34, pos := "law.go:135", after := #[{ on := 22, ground := Go.Ground.guard }], guard := some (22, true) })) (v := ?_) rfl (by kernel_rfl) (by kernel_rfl) (by kernel_rfl) (fun _ _ _ h => h) (Or.inl ⟨by rfl, ?_⟩) (by assumption) ?_
            rotate_left
            · first | exact fun _ _ => rfl | (intro w hSw; (try dsimp only at hSw); go_simp; try with_reducible rfl)
            try simp only [Act.put, List.setIfInBounds_toArray, List.set_cons_zero, List.set_cons_succ]
            refine wpAnyH_ready (rs := [25]) (by kernel_rfl) (by simp) ?_
            refine AllReadyH.cons (o := ({ dst := some 100, op := Go.Op.call { callee := Go.Callee.value (Go.Operand.func 19), args := #[Go.Operand.tmp 98, Go.Operand.tmp 99], argTypes := #[34, 34] }, type := 4, pos := "law.go:135", after := #[{ on := 23, ground := Go.Ground.data }, { on := 24, ground := Go.Ground.data }, { on := 22, ground := Go.Ground.chain }, { on := 22, ground := Go.Ground.guard }], guard := some (22, true) })) rfl (fun Kc hKc => ?_) AllReadyH.nil
            go_simp
            (go_at_call 19; (with_reducible refine (L3.same12 HSV.out (by omega) (by assumption)).mono ?_); rintro e w5 ⟨rfl, K2⟩; rw [T12.out])
            try go_wp2_with fail
            refine hKc.out _ _ (L3.all (by assumption)) (fun hHeld => ?_)
            clear hKc Kc
            try simp only [Act.put, List.setIfInBounds_toArray, List.set_cons_zero, List.set_cons_succ]
            refine wpAnyH_take (i := 26) (oi := ({ dst := some 101, op := Go.Op.unOp Go.UnOp.not 4 (Go.Operand.tmp 100), type := 4, pos := "law.go:135", after := #[{ on := 25, ground := Go.Ground.data }, { on := 22, ground := Go.Ground.guard }], guard := some (22, true) })) (v := ?_) rfl (by kernel_rfl) (by kernel_rfl) (by kernel_rfl) (fun _ _ _ h => h) (Or.inl ⟨by rfl, ?_⟩) (by assumption) ?_
            rotate_left
            · first | exact fun _ _ => rfl | (intro w hSw; (try dsimp only at hSw); go_simp; try with_reducible rfl)
            try simp only [Act.put, List.setIfInBounds_toArray, List.set_cons_zero, List.set_cons_succ]
            refine wpAnyH_take (i := 27) (oi := ({ dst := some 102, op := Go.Op.move (Go.Operand.tmp 101), type := 4, pos := "law.go:135", after := #[{ on := 26, ground := Go.Ground.data }, { on := 25, ground := Go.Ground.chain }, { on := 22, ground := Go.Ground.guard }], guard := some (22, true) })) (v := ?_) rfl (by kernel_rfl) (by kernel_rfl) (by kernel_rfl) (fun _ _ _ h => h) (Or.inl ⟨by rfl, ?_⟩) (by assumption) ?_
            rotate_left
            · first | exact fun _ _ => rfl | (intro w hSw; (try dsimp only at hSw); go_simp; try with_reducible rfl)
            try simp only [Act.put, List.setIfInBounds_toArray, List.set_cons_zero, List.set_cons_succ]
            refine wpAnyH_take (i := 28) (oi := ({ dst := some 103, op := Go.Op.load 34 (Go.Operand.tmp 13), type := 34, pos := "law.go:135", after := #[{ on := 27, ground := Go.Ground.guard }], guard := some (27, false) })) (v := undef) rfl (by kernel_rfl) (by kernel_rfl) (by kernel_rfl) (fun _ _ _ h => h) (Or.inr ⟨by rfl, rfl⟩) (by assumption) ?_
            try simp only [Act.put, List.setIfInBounds_toArray, List.set_cons_zero, List.set_cons_succ]
            refine wpAnyH_take (i := 29) (oi := ({ dst := some 104, op := Go.Op.load 34 (Go.Operand.tmp 14), type := 34, pos := "law.go:135", after := #[{ on := 27, ground := Go.Ground.guard }], guard := some (27, false) })) (v := undef) rfl (by kernel_rfl) (by kernel_rfl) (by kernel_rfl) (fun _ _ _ h => h) (Or.inr ⟨by rfl, rfl⟩) (by assumption) ?_
            try simp only [Act.put, List.setIfInBounds_toArray, List.set_cons_zero, List.set_cons_succ]
            refine wpAnyH_take (i := 30) (oi := ({ dst := some 105, op := Go.Op.call { callee := Go.Callee.value (Go.Operand.func 19), args := #[Go.Operand.tmp 103, Go.Operand.tmp 104], argTypes := #[34, 34] }, type := 4, pos := "law.go:135", after := #[{ on := 28, ground := Go.Ground.data }, { on := 29, ground := Go.Ground.data }, { on := 27, ground := Go.Ground.chain }, { on := 27, ground := Go.Ground.guard }], guard := some (27, false) })) (v := undef) rfl (by kernel_rfl) (by kernel_rfl) (by kernel_rfl) (fun _ _ _ h => h) (Or.inr ⟨by rfl, rfl⟩) (by assumption) ?_
            try simp only [Act.put, List.setIfInBounds_toArray, List.set_cons_zero, List.set_cons_succ]
            refine wpAnyH_take (i := 31) (oi := ({ dst := some 106, op := Go.Op.move (Go.Operand.tmp 15), type := 4, pos := "law.go:135", after := #[{ on := 27, ground := Go.Ground.guard }], guard := some (27, false) })) (v := undef) rfl (by kernel_rfl) (by kernel_rfl) (by kernel_rfl) (fun _ _ _ h => h) (Or.inr ⟨by rfl, rfl⟩) (by assumption) ?_
            try simp only [Act.put, List.setIfInBounds_toArray, List.set_cons_zero, List.set_cons_succ]
            refine wpAnyH_take (i := 32) (oi := ({ dst := some 107, op := Go.Op.binOp Go.BinOp.eql 4 (Go.Operand.tmp 105) (Go.Operand.tmp 106) 4, type := 4, pos := "law.go:135", after := #[{ on := 30, ground := Go.Ground.data }, { on := 31, ground := Go.Ground.data }, { on := 27, ground := Go.Ground.guard }], guard := some (27, false) })) (v := undef) rfl (by kernel_rfl) (by kernel_rfl) (by kernel_rfl) (fun _ _ _ h => h) (Or.inr ⟨by rfl, rfl⟩) (by assumption) ?_
            try simp only [Act.put, List.setIfInBounds_toArray, List.set_cons_zero, List.set_cons_succ]
            refine wpAnyH_take (i := 33) (oi := ({ dst := some 108, op := Go.Op.pick (Go.Operand.tmp 102) (Go.Operand.const (Go.Value.bool true)) (Go.Operand.tmp 107), type := 4, pos := "law.go:135", after := #[{ on := 27, ground := Go.Ground.data }, { on := 32, ground := Go.Ground.data }, { on := 22, ground := Go.Ground.guard }], guard := some (22, true) })) (v := ?_) rfl (by kernel_rfl) (by kernel_rfl) (by kernel_rfl) (fun _ _ _ h => h) (Or.inl ⟨by rfl, ?_⟩) (by assumption) ?_
            rotate_left
            · first | exact fun _ _ => rfl | (intro w hSw; (try dsimp only at hSw); go_simp; try with_reducible rfl)
            try simp only [Act.put, List.setIfInBounds_toArray, List.set_cons_zero, List.set_cons_succ]
            refine wpAnyH_take (i := 34) (oi := ({ dst := some 109, op := Go.Op.pick (Go.Operand.tmp 97) (Go.Operand.tmp 108) (Go.Operand.const (Go.Value.bool false)), type := 4, pos := "law.go:135", after := #[{ on := 22, ground := Go.Ground.data }, { on := 33, ground := Go.Ground.data }], guard := none })) (v := ?_) rfl (by kernel_rfl) (by kernel_rfl) (by kernel_rfl) (fun _ _ _ h => h) (Or.inl ⟨by rfl, ?_⟩) (by assumption) ?_
            rotate_left
            · first | exact fun _ _ => rfl | (intro w hSw; (try dsimp only at hSw); go_simp; try with_reducible rfl)
            try simp only [Act.put, List.setIfInBounds_toArray, List.set_cons_zero, List.set_cons_succ]
            refine wpAnyH_take (i := 35) (oi := ({ dst := some 6, op := Go.Op.assign (Go.Operand.tmp 109), type := 4, pos := "law.go:135", after := #[{ on := 34, ground := Go.Ground.data }, { on := 30, ground := Go.Ground.chain }, { on := 0, ground := Go.Ground.phase }, { on := 1, ground := Go.Ground.phase }, { on := 2, ground := Go.Ground.phase }, { on := 3, ground := Go.Ground.phase }, { on := 4, ground := Go.Ground.phase }, { on := 5, ground := Go.Ground.phase }, { on := 6, ground := Go.Ground.phase }, { on := 7, ground := Go.Ground.phase }, { on := 8, ground := Go.Ground.phase }, { on := 9, ground := Go.Ground.phase }, { on := 10, ground := Go.Ground.phase }, { on := 11, ground := Go.Ground.phase }, { on := 12, ground := Go.Ground.phase }, { on := 13, ground := Go.Ground.phase }, { on := 14, ground := Go.Ground.phase }, { on := 15, ground := Go.Ground.phase }, { on := 16, ground := Go.Ground.phase }, { on := 17, ground := Go.Ground.phase }, { on := 18, ground := Go.Ground.phase }, { on := 19, ground := Go.Ground.phase }, { on := 20, ground := Go.Ground.phase }, { on := 21, ground := Go.Ground.phase }, { on := 22, ground := Go.Ground.phase }, { on := 23, ground := Go.Ground.phase }, { on := 24, ground := Go.Ground.phase }, { on := 25, ground := Go.Ground.phase }, { on := 26, ground := Go.Ground.phase }, { on := 27, ground := Go.Ground.phase }, { on := 28, ground := Go.Ground.phase }, { on := 29, ground := Go.Ground.phase }, { on := 30, ground := Go.Ground.phase }, { on := 31, ground := Go.Ground.phase }, { on := 32, ground := Go.Ground.phase }, { on := 33, ground := Go.Ground.phase }, { on := 34, ground := Go.Ground.phase }], guard := none })) (v := ?_) rfl (by kernel_rfl) (by kernel_rfl) (by kernel_rfl) (fun _ _ _ h => h) (Or.inl ⟨by rfl, ?_⟩) (by assumption) ?_
            rotate_left
            · first | exact fun _ _ => rfl | (intro w hSw; (try dsimp only at hSw); go_simp; try with_reducible rfl)
            try simp only [Act.put, List.setIfInBounds_toArray, List.set_cons_zero, List.set_cons_succ]
            refine wpAnyH_done (by kernel_rfl) ?_ _
            go_wp2
            go_ret
            exact ⟨rfl, K2.out.be⟩

end Go.Proofs.YtojlimpooeehhaaDoor
