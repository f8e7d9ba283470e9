/- tree.Get's closure: what a path leads to. -/
import Derived.Test.YtojlimpooeehhaaDoorTGetM
import Derived.Deep.DeepCutAuto
namespace Go.Proofs.YtojlimpooeehhaaDoor
open Go.RowKit
/-- Where the getter's variables lie. -/
structure GkW (bs bc : Nat) (s : Sch) (A : Option Addr) (c : Nat) (W : World) : Prop where
  lb : bs < W.heap.size
  lc : bc < W.heap.size
  cs : W.cell? ⟨bs, 0, none⟩ = some (.slice A s.n c)
  cc : W.cell? ⟨bc, 0, none⟩ = some (.func (.func 77) #[] #[.pointer (some ⟨bs, 0, none⟩), .pointer (some ⟨bc, 0, none⟩)])
  sat : SAt W A s
theorem GkW.below {bs bc : Nat} {s : Sch} {A : Option Addr} {c : Nat} {W W' : World} (h : GkW bs bc s A c W) (hb : Below W.heap.size W W') : GkW bs bc s A c W' :=
  ⟨Nat.lt_of_lt_of_le h.lb hb.size, Nat.lt_of_lt_of_le h.lc hb.size, (hb.cell (p := ⟨bs, 0, none⟩) h.lb).trans h.cs, (hb.cell (p := ⟨bc, 0, none⟩) h.lc).trans h.cc, h.sat.below hb⟩
/-- .. and a box with a tree in it. -/
structure GB (w : World) (bs bc : Nat) (s : Sch) (A : Option Addr) (c q : Nat) (y : Tr) (A1 : Option Addr) (k1 : Nat) (A2 : Option Addr) (k2 : Nat) (W : World) : Prop where
  ckw : GkW bs bc s A c w
  t0 : TAt w (fun _ => True) y A1 A2
  box : Cell4 W q 0 y A1 k1 A2 k2
  lt : q < W.heap.size
  lo : w.heap.size ≤ q
  be : Below w.heap.size w W
theorem GB.ck {w : World} {bs bc : Nat} {s : Sch} {A : Option Addr} {c q : Nat} {y : Tr} {A1 : Option Addr} {k1 : Nat} {A2 : Option Addr} {k2 : Nat} {W : World} (h : GB w bs bc s A c q y A1 k1 A2 k2 W) : GkW bs bc s A c W := h.ckw.below h.be
theorem GB.tat {w : World} {bs bc : Nat} {s : Sch} {A : Option Addr} {c q : Nat} {y : Tr} {A1 : Option Addr} {k1 : Nat} {A2 : Option Addr} {k2 : Nat} {W : World} (h : GB w bs bc s A c q y A1 k1 A2 k2 W) : TAt W (fun _ => True) y A1 A2 := h.t0.below h.be
theorem GB.below {w : World} {bs bc : Nat} {s : Sch} {A : Option Addr} {c q : Nat} {y : Tr} {A1 : Option Addr} {k1 : Nat} {A2 : Option Addr} {k2 : Nat} {W W' : World} (h : GB w bs bc s A c q y A1 k1 A2 k2 W) (hb : Below W.heap.size W W') : GB w bs bc s A c q y A1 k1 A2 k2 W' :=
  ⟨h.ckw, h.t0, h.box.of_block (hb.block _ h.lt), Nat.lt_of_lt_of_le h.lt hb.size, h.lo, Below.step h.be hb h.be.size⟩
theorem GB.set {w : World} {bs bc : Nat} {s : Sch} {A : Option Addr} {c q : Nat} {y : Tr} {A1 : Option Addr} {k1 : Nat} {A2 : Option Addr} {k2 : Nat} {W : World} (h : GB w bs bc s A c q y A1 k1 A2 k2 W) {p : Addr} (h1 : q ≠ p.block) (h2 : w.heap.size ≤ p.block) (u : Value) : GB w bs bc s A c q y A1 k1 A2 k2 (W.setCell p u) :=
  ⟨h.ckw, h.t0, h.box.of_block (Below.heap_setCell W p u q h1), Nat.lt_of_lt_of_le h.lt ((Below.refl 0 W).setCell (Nat.zero_le _) u).size, h.lo, h.be.setCell h2 u⟩
theorem GB.drew {w : World} {bs bc : Nat} {s : Sch} {A : Option Addr} {c q : Nat} {y : Tr} {A1 : Option Addr} {k1 : Nat} {A2 : Option Addr} {k2 : Nat} {W : World} (h : GB w bs bc s A c q y A1 k1 A2 k2 W) : GB w bs bc s A c q y A1 k1 A2 k2 W.drew := h.below (Below.refl _ _).drew
theorem GB.all {w : World} {bs bc : Nat} {s : Sch} {A : Option Addr} {c q : Nat} {y : Tr} {A1 : Option Addr} {k1 : Nat} {A2 : Option Addr} {k2 : Nat} {W : World} (h : GB w bs bc s A c q y A1 k1 A2 k2 W) :
    W.cell? ⟨bs, 0, none⟩ = some (.slice A s.n c) ∧ W.cell? ⟨bc, 0, none⟩ = some (.func (.func 77) #[] #[.pointer (some ⟨bs, 0, none⟩), .pointer (some ⟨bc, 0, none⟩)]) ∧ W.cell? ⟨q, 0, none⟩ = some (.int .u64 (y.num : Nat)) ∧ W.cell? ⟨q, 1, none⟩ = some (.string y.bs) ∧ W.cell? ⟨q, 2, none⟩ = some (.slice A1 y.nl k1) ∧ W.cell? ⟨q, 3, none⟩ = some (.slice A2 y.kl k2) ∧ GB w bs bc s A c q y A1 k1 A2 k2 W :=
  ⟨h.ck.cs, h.ck.cc, h.box.c0, h.box.c1, h.box.c2, h.box.c3, h⟩
theorem GB.mk' {w : World} {bs bc : Nat} {s : Sch} {A : Option Addr} {c : Nat} {y : Tr} {A1 : Option Addr} {k1 : Nat} {A2 : Option Addr} {k2 : Nat} {W : World} (h : GkW bs bc s A c w) (ht : TAt w (fun _ => True) y A1 A2) (hb : Below w.heap.size w W) : GB w bs bc s A c W.heap.size y A1 k1 A2 k2 (W.alloc (.cells #[.int .u64 ((y).num : Nat), .string (y).bs, .slice A1 (y).nl k1, .slice A2 (y).kl k2] 34)) :=
  ⟨h, ht, cell4_box W y A1 k1 A2 k2, by simp, hb.size, hb.alloc hb.size _⟩
theorem GB.alloc {w : World} {bs bc : Nat} {s : Sch} {A : Option Addr} {c q : Nat} {y : Tr} {A1 : Option Addr} {k1 : Nat} {A2 : Option Addr} {k2 : Nat} {W : World} (h : GB w bs bc s A c q y A1 k1 A2 k2 W) (o : Obj) : GB w bs bc s A c q y A1 k1 A2 k2 (W.alloc o) := h.below ((Below.refl _ _).alloc (Nat.le_refl _) _)
theorem GB.sat' {w : World} {bs bc : Nat} {s : Sch} {A : Option Addr} {c q : Nat} {y : Tr} {A1 : Option Addr} {k1 : Nat} {A2 : Option Addr} {k2 : Nat} {W : World} (h : GB w bs bc s A c q y A1 k1 A2 k2 W) : SAt W A s := h.ck.sat
theorem GB.stored {w : World} {bs bc : Nat} {s : Sch} {A : Option Addr} {c q : Nat} {y : Tr} {A1 : Option Addr} {k1 : Nat} {A2 : Option Addr} {k2 : Nat} {W : World} {f : Nat → Value} (h : GkW bs bc s A c w) (ht : TAt w (fun _ => True) y A1 A2) (hq : w.heap.size ≤ q) (hb : Below w.heap.size w W) (hr : W.rowIs q 34 4 f) :
    GB w bs bc s A c q y A1 k1 A2 k2 ((((W.setCell ⟨q, 0, none⟩ (.int .u64 (y.num : Nat))).setCell ⟨q, 1, none⟩ (.string y.bs)).setCell ⟨q, 2, none⟩ (.slice A1 y.nl k1)).setCell ⟨q, 3, none⟩ (.slice A2 y.kl k2)) := by
  have r := (((hr.set 0 (.int .u64 (y.num : Nat))).set 1 (.string y.bs)).set 2 (.slice A1 y.nl k1)).set 3 (.slice A2 y.kl k2)
  exact ⟨h, ht, ⟨r.cell (i := 0) (by omega), r.cell (i := 1) (by omega), r.cell (i := 2) (by omega), r.cell (i := 3) (by omega)⟩, r.lt, hq, (((hb.setCell hq _).setCell hq _).setCell hq _).setCell hq _⟩
theorem newBox {W1 w1 : World} (hb : Below (W1.alloc (.cells #[.int .u64 0, .string ⟨#[]⟩, .slice none 0 0, .slice none 0 0] 34)).drew.heap.size (W1.alloc (.cells #[.int .u64 0, .string ⟨#[]⟩, .slice none 0 0, .slice none 0 0] 34)).drew w1) :
    w1.cell? ⟨W1.heap.size, 0, none⟩ = some (.int .u64 0) ∧ w1.cell? ⟨W1.heap.size, 1, none⟩ = some (.string ⟨#[]⟩) ∧ w1.cell? ⟨W1.heap.size, 2, none⟩ = some (.slice none 0 0) ∧ w1.cell? ⟨W1.heap.size, 3, none⟩ = some (.slice none 0 0) ∧ (∀ o, w1.frozen? ⟨W1.heap.size, o, none⟩ = false) ∧ w1.rowIs W1.heap.size 34 4 (fun j => if j = 0 then .int .u64 0 else if j = 1 then .string ⟨#[]⟩ else .slice none 0 0) := by
  have h0 : W1.heap.size < (W1.alloc (.cells #[.int .u64 0, .string ⟨#[]⟩, .slice none 0 0, .slice none 0 0] 34)).drew.heap.size := by simp
  exact ⟨(hb.cell (p := ⟨W1.heap.size, 0, none⟩) h0).trans (by simp), (hb.cell (p := ⟨W1.heap.size, 1, none⟩) h0).trans (by simp), (hb.cell (p := ⟨W1.heap.size, 2, none⟩) h0).trans (by simp), (hb.cell (p := ⟨W1.heap.size, 3, none⟩) h0).trans (by simp), fun o => (hb.frozen (p := ⟨W1.heap.size, o, none⟩) h0).trans (by simp), (((World.rowIs_alloc W1 #[.int .u64 0, .string ⟨#[]⟩, .slice none 0 0, .slice none 0 0] 34 _ (by intro j hj; match j, hj with | 0, _ => rfl | 1, _ => rfl | 2, _ => rfl | 3, _ => rfl)).drew).of_block (hb.block _ h0))⟩
theorem GB.all2 {w : World} {bs bc : Nat} {s : Sch} {A : Option Addr} {c q : Nat} {y : Tr} {A1 : Option Addr} {k1 : Nat} {A2 : Option Addr} {k2 : Nat} {W : World} (h : GB w bs bc s A c q y A1 k1 A2 k2 W) {b o : Nat} (hb : b < w.heap.size) {z : Tr} {A3 : Option Addr} {k3 : Nat} {A4 : Option Addr} {k4 : Nat} (h4 : Cell4 w b o z A3 k3 A4 k4) :
    W.cell? ⟨bs, 0, none⟩ = some (.slice A s.n c) ∧ W.cell? ⟨bc, 0, none⟩ = some (.func (.func 77) #[] #[.pointer (some ⟨bs, 0, none⟩), .pointer (some ⟨bc, 0, none⟩)]) ∧ W.cell? ⟨q, 0, none⟩ = some (.int .u64 (y.num : Nat)) ∧ W.cell? ⟨q, 1, none⟩ = some (.string y.bs) ∧ W.cell? ⟨q, 2, none⟩ = some (.slice A1 y.nl k1) ∧ W.cell? ⟨q, 3, none⟩ = some (.slice A2 y.kl k2) ∧ W.cell? ⟨b, o, none⟩ = some (.int .u64 (z.num : Nat)) ∧ W.cell? ⟨b, o + 1, none⟩ = some (.string z.bs) ∧ W.cell? ⟨b, o + 2, none⟩ = some (.slice A3 z.nl k3) ∧ W.cell? ⟨b, o + 3, none⟩ = some (.slice A4 z.kl k4) ∧ GB w bs bc s A c q y A1 k1 A2 k2 W :=
  have g := h4.of_block (h.be.block b hb)
  ⟨h.ck.cs, h.ck.cc, h.box.c0, h.box.c1, h.box.c2, h.box.c3, g.c0, g.c1, g.c2, g.c3, h⟩
theorem chk_inv {s : Sch} {d t : Nat} {x : Tr} (h : chk s d t x = 0) : ∃ e, d = e + 1 ∧ structOk s t x ∧ ∀ i, i < x.kl → kindOk (s.k t i) (x.kf i) ∧ ∀ j, j < (x.kf i).kl → chk s e (s.t t i).toNat ((x.kf i).kf j) = 0 := by
  cases d with
  | zero => rw [chk] at h; omega
  | succ e =>
    refine ⟨e, rfl, ?_⟩
    rw [chk_succ] at h
    by_cases hs : structOk s t x
    · rw [if_pos hs] at h
      refine ⟨hs, fun i hi => ?_⟩
      have h1 := fe_zero.1 h i hi
      simp only [chkF] at h1
      by_cases hk : kindOk (s.k t i) (x.kf i)
      · rw [if_pos hk] at h1
        exact ⟨hk, fe_zero.1 h1⟩
      · rw [if_neg hk] at h1; omega
    · rw [if_neg hs] at h; omega

set_option maxRecDepth 100000 in
set_option maxHeartbeats 4000000 in
theorem get1_any (s : Sch) (hR : RightS s) (A : Option Addr) (c : Nat) (bs bc : Nat) (n : Nat) : ∀ (t d k : Nat) (x : Tr) (An Ak Ap : Option Addr) (cn ck cp : Nat) (p : List Int) (w : World), t < s.n → chk s d t x = 0 → Sm k x → GkW bs bc s A c w → TAt w (fun _ => True) x An Ak → PRow w Ap p → 0 < p.length → p.length ≤ n → p.length ≤ cp → p.length ≤ 1000 →
    Calls Tryd.prog 77 #[.int .i64 (t : Int), (.agg #[.int .u64 ((x).num : Nat), .string (x).bs, .slice An (x).nl cn, .slice Ak (x).kl ck]), .slice Ap p.length cp, .pointer (some ⟨bs, 0, none⟩), .pointer (some ⟨bc, 0, none⟩)] w fun e w' => e = .returned (gotV (getT s n t x p)) ∧ Below w.heap.size w w' := by
  induction n with
  | zero => intro t d k x An Ak Ap cn ck cp p w _ _ _ _ _ _ h1 h2; omega
  | succ n ih =>
    intro t d k x An Ak Ap cn ck cp p w ht hX hS hck hT hP hp0 hpn hpc hp1
    cases p with
    | nil => simp at hp0
    | cons i rest =>
      have IH := Lib.hid ih
      have HS := Lib.hid hS
      have HX := Lib.hid hX
      have HT := Lib.hid hT
      have HR := Lib.hid hR
      have HP := Lib.hid hP
      obtain ⟨g1, g2, g3, hk5⟩ := hS.le
      have H0 := Lib.hid (GB.mk' (w := w) (k1 := cn) (k2 := ck) hck hT (Below.refl _ _))
      obtain ⟨bp, op, rfl, hbp, hcp⟩ := hP.head
      have HPT := Lib.hid (hP.tail (c := cp) (by simpa using hpc))
      clear ih hS hck hT hX hR hP g1 g2 g3 hp0
      rw [List.length_cons] at hpn hpc hp1 ⊢
      obtain ⟨L, HL⟩ : ∃ L, Hid (rest.length = L) := ⟨_, Lib.hid rfl⟩
      rw [HL.out] at hpn hpc hp1 ⊢
      have hs1 := slice1 (some ⟨bp, op, none⟩) L cp
      obtain ⟨Ar, HAr⟩ : ∃ Ar, Hid (behind (some ⟨bp, op, none⟩) cp = Ar) := ⟨_, Lib.hid rfl⟩
      rw [HAr.out] at hs1 HPT
      have hpz : 0 < L + 1 := by omega
      go_enter Tryd.func77, Tryd.ntmps77
      go_wp2_with fail
      go_region_held3 (fun w' => w'.cell? ⟨bs, 0, none⟩ = some (.slice A s.n c) ∧ w'.cell? ⟨bc, 0, none⟩ = some (.func (.func 77) #[] #[.pointer (some ⟨bs, 0, none⟩), .pointer (some ⟨bc, 0, none⟩)]) ∧ w'.cell? ⟨w.heap.size, 0, none⟩ = some (.int .u64 ((x).num : Nat)) ∧ w'.cell? ⟨w.heap.size, 1, none⟩ = some (.string (x).bs) ∧ w'.cell? ⟨w.heap.size, 2, none⟩ = some (.slice An (x).nl cn) ∧ w'.cell? ⟨w.heap.size, 3, none⟩ = some (.slice Ak (x).kl ck) ∧ w'.cell? ⟨bp, op, none⟩ = some (.int .i64 i) ∧ GB w bs bc s A c w.heap.size x An cn Ak ck w')
        (first | exact ⟨H0.out.drew.ck.cs, H0.out.drew.ck.cc, H0.out.drew.box.c0, H0.out.drew.box.c1, H0.out.drew.box.c2, H0.out.drew.box.c3, (H0.out.drew.be.cell (p := ⟨bp, op, none⟩) hbp).trans hcp, H0.out.drew⟩ | assumption)
        (fail)
      clear hs1
      have K1 := Lib.hid H0.out.drew
      clear H0
      generalize (w.alloc (.cells #[.int .u64 ((x).num : Nat), .string (x).bs, .slice An (x).nl cn, .slice Ak (x).kl ck] 34)).drew = W1 at K1 ⊢
      have c3 := K1.out.box.c3
      simp only [Nat.zero_add] at c3
      go_wp2_with fail
      refine (isAmong_any i x.kl _).mono ?_
      rintro e w' ⟨rfl, rfl⟩
      obtain ⟨d, rfl, hst, hXX⟩ := chk_inv HX.out
      have HST := Lib.hid hst
      have HXX := Lib.hid hXX
      clear hst hXX
      by_cases hi : 0 ≤ i ∧ i < x.kl
      · rw [decide_eq_true hi]
        obtain ⟨i, rfl⟩ : ∃ m : Nat, i = m := ⟨i.toNat, by omega⟩
        have hin : i < x.kl := by omega
        have hil : i < s.len t := by rw [← HST.out.2.2.2]; exact hin
        obtain ⟨b, off, rfl, -, hlt, hc⟩ := HT.out.kids (by omega)
        obtain ⟨A1, k1, A2, k2, h4, hty⟩ := hc i hin
        have HKA := Lib.hid (kAt_nat ht hil)
        have HTA := Lib.hid (tAt_nat HR.out ht hil)
        obtain ⟨f1, f2, -, -⟩ := HR.out.field ht hil
        have hys := HS.out
        obtain ⟨k, rfl⟩ := hys.pos
        have HSY := Lib.hid (hys.kid hin)
        have HYK := Lib.hid (HXX.out i hin)
        have HY4 := Lib.hid h4
        have HTY := Lib.hid hty
        obtain ⟨y, HY⟩ : ∃ y, Hid (x.kf i = y) := ⟨_, Lib.hid rfl⟩
        obtain ⟨κ, HKK⟩ : ∃ κ, Hid (s.k t i = κ) := ⟨_, Lib.hid rfl⟩
        have HG1 := Lib.hid (getT_one (s := s) (n := n) (t := t) hin)
        have HG2 : Hid (∀ j more, getT s (n + 1) t x ((i : Int) :: j :: more) = _) := Lib.hid fun j more => getT_more (s := s) (n := n) (t := t) (j := j) (more := more) hin
        rw [HY.out, HKK.out] at HG1 HG2
        rw [HY.out] at HSY HYK HY4 HTY
        rw [HKK.out] at HKA HYK f1 f2
        have hyk := HSY.out.le.2.2.2
        have hi0 : (0 : Int) ≤ (i : Int) := by omega
        clear h4 hty hys hc hi
        go_upto_region 4 with (fail)
        clear c3
        go_cut [12, 13] from 29 (fun qv kv wc => ∃ q : Nat, qv = .pointer (some ⟨q, 0, none⟩) ∧ kv = .int .i64 κ ∧ Hid (GB w bs bc s A c q y A1 k1 A2 k2 wc))
        case first =>
          have q0 := K1.out.ck.cs
          have q1 := HY4.out.of_block (K1.out.be.block b hlt)
          obtain ⟨y0, y1, y2, y3⟩ := q1
          have c3 := K1.out.box.c3
          simp only [Nat.zero_add] at c3
          have hl1 := K1.out.lt
          have hl2 : b < W1.heap.size := by have := K1.out.be.size; omega
          have hl3 := K1.out.ck.lb
          go_region_with (
              (go_at_call 79; (with_reducible refine Calls.mono (kind_any s A c t i _ ?_) ?_); (refine GB.sat' (w := w) (bs := bs) (bc := bc) (c := c) (q := w.heap.size) (y := x) (A1 := An) (k1 := cn) (A2 := some ⟨b, off, none⟩) (k2 := ck) ?_; repeat (first | with_reducible exact K1.out | with_reducible refine GB.drew ?_ | with_reducible refine GB.alloc ?_ _)); rintro e w1 ⟨rfl, hb⟩; have K2 : Hid (GB w bs bc s A c w.heap.size x An cn (some ⟨b, off, none⟩) ck w1) := Lib.hid (by refine GB.below ?_ hb; repeat (first | with_reducible exact K1.out | with_reducible refine GB.drew ?_ | with_reducible refine GB.alloc ?_ _)); (first | (have zz := newBox hb; obtain ⟨z0, z1, z2, z3, zf, hr⟩ := zz; have HZR := Lib.hid hr; clear hr) | skip); have hz1 := hb.size; clear hb; have aa := K2.out.all2 hlt HY4.out; obtain ⟨a0, a1, a2, a3, a4, a5, a6, a7, a8, a9, -⟩ := aa; have l1 : b < w1.heap.size := Nat.lt_of_lt_of_le hlt K2.out.be.size; have l2 := K2.out.lt; have l3 := K2.out.ck.lb; rw [HKA.out]))
          all_goals
            go_wp2_with fail
            go_meet
            case rel => first | exact ⟨_, rfl, rfl, Lib.hid (GB.mk' K2.out.ckw HTY.out K2.out.be)⟩ | exact ⟨_, rfl, rfl, Lib.hid (GB.stored K2.out.ckw HTY.out (by omega) K2.out.be HZR.out)⟩
        case rest =>
          obtain ⟨q, rfl, rfl, K3⟩ := hcut
          clear K1 HY4
          cases rest with
          | nil =>
            obtain rfl : L = 0 := HL.out.symm
            have c0 := K3.out.box.c0
            have c1 := K3.out.box.c1
            have c2 := K3.out.box.c2
            have c3 := K3.out.box.c3
            simp only [Nat.zero_add] at c0 c1 c2 c3
            go_wp2_with fail
            refine (itself_any κ y A1 A2 k1 k2 _ HSY.out _).mono ?_
            rintro e w2 ⟨rfl, hb⟩
            have K4 := Lib.hid (K3.out.below hb)
            clear hb
            go_wp2
            go_ret2
            exact ⟨by rw [HG1.out, gotV_0]; rfl, K4.out.be⟩
          | cons j more =>
            obtain ⟨L', rfl⟩ : ∃ l, L = l + 1 := ⟨L - 1, by have := HL.out; simp at this; omega⟩
            have HL' : Hid (more.length = L') := Lib.hid (by have := HL.out; simpa using this)
            clear HL
            have HG := Lib.hid (HG2.out j more)
            clear HG1 HG2
            have c0 := K3.out.box.c0
            have c1 := K3.out.box.c1
            have c2 := K3.out.box.c2
            have c3 := K3.out.box.c3
            simp only [Nat.zero_add] at c0 c1 c2 c3
            have hne : ((L' : Int) + 1 == 0) = false := by simp; omega
            have hne2 : ((L' : Int) + 1 = 0) = False := by simp; omega
            have hpw := HPT.out.below K3.out.be
            have HPW := Lib.hid hpw
            clear hpw
            obtain rfl | rfl | rfl | rfl | rfl : κ = 1 ∨ κ = 2 ∨ κ = 3 ∨ κ = 4 ∨ κ = 5 := by omega
            · go_wp2_with fail
              refine (Cs.new_code 24 _ rfl).mono ?_
              rintro e w' ⟨rfl, rfl⟩
              go_wp2
              go_ret2
              exact ⟨by rw [show getT s (n + 1) t x ((i : Int) :: j :: more) = (0, 24) by rw [HG.out]; simp, gotV_e _ (by omega)]; rfl, K3.out.be⟩
            · go_wp2_with fail
              refine (numbers_any y.bs HSY.out.le.2.1 _).mono ?_
              rintro e w2 ⟨A5, c5, rfl, hw5, hb⟩
              have K4 := Lib.hid (K3.out.below hb)
              have HW5 := Lib.hid hw5
              have HP5 := Lib.hid (HPW.out.below hb)
              clear hb hw5
              go_wp2_with fail
              have hit := item_any A5 y.bs.size c5 (byteN y.bs) (by have := HSY.out.le.2.1; omega) Ar (cp - 1) j more (by rw [HL'.out]; omega) _ HW5.out HP5.out
              rw [HL'.out] at hit
              refine hit.mono ?_
              rintro e w3 ⟨rfl, hb⟩
              have K5 := Lib.hid (K4.out.below hb)
              clear hb hit
              unfold gotV
              go_wp2
              go_ret2
              exact ⟨by rw [show getT s (n + 1) t x ((i : Int) :: j :: more) = itemT y.bs.size (byteN y.bs) j more by rw [HG.out]; simp]; rfl, K5.out.be⟩
            · go_wp2_with fail
              have hit := item_any A1 y.nl k1 y.nf (by have := HSY.out.le.2.2.1; omega) Ar (cp - 1) j more (by rw [HL'.out]; omega) _ K3.out.tat.nums HPW.out
              rw [HL'.out] at hit
              refine hit.mono ?_
              rintro e w3 ⟨rfl, hb⟩
              have K5 := Lib.hid (K3.out.below hb)
              clear hb hit
              unfold gotV
              go_wp2
              go_ret2
              exact ⟨by rw [show getT s (n + 1) t x ((i : Int) :: j :: more) = itemT y.nl y.nf j more by rw [HG.out]; simp]; rfl, K5.out.be⟩
            · go_wp2_with fail
              refine (isAmong_any 0 y.kl _).mono ?_
              rintro e w' ⟨rfl, rfl⟩
              by_cases hyl : 0 < y.kl
              · rw [decide_eq_true (show (0 : Int) ≤ 0 ∧ (0 : Int) < (y.kl : Int) by omega)]
                have HG' : Hid (getT s (n + 1) t x ((i : Int) :: j :: more) = getT s n (s.t t i).toNat (y.kf 0) (j :: more)) := Lib.hid (by rw [HG.out]; simp [hyl])
                obtain ⟨b2, o2, hA2, -, hlt2, hc2⟩ := K3.out.t0.kids (by omega)
                obtain ⟨A3, k3, A4, k4, h4, htz⟩ := hc2 0 hyl
                subst hA2
                have h4' := h4.of_block (K3.out.be.block b2 hlt2)
                obtain ⟨z0, z1, z2, z3⟩ := h4'
                have hys := HSY.out
                obtain ⟨k, rfl⟩ := hys.pos
                have HSZ := Lib.hid (hys.kid hyl)
                have HCZ := Lib.hid (HYK.out.2 0 hyl)
                have K6 := Lib.hid (GB.mk' (k1 := k3) (k2 := k4) K3.out.ckw htz K3.out.be)
                obtain ⟨z, HZ⟩ : ∃ z, Hid (y.kf 0 = z) := ⟨_, Lib.hid rfl⟩
                have HTZ := Lib.hid htz
                rw [HZ.out] at z0 z1 z2 z3 HSZ HCZ K6 HTZ
                clear h4 htz hys hc2
                simp only [Nat.zero_mul, Nat.add_zero] at z0 z1 z2 z3
                go_wp2_with fail
                clear z0 z1 z2 z3 c0 c1 c2 c3 hne hne2
                generalize wc.heap.size = q' at K6 ⊢
                have HPX := Lib.hid HPT
                obtain ⟨τ, HTT⟩ : ∃ τ, Hid ((s.t t i).toNat = τ) := ⟨_, Lib.hid rfl⟩
                have hτ : τ < s.n := by rw [← HTT.out]; exact HR.out.tlt ht hil
                rw [HTT.out] at HTA HCZ
                go_region_held3 (fun w' => w'.cell? ⟨bs, 0, none⟩ = some (.slice A s.n c) ∧ w'.cell? ⟨bc, 0, none⟩ = some (.func (.func 77) #[] #[.pointer (some ⟨bs, 0, none⟩), .pointer (some ⟨bc, 0, none⟩)]) ∧ w'.cell? ⟨q', 0, none⟩ = some (.int .u64 ((z).num : Nat)) ∧ w'.cell? ⟨q', 1, none⟩ = some (.string (z).bs) ∧ w'.cell? ⟨q', 2, none⟩ = some (.slice A3 (z).nl k3) ∧ w'.cell? ⟨q', 3, none⟩ = some (.slice A4 (z).kl k4) ∧ GB w bs bc s A c q' z A3 k3 A4 k4 w')
                  (first | exact K6.out.drew.all | exact K7.out.all | exact K8.out.all | assumption)
                  (first
                    | (go_at_call 83; (with_reducible refine (type_any s A c t i _ K6.out.drew.ck.sat).mono ?_); rintro e w1 ⟨rfl, hb⟩; have K7 := Lib.hid (K6.out.drew.below hb); clear hb; rw [HTA.out])
                    | (go_at_call 77; (have hit := IH.out τ _ _ z A3 A4 Ar k3 k4 (cp - 1) (j :: more) _ hτ HCZ.out HSZ.out K7.out.ck K7.out.tat (HPT.out.below K7.out.be) (by rw [List.length_cons]; omega) (by rw [List.length_cons, HL'.out]; omega) (by rw [List.length_cons, HL'.out]; omega) (by rw [List.length_cons, HL'.out]; omega)); (rw [List.length_cons, HL'.out] at hit); (with_reducible refine hit.mono ?_); rintro e w2 ⟨rfl, hb⟩; have K8 := Lib.hid (K7.out.below hb); clear hb hit; unfold gotV))
                all_goals
                  go_wp2
                  go_ret2
                  exact ⟨by rw [HG'.out, HTT.out, HZ.out]; rfl, K8.out.be⟩
              · rw [decide_eq_false (show ¬ ((0 : Int) ≤ 0 ∧ (0 : Int) < (y.kl : Int)) by omega)]
                have HG' : Hid (getT s (n + 1) t x ((i : Int) :: j :: more) = (0, 12)) := Lib.hid (by rw [HG.out]; simp [hyl])
                go_wp2_with fail
                refine (Cs.new_code 12 _ rfl).mono ?_
                rintro e w' ⟨rfl, rfl⟩
                go_wp2
                go_ret2
                exact ⟨by rw [HG'.out, gotV_e _ (by omega)]; rfl, K3.out.be⟩
            · obtain ⟨b5, o5, rfl, hb5, hc5⟩ := HPT.out.head
              have hs2 := slice1 (some ⟨b5, o5, none⟩) L' (cp - 1)
              obtain ⟨As, HAs⟩ : ∃ As, Hid (behind (some ⟨b5, o5, none⟩) (cp - 1) = As) := ⟨_, Lib.hid rfl⟩
              have HPS := Lib.hid (HPT.out.tail (c := cp - 1) (by rw [HL'.out]; omega))
              rw [HAs.out] at hs2 HPS
              have hpz2 : 0 < L' + 1 := by omega
              go_wp2_with fail
              clear c0 c1 c2 c3
              go_region_held3 (fun w' => w'.cell? ⟨bs, 0, none⟩ = some (.slice A s.n c) ∧ w'.cell? ⟨bc, 0, none⟩ = some (.func (.func 77) #[] #[.pointer (some ⟨bs, 0, none⟩), .pointer (some ⟨bc, 0, none⟩)]) ∧ w'.cell? ⟨q, 0, none⟩ = some (.int .u64 ((y).num : Nat)) ∧ w'.cell? ⟨q, 1, none⟩ = some (.string (y).bs) ∧ w'.cell? ⟨q, 2, none⟩ = some (.slice A1 (y).nl k1) ∧ w'.cell? ⟨q, 3, none⟩ = some (.slice A2 (y).kl k2) ∧ w'.cell? ⟨b5, o5, none⟩ = some (.int .i64 j) ∧ GB w bs bc s A c q y A1 k1 A2 k2 w')
                (first | exact ⟨K3.out.drew.ck.cs, K3.out.drew.ck.cc, K3.out.drew.box.c0, K3.out.drew.box.c1, K3.out.drew.box.c2, K3.out.drew.box.c3, (K3.out.drew.be.cell (p := ⟨b5, o5, none⟩) hb5).trans hc5, K3.out.drew⟩ | assumption)
                (fail)
              clear hs2
              have K4 := Lib.hid K3.out.drew
              generalize wc.drew = W4 at K4 ⊢
              have c3 := K4.out.box.c3
              simp only [Nat.zero_add] at c3
              go_wp2_with fail
              refine (isAmong_any j y.kl _).mono ?_
              rintro e w' ⟨rfl, rfl⟩
              by_cases hj : 0 ≤ j ∧ j < y.kl
              · rw [decide_eq_true hj]
                obtain ⟨j, rfl⟩ : ∃ m : Nat, j = m := ⟨j.toNat, by omega⟩
                have hJ : j < y.kl := by omega
                obtain ⟨b2, o2, hA2, -, hlt2, hc2⟩ := K4.out.t0.kids (by omega)
                obtain ⟨A3, k3, A4, k4, h4, htz⟩ := hc2 j hJ
                subst hA2
                have h4' := h4.of_block (K4.out.be.block b2 hlt2)
                obtain ⟨z0, z1, z2, z3⟩ := h4'
                have hys := HSY.out
                obtain ⟨k, rfl⟩ := hys.pos
                have HSZ := Lib.hid (hys.kid hJ)
                have HCZ := Lib.hid (HYK.out.2 j hJ)
                have K6 := Lib.hid (GB.mk' (k1 := k3) (k2 := k4) K4.out.ckw htz K4.out.be)
                obtain ⟨z, HZ⟩ : ∃ z, Hid (y.kf j = z) := ⟨_, Lib.hid rfl⟩
                have HTZ := Lib.hid htz
                rw [HZ.out] at z0 z1 z2 z3 HSZ HCZ K6 HTZ
                have hi0 : (0 : Int) ≤ ((j : Nat) : Int) := by omega
                clear h4 htz hys hc2
                cases more with
                | nil =>
                  have HG' : Hid (getT s (n + 1) t x ((i : Int) :: (j : Int) :: []) = ((y.kf j).kl, 0)) := Lib.hid (by rw [HG.out]; simp [hJ])
                  obtain rfl : L' = 0 := HL'.out.symm
                  have hzk := HSZ.out.le.2.2.2
                  go_wp2
                  go_ret2
                  exact ⟨by rw [HG'.out, gotV_0, HZ.out]; simp, K6.out.be⟩
                | cons i2 m2 =>
                  have HG' : Hid (getT s (n + 1) t x ((i : Int) :: (j : Int) :: i2 :: m2) = getT s n (s.t t i).toNat (y.kf j) (i2 :: m2)) := Lib.hid (by rw [HG.out]; simp [hJ])
                  have hL2 : 1 ≤ L' := by have := HL'.out; simp at this; omega
                  have e1 : ((L' : Int) == 0) = false := by simp; omega
                  have e2 : ((L' : Int) = 0) = False := by simp; omega
                  have e3 : (L' = 0) = False := by simp; omega
                  go_wp2_with fail
                  clear z0 z1 z2 z3 c3 hne hne2 e1 e2 e3
                  generalize W4.heap.size = q' at K6 ⊢
                  obtain ⟨τ, HTT⟩ : ∃ τ, Hid ((s.t t i).toNat = τ) := ⟨_, Lib.hid rfl⟩
                  have hτ : τ < s.n := by rw [← HTT.out]; exact HR.out.tlt ht hil
                  rw [HTT.out] at HTA HCZ
                  go_region_held3 (fun w' => w'.cell? ⟨bs, 0, none⟩ = some (.slice A s.n c) ∧ w'.cell? ⟨bc, 0, none⟩ = some (.func (.func 77) #[] #[.pointer (some ⟨bs, 0, none⟩), .pointer (some ⟨bc, 0, none⟩)]) ∧ w'.cell? ⟨q', 0, none⟩ = some (.int .u64 ((z).num : Nat)) ∧ w'.cell? ⟨q', 1, none⟩ = some (.string (z).bs) ∧ w'.cell? ⟨q', 2, none⟩ = some (.slice A3 (z).nl k3) ∧ w'.cell? ⟨q', 3, none⟩ = some (.slice A4 (z).kl k4) ∧ GB w bs bc s A c q' z A3 k3 A4 k4 w')
                    (first | exact K6.out.drew.all | exact K7.out.all | exact K8.out.all | assumption)
                    (first
                      | (go_at_call 83; (with_reducible refine (type_any s A c t i _ K6.out.drew.ck.sat).mono ?_); rintro e w1 ⟨rfl, hb⟩; have K7 := Lib.hid (K6.out.drew.below hb); clear hb; rw [HTA.out])
                      | (go_at_call 77; (have hit := IH.out τ _ _ z A3 A4 As k3 k4 (cp - 1 - 1) (i2 :: m2) _ hτ HCZ.out HSZ.out K7.out.ck K7.out.tat (HPS.out.below K7.out.be) (by rw [List.length_cons]; omega) (by rw [HL'.out]; omega) (by rw [HL'.out]; omega) (by rw [HL'.out]; omega)); (rw [HL'.out] at hit); (with_reducible refine hit.mono ?_); rintro e w2 ⟨rfl, hb⟩; have K8 := Lib.hid (K7.out.below hb); clear hb hit; unfold gotV))
                  all_goals
                    go_wp2
                    go_ret2
                    exact ⟨by rw [HG'.out, HTT.out, HZ.out]; rfl, K8.out.be⟩
              · rw [decide_eq_false hj]
                have HG' : Hid (getT s (n + 1) t x ((i : Int) :: j :: more) = (0, 12)) := Lib.hid (by rw [HG.out]; simp only [show ((5 : Int) = 1) = False by simp, show ((5 : Int) = 2) = False by simp, show ((5 : Int) = 3) = False by simp, show ((5 : Int) = 4) = False by simp, if_false]; rw [if_neg hj])
                go_wp2_with fail
                refine (Cs.new_code 12 _ rfl).mono ?_
                rintro e w' ⟨rfl, rfl⟩
                go_wp2
                go_ret2
                exact ⟨by rw [HG'.out, gotV_e _ (by omega)]; rfl, K4.out.be⟩
      · rw [decide_eq_false hi]
        have HG : Hid (getT s (n + 1) t x (i :: rest) = (0, 1)) := Lib.hid (getT_no hi)
        go_wp2_with fail
        refine (Cs.new_code 1 _ rfl).mono ?_
        rintro e w' ⟨rfl, rfl⟩
        go_wp2
        go_ret2
        exact ⟨by rw [HG.out, gotV_e _ (by omega)]; rfl, K1.out.be⟩

end Go.Proofs.YtojlimpooeehhaaDoor
