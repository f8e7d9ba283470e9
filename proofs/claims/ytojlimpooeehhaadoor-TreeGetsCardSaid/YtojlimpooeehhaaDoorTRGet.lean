/- The document's Get: what a path leads to. -/
import Derived.Test.YtojlimpooeehhaaDoorTRef6b
import Derived.Deep.DeepCutAuto
import Derived.Deep.CutBlock
namespace Go.Proofs.YtojlimpooeehhaaDoor
open Go.RowKit
/-- A number and a code. -/
def gotG (g : Nat × Nat) : Value := .agg #[.int .u64 (g.1 : Nat), .int .i64 (g.2 : Nat)]
/-- Within get: the struct's box, the result's. -/
structure GX (w : World) (x : Tr) (An : Option Addr) (cn : Nat) (Ak : Option Addr) (ck : Nat) (W : World) : Prop where
  be : Below w.heap.size w W
  bx : Cell4 W w.heap.size 0 x An cn Ak ck
  rr : W.rowIs (w.heap.size + 1) 78 2 (fun j => if j = 0 then .int .u64 0 else .int .i64 0)
theorem GX.below {w : World} {x : Tr} {An : Option Addr} {cn : Nat} {Ak : Option Addr} {ck : Nat} {W W' : World} (h : GX w x An cn Ak ck W) (hb : Below W.heap.size W W') : GX w x An cn Ak ck W' := ⟨Below.step h.be hb h.be.size, h.bx.of_block (hb.block _ (by have := h.rr.lt; omega)), h.rr.of_block (hb.block _ h.rr.lt)⟩
theorem GX.mk' (w : World) (x : Tr) (An : Option Addr) (cn : Nat) (Ak : Option Addr) (ck : Nat) : GX w x An cn Ak ck ((w.alloc (.cells #[.int .u64 ((x).num : Nat), .string (x).bs, .slice An (x).nl cn, .slice Ak (x).kl ck] 34)).alloc (.cells #[.int .u64 0, .int .i64 0] 78)) := by
  have hb : Below w.heap.size w ((w.alloc (.cells #[.int .u64 ((x).num : Nat), .string (x).bs, .slice An (x).nl cn, .slice Ak (x).kl ck] 34)).alloc (.cells #[.int .u64 0, .int .i64 0] 78)) := by (repeat (first | with_reducible exact Below.refl _ _ | with_reducible refine Below.drew ?_ | (with_reducible refine Below.setCell ?_ ?side _; case side => exact (by first | (simp; done) | (simp; omega) | omega)) | (with_reducible refine Below.alloc ?_ ?side _; case side => exact (by first | (simp; done) | (simp; omega) | omega))))
  have r := World.rowIs_alloc (w.alloc (.cells #[.int .u64 ((x).num : Nat), .string (x).bs, .slice An (x).nl cn, .slice Ak (x).kl ck] 34)) #[.int .u64 0, .int .i64 0] 78 (fun j => if j = 0 then .int .u64 0 else .int .i64 0) (by intro j hj; match j, hj with | 0, _ => rfl | 1, _ => rfl)
  simp only [World.size_alloc] at r
  exact ⟨hb, (cell4_box w x An cn Ak ck).of_block (((Below.refl _ _).alloc (Nat.le_refl _) _).block _ (by simp)), r⟩
theorem GX.fin {w : World} {x : Tr} {An : Option Addr} {cn : Nat} {Ak : Option Addr} {ck : Nat} {W : World} (h : GX w x An cn Ak ck W) (N E : Int) :
    ((W.setCell ⟨w.heap.size + 1, 0, none⟩ (.int .u64 N)).setCell ⟨w.heap.size + 1, 1, none⟩ (.int .i64 E)).cell? ⟨w.heap.size + 1, 0, none⟩ = some (.int .u64 N) ∧ ((W.setCell ⟨w.heap.size + 1, 0, none⟩ (.int .u64 N)).setCell ⟨w.heap.size + 1, 1, none⟩ (.int .i64 E)).cell? ⟨w.heap.size + 1, 1, none⟩ = some (.int .i64 E) ∧ Below w.heap.size w ((W.setCell ⟨w.heap.size + 1, 0, none⟩ (.int .u64 N)).setCell ⟨w.heap.size + 1, 1, none⟩ (.int .i64 E)) := by
  have r := (h.rr.set 0 (.int .u64 N)).set 1 (.int .i64 E)
  exact ⟨r.cell (i := 0) (by omega), r.cell (i := 1) (by omega), (h.be.setCell (p := ⟨w.heap.size + 1, 0, none⟩) (by show w.heap.size ≤ w.heap.size + 1; omega) _).setCell (p := ⟨w.heap.size + 1, 1, none⟩) (by show w.heap.size ≤ w.heap.size + 1; omega) _⟩
/-- .. and the field's box at f, its tree's at p. -/
structure GY (w : World) (x : Tr) (An : Option Addr) (cn : Nat) (Ak : Option Addr) (ck : Nat) (f : Nat) (k ty : Int) (p : Nat) (y : Tr) (A1 : Option Addr) (k1 : Nat) (A2 : Option Addr) (k2 : Nat) (W : World) : Prop where
  gx : GX w x An cn Ak ck W
  f0 : W.cell? ⟨f, 0, none⟩ = some (.int .i64 k)
  f1 : W.cell? ⟨f, 1, none⟩ = some (.int .i64 ty)
  lf : f < W.heap.size
  bp : Cell4 W p 0 y A1 k1 A2 k2
  lp : p < W.heap.size
theorem GY.below {w : World} {x : Tr} {An : Option Addr} {cn : Nat} {Ak : Option Addr} {ck : Nat} {f : Nat} {k ty : Int} {p : Nat} {y : Tr} {A1 : Option Addr} {k1 : Nat} {A2 : Option Addr} {k2 : Nat} {W W' : World} (h : GY w x An cn Ak ck f k ty p y A1 k1 A2 k2 W) (hb : Below W.heap.size W W') : GY w x An cn Ak ck f k ty p y A1 k1 A2 k2 W' :=
  ⟨h.gx.below hb, (hb.cell (p := ⟨f, 0, none⟩) h.lf).trans h.f0, (hb.cell (p := ⟨f, 1, none⟩) h.lf).trans h.f1, Nat.lt_of_lt_of_le h.lf hb.size, h.bp.of_block (hb.block _ h.lp), Nat.lt_of_lt_of_le h.lp hb.size⟩
theorem GY.drew {w : World} {x : Tr} {An : Option Addr} {cn : Nat} {Ak : Option Addr} {ck : Nat} {f : Nat} {k ty : Int} {p : Nat} {y : Tr} {A1 : Option Addr} {k1 : Nat} {A2 : Option Addr} {k2 : Nat} {W : World} (h : GY w x An cn Ak ck f k ty p y A1 k1 A2 k2 W) : GY w x An cn Ak ck f k ty p y A1 k1 A2 k2 W.drew := h.below (Below.refl _ _).drew
/-- The field's box alone. -/
structure GF (w : World) (x : Tr) (An : Option Addr) (cn : Nat) (Ak : Option Addr) (ck : Nat) (f : Nat) (k ty : Int) (W : World) : Prop where
  gx : GX w x An cn Ak ck W
  f0 : W.cell? ⟨f, 0, none⟩ = some (.int .i64 k)
  f1 : W.cell? ⟨f, 1, none⟩ = some (.int .i64 ty)
  lf : f < W.heap.size
theorem GF.below {w : World} {x : Tr} {An : Option Addr} {cn : Nat} {Ak : Option Addr} {ck : Nat} {f : Nat} {k ty : Int} {W W' : World} (h : GF w x An cn Ak ck f k ty W) (hb : Below W.heap.size W W') : GF w x An cn Ak ck f k ty W' :=
  ⟨h.gx.below hb, (hb.cell (p := ⟨f, 0, none⟩) h.lf).trans h.f0, (hb.cell (p := ⟨f, 1, none⟩) h.lf).trans h.f1, Nat.lt_of_lt_of_le h.lf hb.size⟩
/-- A field laid into a new block, at once or cell by cell. -/
theorem GF.mk' {w : World} {x : Tr} {An : Option Addr} {cn : Nat} {Ak : Option Addr} {ck : Nat} {W : World} (h : GX w x An cn Ak ck W) (k ty : Int) : GF w x An cn Ak ck W.heap.size k ty (W.alloc (.cells #[.int .i64 k, .int .i64 ty] 64)) := by
  have r := World.rowIs_alloc W #[.int .i64 k, .int .i64 ty] 64 (fun j => if j = 0 then .int .i64 k else .int .i64 ty) (by intro j hj; match j, hj with | 0, _ => rfl | 1, _ => rfl)
  exact ⟨h.below ((Below.refl _ _).alloc (Nat.le_refl _) _), r.cell (i := 0) (by simp), r.cell (i := 1) (by simp), r.lt⟩
theorem GY.mk' {w : World} {x : Tr} {An : Option Addr} {cn : Nat} {Ak : Option Addr} {ck : Nat} {f : Nat} {k ty : Int} {W : World} (h : GF w x An cn Ak ck f k ty W) (y : Tr) (A1 : Option Addr) (k1 : Nat) (A2 : Option Addr) (k2 : Nat) : GY w x An cn Ak ck f k ty W.heap.size y A1 k1 A2 k2 (W.alloc (.cells #[.int .u64 ((y).num : Nat), .string (y).bs, .slice A1 (y).nl k1, .slice A2 (y).kl k2] 34)) := by
  have h' := h.below ((Below.refl W.heap.size W).alloc (Nat.le_refl _) (.cells #[.int .u64 ((y).num : Nat), .string (y).bs, .slice A1 (y).nl k1, .slice A2 (y).kl k2] 34))
  exact ⟨h'.gx, h'.f0, h'.f1, h'.lf, cell4_box W y A1 k1 A2 k2, by simp⟩
theorem GF.of {w : World} {x : Tr} {An : Option Addr} {cn : Nat} {Ak : Option Addr} {ck : Nat} {f : Nat} {k ty : Int} {W W' : World} (h : GX w x An cn Ak ck W) (hb : Below W.heap.size W W') (h0 : W'.cell? ⟨f, 0, none⟩ = some (.int .i64 k)) (h1 : W'.cell? ⟨f, 1, none⟩ = some (.int .i64 ty)) (hl : f < W'.heap.size) : GF w x An cn Ak ck f k ty W' := ⟨h.below hb, h0, h1, hl⟩
theorem GY.of {w : World} {x : Tr} {An : Option Addr} {cn : Nat} {Ak : Option Addr} {ck : Nat} {f : Nat} {k ty : Int} {p : Nat} {y : Tr} {A1 : Option Addr} {k1 : Nat} {A2 : Option Addr} {k2 : Nat} {W W' : World} (h : GF w x An cn Ak ck f k ty W) (hb : Below W.heap.size W W') (h0 : W'.cell? ⟨p, 0, none⟩ = some (.int .u64 (y.num : Nat))) (h1 : W'.cell? ⟨p, 1, none⟩ = some (.string y.bs)) (h2 : W'.cell? ⟨p, 2, none⟩ = some (.slice A1 y.nl k1)) (h3 : W'.cell? ⟨p, 3, none⟩ = some (.slice A2 y.kl k2)) (hl : p < W'.heap.size) : GY w x An cn Ak ck f k ty p y A1 k1 A2 k2 W' :=
  have h' := h.below hb
  ⟨h'.gx, h'.f0, h'.f1, h'.lf, ⟨h0, h1, h2, h3⟩, hl⟩
theorem ret_gotG {g h : Nat × Nat} (e : g = h) : Ending.returned (gotG g) = .returned (gotG h) := by rw [e]

set_option maxRecDepth 100000 in
set_option maxHeartbeats 8000000 in
theorem r6get_any (s : Sch) (hR : RightS s) (A : Option Addr) (c n : Nat) : ∀ (t d k : Nat) (x : Tr) (An Ak Ap : Option Addr) (cn ck cp : Nat) (p : List Int) (w : World), t < s.n → chk s d t x = 0 → Sm k x → SAt w A s → TAt w (fun _ => True) x An Ak → PRow w Ap p → 0 < p.length → p.length ≤ n → p.length ≤ cp → p.length ≤ 1000 →
    Calls Tryd.prog 63 #[.slice A s.n c, .int .i64 (t : Int), (.agg #[.int .u64 ((x).num : Nat), .string (x).bs, .slice An (x).nl cn, .slice Ak (x).kl ck]), .slice Ap p.length cp] w fun e w' => e = .returned (gotG (getT s n t x p)) ∧ Below w.heap.size w w' := by
  induction n with
  | zero => intro t d k x An Ak Ap cn ck cp p w _ _ _ _ _ _ h1 h2; omega
  | succ n ih =>
    intro t d k x An Ak Ap cn ck cp p w ht hX hS hs hT hP hp0 hpn hpc hp1
    cases p with
    | nil => simp at hp0
    | cons i rest =>
      have IH := Lib.hid ih
      have HS := Lib.hid hS
      have HX := Lib.hid hX
      have HT := Lib.hid hT
      have HR := Lib.hid hR
      have HP := Lib.hid hP
      have Hs := Lib.hid hs
      have hk5 := hS.le.2.2.2
      have K0 := Lib.hid (GX.mk' w x An cn Ak ck)
      obtain ⟨bp, op, rfl, hbp, hcp⟩ := hP.head
      have HPT := Lib.hid (hP.tail (c := cp) (by simpa using hpc))
      obtain ⟨bs, os, rfl, hbs, hcs⟩ := hs.some_ (by omega)
      obtain ⟨Ai, ci, hct, hfr⟩ := hcs t ht
      have HCT := Lib.hid hct
      have HFR := Lib.hid hfr
      clear ih hS hs hT hX hR hP hp0 hcs hct hfr
      rw [List.length_cons] at hpn hpc hp1 ⊢
      obtain ⟨L, HL⟩ : ∃ L, Hid (rest.length = L) := ⟨_, Lib.hid rfl⟩
      rw [HL.out] at hpn hpc hp1 ⊢
      have hs1 := slice1 (some ⟨bp, op, none⟩) L cp
      obtain ⟨Ar, HAr⟩ : ∃ Ar, Hid (behind (some ⟨bp, op, none⟩) cp = Ar) := ⟨_, Lib.hid rfl⟩
      rw [HAr.out] at hs1 HPT
      have hpz : 0 < L + 1 := by omega
      obtain ⟨d, rfl, hst, hXX⟩ := chk_inv HX.out
      have HST := Lib.hid hst
      have HXX := Lib.hid hXX
      have HKL := Lib.hid hst.2.2.2
      clear hst hXX
      go_enter Tryd.func63, Tryd.ntmps63
      go_wp2_with fail
      generalize (w.alloc (.cells #[.int .u64 ((x).num : Nat), .string (x).bs, .slice An (x).nl cn, .slice Ak (x).kl ck] 34)).alloc (.cells #[.int .u64 0, .int .i64 0] 78) = W1 at K0 ⊢
      have c3 := K0.out.bx.c3
      simp only [Nat.zero_add] at c3
      have p0 := (K0.out.be.cell (p := ⟨bp, op, none⟩) hbp).trans hcp
      by_cases hi : 0 ≤ i ∧ i < x.kl
      · obtain ⟨i, rfl⟩ : ∃ m : Nat, i = m := ⟨i.toNat, by omega⟩
        have hin : i < x.kl := by omega
        have hil : i < s.len t := by rw [← HKL.out]; exact hin
        have d1 : decide ((i : Int) < 0) = false := decide_eq_false (by omega)
        have d2 : decide ((x.kl : Int) ≤ (i : Int)) = false := decide_eq_false (by omega)
        have d2' : decide (x.kl ≤ i) = false := decide_eq_false (by omega)
        clear hi
        go_quiet (fail)
        have K1 := Lib.hid (K0.out.below (below_drewN (Below.refl _ _) nq))
        clear d1 d2 d2' c3 p0 K0
        generalize W1.drewN nq = W2 at K1 ⊢
        obtain ⟨bf, of, rfl, hbf, hcf⟩ := HFR.out.some_ (by omega)
        obtain ⟨f0, f1⟩ := hcf i hil
        have f0 := (K1.out.be.cell (p := ⟨bf, of + i * 2, none⟩) hbf).trans f0
        have f1 := (K1.out.be.cell (p := ⟨bf, of + i * 2 + 1, none⟩) hbf).trans f1
        have s0 := (K1.out.be.cell (p := ⟨bs, os + t, none⟩) hbs).trans HCT.out
        rw [← HKL.out] at s0
        have p0 := (K1.out.be.cell (p := ⟨bp, op, none⟩) hbp).trans hcp
        obtain ⟨τ, HTT⟩ : ∃ τ, Hid ((s.t t i).toNat = τ) := ⟨_, Lib.hid rfl⟩
        have hτ : τ < s.n := by rw [← HTT.out]; exact HR.out.tlt ht hil
        have HTV : Hid (s.t t i = (τ : Int)) := Lib.hid (by rw [← HTT.out]; have := HR.out.field ht hil; omega)
        rw [HTV.out] at f1
        obtain ⟨e1, e5, -, -⟩ := HR.out.field ht hil
        obtain ⟨κ, HKK⟩ : ∃ κ, Hid (s.k t i = κ) := ⟨_, Lib.hid rfl⟩
        have HG1 := Lib.hid (getT_one (s := s) (n := n) (t := t) hin)
        have HG2 : Hid (∀ j more, getT s (n + 1) t x ((i : Int) :: j :: more) = _) := Lib.hid fun j more => getT_more (s := s) (n := n) (t := t) (j := j) (more := more) hin
        obtain ⟨b, off, rfl, -, hlt, hc⟩ := HT.out.kids (by omega)
        obtain ⟨A1, k1, A2, k2, h4, hty⟩ := hc i hin
        obtain ⟨k, rfl⟩ := HS.out.pos
        have HSY := Lib.hid (HS.out.kid hin)
        have HYK := Lib.hid (HXX.out i hin)
        have HY4 := Lib.hid h4
        have HTY := Lib.hid hty
        obtain ⟨y, HY⟩ : ∃ y, Hid (x.kf i = y) := ⟨_, Lib.hid rfl⟩
        rw [HY.out, HKK.out] at HG1 HG2
        rw [HY.out] at HSY HYK HY4 HTY
        rw [HKK.out] at HYK e1 e5 f0
        rw [HTT.out] at HYK HG2
        have hyk := HSY.out.le
        have hi0 : (0 : Int) ≤ (i : Int) := by omega
        have hi1 : (i : Int) < (x.kl : Int) := by omega
        have ht0 : (0 : Int) ≤ (t : Int) := by omega
        have ht1 : (t : Int) < (s.n : Int) := by omega
        clear hcf hc h4 hty
        go_upto_region 3 with (fail)
        go_cut [9] (fun fv wc => ∃ f : Nat, fv = .pointer (some ⟨f, 0, none⟩) ∧ Hid (GF w x An cn (some ⟨b, off, none⟩) ck f κ (τ : Int) wc))
        case first =>
          have n1 : bs < W2.heap.size := by have := K1.out.be.size; omega
          have n2 : bp < W2.heap.size := by have := K1.out.be.size; omega
          have n3 : bf < W2.heap.size := by have := K1.out.be.size; omega
          have m1 : bs ≠ W2.heap.size := by omega
          have m2 : bp ≠ W2.heap.size := by omega
          have m3 : bf ≠ W2.heap.size := by omega
          go_region
          all_goals
            go_wp2_with fail
            go_meet
            case rel => exact ⟨_, rfl, Lib.hid (GF.of K1.out (by (repeat (first | with_reducible exact Below.refl _ _ | with_reducible refine Below.drew ?_ | (with_reducible refine Below.setCell ?_ ?side _; case side => exact (by first | (simp; done) | (simp; omega) | omega)) | (with_reducible refine Below.alloc ?_ ?side _; case side => exact (by first | (simp; done) | (simp; omega) | omega))))) (by simp) (by simp) (by simp))⟩
        case rest =>
          clear K1 f0 f1 s0 p0
          obtain ⟨f, rfl, K2⟩ := hcut
          have p0 := (K2.out.gx.be.cell (p := ⟨bp, op, none⟩) hbp).trans hcp
          have c3 := K2.out.gx.bx.c3
          simp only [Nat.zero_add] at c3
          obtain ⟨y0, y1, y2, y3⟩ := HY4.out.of_block (K2.out.gx.be.block b hlt)
          go_upto_region 4 with (fail)
          go_cut [10] (fun pv wd => ∃ p : Nat, pv = .pointer (some ⟨p, 0, none⟩) ∧ Hid (GY w x An cn (some ⟨b, off, none⟩) ck f κ (τ : Int) p y A1 k1 A2 k2 wd))
          case first =>
            have n1 : b < wc.heap.size := by have := K2.out.gx.be.size; omega
            have n2 : bp < wc.heap.size := by have := K2.out.gx.be.size; omega
            have n3 : w.heap.size < wc.heap.size := by have := K2.out.gx.rr.lt; omega
            have m1 : b ≠ wc.heap.size := by omega
            have m2 : bp ≠ wc.heap.size := by omega
            have m3 : w.heap.size ≠ wc.heap.size := by omega
            go_region
            all_goals
              go_wp2_with fail
              go_meet
              case rel => exact ⟨_, rfl, Lib.hid (GY.of K2.out (by (repeat (first | with_reducible exact Below.refl _ _ | with_reducible refine Below.drew ?_ | (with_reducible refine Below.setCell ?_ ?side _; case side => exact (by first | (simp; done) | (simp; omega) | omega)) | (with_reducible refine Below.alloc ?_ ?side _; case side => exact (by first | (simp; done) | (simp; omega) | omega))))) (by simp) (by simp) (by simp) (by simp) (by simp))⟩
          case rest =>
            clear K2 p0 c3 y0 y1 y2 y3
            obtain ⟨q, rfl, K3⟩ := hcut
            have z0 := K3.out.bp.c0
            have z1 := K3.out.bp.c1
            have z2 := K3.out.bp.c2
            have z3 := K3.out.bp.c3
            have e0 := K3.out.f0
            have rf := K3.out.gx.rr.frozen
            have r0 := K3.out.gx.rr.cell (i := 0) (by omega)
            have r1 := K3.out.gx.rr.cell (i := 1) (by omega)
            simp only [Nat.zero_add] at z1 z2 z3
            simp only [if_true] at r0
            simp only [show ((1 : Nat) = 0) = False by simp, if_false] at r1
            obtain ⟨v1, v2, v3, v4⟩ := hyk
            cases rest with
            | nil =>
              obtain rfl : L = 0 := HL.out.symm
              obtain rfl | rfl | rfl | rfl | rfl : κ = 1 ∨ κ = 2 ∨ κ = 3 ∨ κ = 4 ∨ κ = 5 := by omega
              · have HG : Hid (getT s (n + 1) t x [(i : Int)] = (y.num, 0)) := Lib.hid (by rw [HG1.out]; simp [selfT])
                go_wp2
                obtain ⟨g0, g1, hB9⟩ := K3.out.gx.fin ((y.num : Nat) : Int) 0
                exact bodyPost_ret (v := gotG (y.num, 0)) (by simp [gotG, results, Tryd.results63, go_sem, g0, g1]) rfl ⟨ret_gotG HG.out.symm, hB9⟩
              · have HG : Hid (getT s (n + 1) t x [(i : Int)] = (y.bs.size, 0)) := Lib.hid (by rw [HG1.out]; simp [selfT])
                go_wp2
                obtain ⟨g0, g1, hB9⟩ := K3.out.gx.fin ((y.bs.size : Nat) : Int) 0
                exact bodyPost_ret (v := gotG (y.bs.size, 0)) (by simp [gotG, results, Tryd.results63, go_sem, g0, g1]) rfl ⟨ret_gotG HG.out.symm, hB9⟩
              · have HG : Hid (getT s (n + 1) t x [(i : Int)] = (y.nl, 0)) := Lib.hid (by rw [HG1.out]; simp [selfT])
                go_wp2
                obtain ⟨g0, g1, hB9⟩ := K3.out.gx.fin ((y.nl : Nat) : Int) 0
                exact bodyPost_ret (v := gotG (y.nl, 0)) (by simp [gotG, results, Tryd.results63, go_sem, g0, g1]) rfl ⟨ret_gotG HG.out.symm, hB9⟩
              · have HG : Hid (getT s (n + 1) t x [(i : Int)] = (y.kl, 0)) := Lib.hid (by rw [HG1.out]; simp [selfT])
                go_wp2
                obtain ⟨g0, g1, hB9⟩ := K3.out.gx.fin ((y.kl : Nat) : Int) 0
                exact bodyPost_ret (v := gotG (y.kl, 0)) (by simp [gotG, results, Tryd.results63, go_sem, g0, g1]) rfl ⟨ret_gotG HG.out.symm, hB9⟩
              · have HG : Hid (getT s (n + 1) t x [(i : Int)] = (y.kl, 0)) := Lib.hid (by rw [HG1.out]; simp [selfT])
                go_wp2
                obtain ⟨g0, g1, hB9⟩ := K3.out.gx.fin ((y.kl : Nat) : Int) 0
                exact bodyPost_ret (v := gotG (y.kl, 0)) (by simp [gotG, results, Tryd.results63, go_sem, g0, g1]) rfl ⟨ret_gotG HG.out.symm, hB9⟩
            | cons j more =>
              obtain ⟨L', rfl⟩ : ∃ l, L = l + 1 := ⟨L - 1, by have := HL.out; simp at this; omega⟩
              have HL' : Hid (more.length = L') := Lib.hid (by have := HL.out; simpa using this)
              clear HL
              have HGG := Lib.hid (HG2.out j more)
              clear HG1 HG2
              have hne : ((L' : Int) + 1 == 0) = false := by simp; omega
              have hne2 : ((L' : Int) + 1 = 0) = False := by simp; omega
              have hgt : decide ((0 : Int) < (L' : Int) + 1) = true := decide_eq_true (by omega)
              have hpz2 : 0 < L' + 1 := by omega
              obtain ⟨b5, o5, rfl, hb5, hc5⟩ := HPT.out.head
              have p5 := (K3.out.gx.be.cell (p := ⟨b5, o5, none⟩) hb5).trans hc5
              obtain rfl | rfl | rfl | rfl | rfl : κ = 1 ∨ κ = 2 ∨ κ = 3 ∨ κ = 4 ∨ κ = 5 := by omega
              · have HG : Hid (getT s (n + 1) t x ((i : Int) :: j :: more) = (0, 24)) := Lib.hid (by rw [HGG.out]; simp)
                go_wp2
                obtain ⟨g0, g1, hB9⟩ := K3.out.gx.fin 0 24
                exact bodyPost_ret (v := gotG (0, 24)) (by simp [gotG, results, Tryd.results63, go_sem, g0, g1]) rfl ⟨ret_gotG HG.out.symm, hB9⟩
              · by_cases hj : 0 ≤ j ∧ j < y.bs.size
                · obtain ⟨j, rfl⟩ : ∃ m : Nat, j = m := ⟨j.toNat, by omega⟩
                  have hJ : j < y.bs.size := by omega
                  have d1 : decide ((j : Int) < 0) = false := decide_eq_false (by omega)
                  have d2 : decide ((y.bs.size : Int) ≤ (j : Int)) = false := decide_eq_false (by omega)
                  have d2' : decide (y.bs.size ≤ j) = false := decide_eq_false (by omega)
                  cases more with
                  | nil =>
                    obtain rfl : L' = 0 := HL'.out.symm
                    have HG : Hid (getT s (n + 1) t x ((i : Int) :: (j : Int) :: []) = (byteN y.bs j, 0)) := Lib.hid (by rw [HGG.out]; simp [itemT, hJ])
                    have HBN := Lib.hid (byteN_at hJ)
                    have HWR : Hid (IntKind.u64.wrap (y.bs[j].toNat : Int) = (y.bs[j].toNat : Int)) := Lib.hid (by rw [IntKind.wrap_u64]; have := UInt8.toNat_lt y.bs[j]; omega)
                    go_wp2_with fail
                    clear hs1 e0 r0 r1 rf hne hne2 hgt z0 z2 z3
                    go_quiet (fail)
                    have K4' := Lib.hid (K3.out.below (below_drewN (Below.refl _ _) nq))
                    clear p5 z1 K3
                    generalize wc.drewN nq = W4 at K4' ⊢
                    have K4 := Lib.hid K4'.out.gx
                    have z1 := K4'.out.bp.c1
                    simp only [Nat.zero_add] at z1
                    have p5 := (K4'.out.gx.be.cell (p := ⟨b5, o5, none⟩) hb5).trans hc5
                    have rf := K4'.out.gx.rr.frozen
                    have r0 := K4'.out.gx.rr.cell (i := 0) (by omega)
                    have r1 := K4'.out.gx.rr.cell (i := 1) (by omega)
                    simp only [if_true] at r0
                    simp only [show ((1 : Nat) = 0) = False by simp, if_false] at r1
                    go_wp2_with fail
                    have g9 : (0 : Int) ≤ (j : Int) := by omega
                    have g8 : (j : Int) < (y.bs.size : Int) := by omega
                    go_region
                    all_goals
                      go_wp2
                      obtain ⟨g0, g1, hB9⟩ := K4.out.fin (IntKind.u64.wrap (y.bs[j].toNat : Int)) 0
                      first
                        | exact bodyPost_ret (v := .agg #[.int .u64 (IntKind.u64.wrap (y.bs[j].toNat : Int)), .int .i64 0]) (by simp [results, Tryd.results63, go_sem, g0, g1]) rfl ⟨by rw [HG.out]; rw [HWR.out, ← HBN.out]; rfl, hB9⟩
                        | exact bodyPost_ret (v := .agg #[.int .u64 (IntKind.u64.wrap (y.bs[j].toNat : Int)), .int .i64 0]) (by simp [results, Tryd.results63, go_sem, g0, g1]) rfl ⟨by rw [HG.out]; rw [HWR.out, ← HBN.out]; rfl, hB9.drew⟩
                        | (obtain ⟨g0, g1, hB9⟩ := (K4.out.below (Below.refl _ _).drew).fin (IntKind.u64.wrap (y.bs[j].toNat : Int)) 0; exact bodyPost_ret (v := .agg #[.int .u64 (IntKind.u64.wrap (y.bs[j].toNat : Int)), .int .i64 0]) (by simp [results, Tryd.results63, go_sem, g0, g1]) rfl ⟨by rw [HG.out]; rw [HWR.out, ← HBN.out]; rfl, hB9⟩)
                  | cons i2 m2 =>
                    have HG : Hid (getT s (n + 1) t x ((i : Int) :: (j : Int) :: i2 :: m2) = (0, 24)) := Lib.hid (by rw [HGG.out]; simp [itemT, hJ])
                    have hL2 : 1 ≤ L' := by have := HL'.out; simp at this; omega
                    have d3 : decide ((1 : Int) < (L' : Int) + 1) = true := decide_eq_true (by omega)
                    have d3' : decide (0 < L') = true := decide_eq_true (by omega)
                    have d3'' : decide ((0 : Int) < (L' : Int)) = true := decide_eq_true (by omega)
                    go_wp2_with fail
                    clear hs1 e0 r0 r1 rf hne hne2 hgt z0 z2 z3
                    go_quiet (fail)
                    have K4 := Lib.hid (K3.out.gx.below (below_drewN (Below.refl _ _) nq))
                    have rf : ∀ o, (wc.drewN nq).frozen? ⟨w.heap.size + 1, o, none⟩ = false := K4.out.rr.frozen
                    have r0 : (wc.drewN nq).cell? ⟨w.heap.size + 1, 0, none⟩ = some (.int .u64 0) := K4.out.rr.cell (i := 0) (by omega)
                    have r1 : (wc.drewN nq).cell? ⟨w.heap.size + 1, 1, none⟩ = some (.int .i64 0) := K4.out.rr.cell (i := 1) (by omega)
                    go_wp2
                    obtain ⟨g0, g1, hB9⟩ := K4.out.fin 0 24
                    exact bodyPost_ret (v := gotG (0, 24)) (by simp [gotG, results, Tryd.results63, go_sem, g0, g1]) rfl ⟨ret_gotG HG.out.symm, hB9⟩
                · have HG : Hid (getT s (n + 1) t x ((i : Int) :: j :: more) = (0, 12)) := Lib.hid (by rw [HGG.out]; simp [itemT]; omega)
                  by_cases h0 : j < 0
                  · have d1 : decide (j < 0) = true := decide_eq_true h0
                    go_wp2_with fail
                    clear hs1 e0 r0 r1 rf hne hne2 hgt z0 z2 z3
                    go_quiet (fail)
                    have K4 := Lib.hid (K3.out.gx.below (below_drewN (Below.refl _ _) nq))
                    have rf : ∀ o, (wc.drewN nq).frozen? ⟨w.heap.size + 1, o, none⟩ = false := K4.out.rr.frozen
                    have r0 : (wc.drewN nq).cell? ⟨w.heap.size + 1, 0, none⟩ = some (.int .u64 0) := K4.out.rr.cell (i := 0) (by omega)
                    have r1 : (wc.drewN nq).cell? ⟨w.heap.size + 1, 1, none⟩ = some (.int .i64 0) := K4.out.rr.cell (i := 1) (by omega)
                    go_wp2
                    obtain ⟨g0, g1, hB9⟩ := K4.out.fin 0 12
                    exact bodyPost_ret (v := gotG (0, 12)) (by simp [gotG, results, Tryd.results63, go_sem, g0, g1]) rfl ⟨ret_gotG HG.out.symm, hB9⟩
                  · have d1 : decide (j < 0) = false := decide_eq_false h0
                    have d2 : decide ((y.bs.size : Int) ≤ j) = true := decide_eq_true (by omega)
                    go_wp2_with fail
                    clear hs1 e0 r0 r1 rf hne hne2 hgt z0 z2 z3
                    go_quiet (fail)
                    have K4 := Lib.hid (K3.out.gx.below (below_drewN (Below.refl _ _) nq))
                    have rf : ∀ o, (wc.drewN nq).frozen? ⟨w.heap.size + 1, o, none⟩ = false := K4.out.rr.frozen
                    have r0 : (wc.drewN nq).cell? ⟨w.heap.size + 1, 0, none⟩ = some (.int .u64 0) := K4.out.rr.cell (i := 0) (by omega)
                    have r1 : (wc.drewN nq).cell? ⟨w.heap.size + 1, 1, none⟩ = some (.int .i64 0) := K4.out.rr.cell (i := 1) (by omega)
                    go_wp2
                    obtain ⟨g0, g1, hB9⟩ := K4.out.fin 0 12
                    exact bodyPost_ret (v := gotG (0, 12)) (by simp [gotG, results, Tryd.results63, go_sem, g0, g1]) rfl ⟨ret_gotG HG.out.symm, hB9⟩
              · by_cases hj : 0 ≤ j ∧ j < y.nl
                · obtain ⟨j, rfl⟩ : ∃ m : Nat, j = m := ⟨j.toNat, by omega⟩
                  have hJ : j < y.nl := by omega
                  have d1 : decide ((j : Int) < 0) = false := decide_eq_false (by omega)
                  have d2 : decide ((y.nl : Int) ≤ (j : Int)) = false := decide_eq_false (by omega)
                  have d2' : decide (y.nl ≤ j) = false := decide_eq_false (by omega)
                  cases more with
                  | nil =>
                    obtain rfl : L' = 0 := HL'.out.symm
                    have HG : Hid (getT s (n + 1) t x ((i : Int) :: (j : Int) :: []) = (y.nf j, 0)) := Lib.hid (by rw [HGG.out]; simp [itemT, hJ])
                    obtain ⟨bn, on, hAn, hln, hcn⟩ := HTY.out.nums.some_ (by omega)
                    subst hAn
                    have n5 := (K3.out.gx.be.cell (p := ⟨bn, on + j, none⟩) hln).trans (hcn j hJ)
                    have HCN := Lib.hid hcn
                    clear hcn
                    go_wp2_with fail
                    clear hs1 e0 r0 r1 rf hne hne2 hgt z0 z1 z3
                    go_quiet (fail)
                    have K4' := Lib.hid (K3.out.below (below_drewN (Below.refl _ _) nq))
                    clear p5 z2 n5 K3
                    generalize wc.drewN nq = W4 at K4' ⊢
                    have K4 := Lib.hid K4'.out.gx
                    have z2 := K4'.out.bp.c2
                    simp only [Nat.zero_add] at z2
                    have p5 := (K4'.out.gx.be.cell (p := ⟨b5, o5, none⟩) hb5).trans hc5
                    have rf := K4'.out.gx.rr.frozen
                    have r0 := K4'.out.gx.rr.cell (i := 0) (by omega)
                    have r1 := K4'.out.gx.rr.cell (i := 1) (by omega)
                    simp only [if_true] at r0
                    simp only [show ((1 : Nat) = 0) = False by simp, if_false] at r1
                    go_wp2_with fail
                    have n5 := (K4.out.be.cell (p := ⟨bn, on + j, none⟩) hln).trans (HCN.out j hJ)
                    have g9 : (0 : Int) ≤ (j : Int) := by omega
                    have g8 : (j : Int) < (y.nl : Int) := by omega
                    go_region
                    all_goals
                      go_wp2
                      obtain ⟨g0, g1, hB9⟩ := K4.out.fin (((y.nf j : Nat) : Int)) 0
                      first
                        | exact bodyPost_ret (v := .agg #[.int .u64 (((y.nf j : Nat) : Int)), .int .i64 0]) (by simp [results, Tryd.results63, go_sem, g0, g1]) rfl ⟨by rw [HG.out]; rfl, hB9⟩
                        | exact bodyPost_ret (v := .agg #[.int .u64 (((y.nf j : Nat) : Int)), .int .i64 0]) (by simp [results, Tryd.results63, go_sem, g0, g1]) rfl ⟨by rw [HG.out]; rfl, hB9.drew⟩
                        | (obtain ⟨g0, g1, hB9⟩ := (K4.out.below (Below.refl _ _).drew).fin (((y.nf j : Nat) : Int)) 0; exact bodyPost_ret (v := .agg #[.int .u64 (((y.nf j : Nat) : Int)), .int .i64 0]) (by simp [results, Tryd.results63, go_sem, g0, g1]) rfl ⟨by rw [HG.out]; rfl, hB9⟩)
                  | cons i2 m2 =>
                    have HG : Hid (getT s (n + 1) t x ((i : Int) :: (j : Int) :: i2 :: m2) = (0, 24)) := Lib.hid (by rw [HGG.out]; simp [itemT, hJ])
                    have hL2 : 1 ≤ L' := by have := HL'.out; simp at this; omega
                    have d3 : decide ((1 : Int) < (L' : Int) + 1) = true := decide_eq_true (by omega)
                    have d3' : decide (0 < L') = true := decide_eq_true (by omega)
                    have d3'' : decide ((0 : Int) < (L' : Int)) = true := decide_eq_true (by omega)
                    go_wp2_with fail
                    clear hs1 e0 r0 r1 rf hne hne2 hgt z0 z1 z3
                    go_quiet (fail)
                    have K4 := Lib.hid (K3.out.gx.below (below_drewN (Below.refl _ _) nq))
                    have rf : ∀ o, (wc.drewN nq).frozen? ⟨w.heap.size + 1, o, none⟩ = false := K4.out.rr.frozen
                    have r0 : (wc.drewN nq).cell? ⟨w.heap.size + 1, 0, none⟩ = some (.int .u64 0) := K4.out.rr.cell (i := 0) (by omega)
                    have r1 : (wc.drewN nq).cell? ⟨w.heap.size + 1, 1, none⟩ = some (.int .i64 0) := K4.out.rr.cell (i := 1) (by omega)
                    go_wp2
                    obtain ⟨g0, g1, hB9⟩ := K4.out.fin 0 24
                    exact bodyPost_ret (v := gotG (0, 24)) (by simp [gotG, results, Tryd.results63, go_sem, g0, g1]) rfl ⟨ret_gotG HG.out.symm, hB9⟩
                · have HG : Hid (getT s (n + 1) t x ((i : Int) :: j :: more) = (0, 12)) := Lib.hid (by rw [HGG.out]; simp [itemT]; omega)
                  by_cases h0 : j < 0
                  · have d1 : decide (j < 0) = true := decide_eq_true h0
                    go_wp2_with fail
                    clear hs1 e0 r0 r1 rf hne hne2 hgt z0 z1 z3
                    go_quiet (fail)
                    have K4 := Lib.hid (K3.out.gx.below (below_drewN (Below.refl _ _) nq))
                    have rf : ∀ o, (wc.drewN nq).frozen? ⟨w.heap.size + 1, o, none⟩ = false := K4.out.rr.frozen
                    have r0 : (wc.drewN nq).cell? ⟨w.heap.size + 1, 0, none⟩ = some (.int .u64 0) := K4.out.rr.cell (i := 0) (by omega)
                    have r1 : (wc.drewN nq).cell? ⟨w.heap.size + 1, 1, none⟩ = some (.int .i64 0) := K4.out.rr.cell (i := 1) (by omega)
                    go_wp2
                    obtain ⟨g0, g1, hB9⟩ := K4.out.fin 0 12
                    exact bodyPost_ret (v := gotG (0, 12)) (by simp [gotG, results, Tryd.results63, go_sem, g0, g1]) rfl ⟨ret_gotG HG.out.symm, hB9⟩
                  · have d1 : decide (j < 0) = false := decide_eq_false h0
                    have d2 : decide ((y.nl : Int) ≤ j) = true := decide_eq_true (by omega)
                    go_wp2_with fail
                    clear hs1 e0 r0 r1 rf hne hne2 hgt z0 z1 z3
                    go_quiet (fail)
                    have K4 := Lib.hid (K3.out.gx.below (below_drewN (Below.refl _ _) nq))
                    have rf : ∀ o, (wc.drewN nq).frozen? ⟨w.heap.size + 1, o, none⟩ = false := K4.out.rr.frozen
                    have r0 : (wc.drewN nq).cell? ⟨w.heap.size + 1, 0, none⟩ = some (.int .u64 0) := K4.out.rr.cell (i := 0) (by omega)
                    have r1 : (wc.drewN nq).cell? ⟨w.heap.size + 1, 1, none⟩ = some (.int .i64 0) := K4.out.rr.cell (i := 1) (by omega)
                    go_wp2
                    obtain ⟨g0, g1, hB9⟩ := K4.out.fin 0 12
                    exact bodyPost_ret (v := gotG (0, 12)) (by simp [gotG, results, Tryd.results63, go_sem, g0, g1]) rfl ⟨ret_gotG HG.out.symm, hB9⟩
              · by_cases hyl : 0 < y.kl
                · have HG0 : Hid (getT s (n + 1) t x ((i : Int) :: j :: more) = getT s n τ (y.kf 0) (j :: more)) := Lib.hid (by rw [HGG.out]; simp [hyl])
                  obtain ⟨b2, o2, hA2, -, hlt2, hc2⟩ := HTY.out.kids (by omega)
                  obtain ⟨A3, k3, A4, k4, h4, htz⟩ := hc2 0 hyl
                  subst hA2
                  obtain ⟨x0, x1, x2, x3⟩ := h4.of_block (K3.out.gx.be.block b2 hlt2)
                  obtain ⟨k', rfl⟩ := HSY.out.pos
                  have HSZ := Lib.hid (HSY.out.kid hyl)
                  have HCZ := Lib.hid (HYK.out.2 0 hyl)
                  have HTZ := Lib.hid htz
                  obtain ⟨z, HZ⟩ : ∃ z, Hid (y.kf 0 = z) := ⟨_, Lib.hid rfl⟩
                  rw [HZ.out] at x0 x1 x2 x3 HSZ HCZ HTZ HG0
                  simp only [Nat.zero_mul, Nat.add_zero] at x0 x1 x2 x3
                  have hit0 := fun W => IH.out τ _ _ z A3 A4 (some ⟨b5, o5, none⟩) k3 k4 (cp - 1) (j :: more) W hτ HCZ.out HSZ.out
                  obtain ⟨G, HGV⟩ : ∃ G, Hid (getT s n τ z (j :: more) = G) := ⟨_, Lib.hid rfl⟩
                  rw [HGV.out] at HG0
                  simp only [HGV.out, List.length_cons, HL'.out] at hit0
                  have HIT := Lib.hid hit0
                  have HG : Hid (getT s (n + 1) t x ((i : Int) :: j :: more) = G) := HG0
                  have e2 := K3.out.f1
                  have hyi : (0 : Int) < (y.kl : Int) := by omega
                  have hyne : ((y.kl : Int) == 0) = false := by simp; omega
                  have hyne' : (y.kl = 0) = False := by simp; omega
                  have hlq := K3.out.gx.rr.lt
                  clear hit0 h4 htz hc2 HGG
                  go_wp2_with fail
                  clear hs1 e0 hne hne2 hgt z0 z1 z2 hyne hyne'
                  have KD := Lib.hid K3.out.drew
                  go_region_with (
                    (go_at_call 63; go_must (refine Calls.mono (HIT.out _ (Hs.out.below KD.out.gx.be) (HTZ.out.below KD.out.gx.be) (HPT.out.below KD.out.gx.be) (by omega) (by omega) (by omega) (by omega)) ?_); rintro e w5 ⟨rfl, hb⟩; unfold gotG; have K5 := Lib.hid (KD.out.gx.below hb); have r0' := K5.out.rr.cell (i := 0) (by omega); have r1' := K5.out.rr.cell (i := 1) (by omega); have rf' := K5.out.rr.frozen; clear hb; simp only [if_true] at r0'; simp only [show ((1 : Nat) = 0) = False by simp, if_false] at r1'))
                  all_goals
                    go_wp2
                    obtain ⟨g0, g1, hB9⟩ := K5.out.fin ((G.1 : Nat) : Int) ((G.2 : Nat) : Int)
                    exact bodyPost_ret (v := gotG G) (by simp [gotG, results, Tryd.results63, go_sem, g0, g1]) rfl ⟨ret_gotG HG.out.symm, hB9⟩
                · have HG : Hid (getT s (n + 1) t x ((i : Int) :: j :: more) = (0, 12)) := Lib.hid (by rw [HGG.out]; simp [hyl])
                  have hy0 : y.kl = 0 := by omega
                  rw [hy0] at z3
                  go_wp2
                  obtain ⟨g0, g1, hB9⟩ := K3.out.gx.fin 0 12
                  exact bodyPost_ret (v := gotG (0, 12)) (by simp [gotG, results, Tryd.results63, go_sem, g0, g1]) rfl ⟨ret_gotG HG.out.symm, hB9⟩
              · by_cases hj : 0 ≤ j ∧ j < y.kl
                · obtain ⟨j, rfl⟩ : ∃ m : Nat, j = m := ⟨j.toNat, by omega⟩
                  have hJ : j < y.kl := by omega
                  have d1 : decide ((j : Int) < 0) = false := decide_eq_false (by omega)
                  have d2 : decide ((y.kl : Int) ≤ (j : Int)) = false := decide_eq_false (by omega)
                  have d2' : decide (y.kl ≤ j) = false := decide_eq_false (by omega)
                  obtain ⟨b2, o2, hA2, -, hlt2, hc2⟩ := HTY.out.kids (by omega)
                  obtain ⟨A3, k3, A4, k4, h4, htz⟩ := hc2 j hJ
                  subst hA2
                  obtain ⟨k', rfl⟩ := HSY.out.pos
                  have HSZ := Lib.hid (HSY.out.kid hJ)
                  have HCZ := Lib.hid (HYK.out.2 j hJ)
                  have HTZ := Lib.hid htz
                  have HZ4 := Lib.hid h4
                  obtain ⟨z, HZ⟩ : ∃ z, Hid (y.kf j = z) := ⟨_, Lib.hid rfl⟩
                  rw [HZ.out] at HZ4 HSZ HCZ HTZ
                  clear h4 htz hc2
                  have hs2 := slice1 (some ⟨b5, o5, none⟩) L' (cp - 1)
                  obtain ⟨As, HAs⟩ : ∃ As, Hid (behind (some ⟨b5, o5, none⟩) (cp - 1) = As) := ⟨_, Lib.hid rfl⟩
                  have HPS := Lib.hid (HPT.out.tail (c := cp - 1) (by rw [HL'.out]; omega))
                  rw [HAs.out] at hs2 HPS
                  go_wp2_with fail
                  clear hs1 e0 r0 r1 rf hne hne2 hgt z0 z1 z2
                  go_quiet (fail)
                  have K4 := Lib.hid (K3.out.below (below_drewN (Below.refl _ _) nq))
                  clear z3 p5 K3
                  generalize wc.drewN nq = W4 at K4 ⊢
                  have z3 := K4.out.bp.c3
                  simp only [Nat.zero_add] at z3
                  have e2 := K4.out.f1
                  have p5 := (K4.out.gx.be.cell (p := ⟨b5, o5, none⟩) hb5).trans hc5
                  have rf := K4.out.gx.rr.frozen
                  have r0 := K4.out.gx.rr.cell (i := 0) (by omega)
                  have r1 := K4.out.gx.rr.cell (i := 1) (by omega)
                  simp only [if_true] at r0
                  simp only [show ((1 : Nat) = 0) = False by simp, if_false] at r1
                  cases more with
                  | nil =>
                    have HG : Hid (getT s (n + 1) t x ((i : Int) :: (j : Int) :: []) = (s.len τ, 0)) := Lib.hid (by
                      obtain ⟨_, _, hsz, _⟩ := chk_inv HCZ.out
                      rw [HGG.out, ← hsz.2.2.2, ← HZ.out]; simp [hJ])
                    obtain rfl : L' = 0 := HL'.out.symm
                    have hl6 : s.len τ ≤ 6 := (HR.out.2.2 τ hτ).2.1
                    obtain ⟨bs', os', hA', hbs', hcs'⟩ := Hs.out.some_ (by omega)
                    injection hA' with hA'
                    injection hA' with q1 q2
                    subst q1 q2
                    obtain ⟨Aτ, cτ, hcτ, -⟩ := hcs' τ hτ
                    have s5 := (K4.out.gx.be.cell (p := ⟨bs, os + τ, none⟩) hbs).trans hcτ
                    have g6 : (0 : Int) ≤ (τ : Int) := by omega
                    have g7 : (τ : Int) < (s.n : Int) := by omega
                    clear hcs' hcτ
                    go_wp2
                    obtain ⟨g0, g1, hB9⟩ := K4.out.gx.fin ((s.len τ : Nat) : Int) 0
                    exact bodyPost_ret (v := gotG (s.len τ, 0)) (by simp [gotG, results, Tryd.results63, go_sem, g0, g1]) rfl ⟨ret_gotG HG.out.symm, hB9⟩
                  | cons i2 m2 =>
                    have HG0 : Hid (getT s (n + 1) t x ((i : Int) :: (j : Int) :: i2 :: m2) = getT s n τ (y.kf j) (i2 :: m2)) := Lib.hid (by rw [HGG.out]; simp [hJ])
                    rw [HZ.out] at HG0
                    obtain ⟨x0, x1, x2, x3⟩ := HZ4.out.of_block (K4.out.gx.be.block b2 hlt2)
                    have hit0 := fun W => IH.out τ _ _ z A3 A4 As k3 k4 (cp - 1 - 1) (i2 :: m2) W hτ HCZ.out HSZ.out
                    obtain ⟨G, HGV⟩ : ∃ G, Hid (getT s n τ z (i2 :: m2) = G) := ⟨_, Lib.hid rfl⟩
                    rw [HGV.out] at HG0
                    simp only [HGV.out, HL'.out] at hit0
                    have HIT := Lib.hid hit0
                    have HG : Hid (getT s (n + 1) t x ((i : Int) :: (j : Int) :: i2 :: m2) = G) := HG0
                    have hL2 : 1 ≤ L' := by have := HL'.out; simp at this; omega
                    have f1 : ((L' : Int) + 1 == 1) = false := by simp; omega
                    have f2 : ((L' : Int) == 0) = false := by simp; omega
                    have f3 : (L' = 0) = False := by simp; omega
                    have g8 : (0 : Int) ≤ (j : Int) := by omega
                    have g9 : (j : Int) < (y.kl : Int) := by omega
                    clear hit0 HGG
                    go_wp2_with fail
                    clear f1 f2 f3
                    have KD := Lib.hid K4.out.drew
                    go_region_with (
                      (go_at_call 63; go_must (refine Calls.mono (HIT.out _ (Hs.out.below KD.out.gx.be) (HTZ.out.below KD.out.gx.be) (HPS.out.below KD.out.gx.be) (by omega) (by omega) (by omega) (by omega)) ?_); rintro e w5 ⟨rfl, hb⟩; unfold gotG; have K5 := Lib.hid (KD.out.gx.below hb); have r0' := K5.out.rr.cell (i := 0) (by omega); have r1' := K5.out.rr.cell (i := 1) (by omega); have rf' := K5.out.rr.frozen; clear hb; simp only [if_true] at r0'; simp only [show ((1 : Nat) = 0) = False by simp, if_false] at r1'))
                    all_goals
                      go_wp2
                      obtain ⟨g0, g1, hB9⟩ := K5.out.fin ((G.1 : Nat) : Int) ((G.2 : Nat) : Int)
                      exact bodyPost_ret (v := gotG G) (by simp [gotG, results, Tryd.results63, go_sem, g0, g1]) rfl ⟨ret_gotG HG.out.symm, hB9⟩
                · have HG : Hid (getT s (n + 1) t x ((i : Int) :: j :: more) = (0, 12)) := Lib.hid (by rw [HGG.out]; simp only [show ((5 : Int) = 1) = False by simp, show ((5 : Int) = 2) = False by simp, show ((5 : Int) = 3) = False by simp, show ((5 : Int) = 4) = False by simp, if_false]; rw [if_neg hj])
                  by_cases h0 : j < 0
                  · have d1 : decide (j < 0) = true := decide_eq_true h0
                    go_wp2_with fail
                    clear hs1 e0 r0 r1 rf hne hne2 hgt z0 z1 z2
                    go_quiet (fail)
                    have K4 := Lib.hid (K3.out.gx.below (below_drewN (Below.refl _ _) nq))
                    have rf : ∀ o, (wc.drewN nq).frozen? ⟨w.heap.size + 1, o, none⟩ = false := K4.out.rr.frozen
                    have r0 : (wc.drewN nq).cell? ⟨w.heap.size + 1, 0, none⟩ = some (.int .u64 0) := K4.out.rr.cell (i := 0) (by omega)
                    have r1 : (wc.drewN nq).cell? ⟨w.heap.size + 1, 1, none⟩ = some (.int .i64 0) := K4.out.rr.cell (i := 1) (by omega)
                    go_wp2
                    obtain ⟨g0, g1, hB9⟩ := K4.out.fin 0 12
                    exact bodyPost_ret (v := gotG (0, 12)) (by simp [gotG, results, Tryd.results63, go_sem, g0, g1]) rfl ⟨ret_gotG HG.out.symm, hB9⟩
                  · have d1 : decide (j < 0) = false := decide_eq_false h0
                    have d2 : decide ((y.kl : Int) ≤ j) = true := decide_eq_true (by omega)
                    go_wp2_with fail
                    clear hs1 e0 r0 r1 rf hne hne2 hgt z0 z1 z2
                    go_quiet (fail)
                    have K4 := Lib.hid (K3.out.gx.below (below_drewN (Below.refl _ _) nq))
                    have rf : ∀ o, (wc.drewN nq).frozen? ⟨w.heap.size + 1, o, none⟩ = false := K4.out.rr.frozen
                    have r0 : (wc.drewN nq).cell? ⟨w.heap.size + 1, 0, none⟩ = some (.int .u64 0) := K4.out.rr.cell (i := 0) (by omega)
                    have r1 : (wc.drewN nq).cell? ⟨w.heap.size + 1, 1, none⟩ = some (.int .i64 0) := K4.out.rr.cell (i := 1) (by omega)
                    go_wp2
                    obtain ⟨g0, g1, hB9⟩ := K4.out.fin 0 12
                    exact bodyPost_ret (v := gotG (0, 12)) (by simp [gotG, results, Tryd.results63, go_sem, g0, g1]) rfl ⟨ret_gotG HG.out.symm, hB9⟩
      · have HG : Hid (getT s (n + 1) t x (i :: rest) = (0, 1)) := Lib.hid (getT_no hi)
        by_cases h0 : i < 0
        · have d1 : decide (i < 0) = true := decide_eq_true h0
          go_quiet (fail)
          have K4 := Lib.hid (K0.out.below (below_drewN (Below.refl _ _) nq))
          have rf : ∀ o, (W1.drewN nq).frozen? ⟨w.heap.size + 1, o, none⟩ = false := K4.out.rr.frozen
          have r0 : (W1.drewN nq).cell? ⟨w.heap.size + 1, 0, none⟩ = some (.int .u64 0) := K4.out.rr.cell (i := 0) (by omega)
          have r1 : (W1.drewN nq).cell? ⟨w.heap.size + 1, 1, none⟩ = some (.int .i64 0) := K4.out.rr.cell (i := 1) (by omega)
          go_wp2
          obtain ⟨g0, g1, hB9⟩ := K4.out.fin 0 1
          exact bodyPost_ret (v := gotG (0, 1)) (by simp [gotG, results, Tryd.results63, go_sem, g0, g1]) rfl ⟨ret_gotG HG.out.symm, hB9⟩
        · have d1 : decide (i < 0) = false := decide_eq_false h0
          have d2 : decide ((x.kl : Int) ≤ i) = true := decide_eq_true (by omega)
          go_quiet (fail)
          have K4 := Lib.hid (K0.out.below (below_drewN (Below.refl _ _) nq))
          have rf : ∀ o, (W1.drewN nq).frozen? ⟨w.heap.size + 1, o, none⟩ = false := K4.out.rr.frozen
          have r0 : (W1.drewN nq).cell? ⟨w.heap.size + 1, 0, none⟩ = some (.int .u64 0) := K4.out.rr.cell (i := 0) (by omega)
          have r1 : (W1.drewN nq).cell? ⟨w.heap.size + 1, 1, none⟩ = some (.int .i64 0) := K4.out.rr.cell (i := 1) (by omega)
          go_wp2
          obtain ⟨g0, g1, hB9⟩ := K4.out.fin 0 1
          exact bodyPost_ret (v := gotG (0, 1)) (by simp [gotG, results, Tryd.results63, go_sem, g0, g1]) rfl ⟨ret_gotG HG.out.symm, hB9⟩

end Go.Proofs.YtojlimpooeehhaaDoor
