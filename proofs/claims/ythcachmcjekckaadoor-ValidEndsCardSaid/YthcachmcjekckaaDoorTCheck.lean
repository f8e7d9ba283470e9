/- Which trouble a struct has: tree.Check. -/
import Derived.Test.YthcachmcjekckaaDoorTRow
import Derived.Test.YthcachmcjekckaaDoorQAll
import Derived.Laws.EntriesVeiled
import Derived.Deep.RegionHeld3
namespace Go.Proofs.YthcachmcjekckaaDoor
open Go.RowKit
theorem mk_func (fn : Fn) (first cap : Array Value) (w : World) : (Instr.makeFunc fn first cap).run Tryd.prog w = .ok (.func fn first cap) w := rfl
/-- A trouble of a code alone. -/
def errV (c : Nat) : Value := if c = 0 then .nilIface else .iface 37 (.int .i64 (c : Int))
theorem errV_0 : errV 0 = .nilIface := rfl
theorem errV_16 : errV 16 = .iface 37 (.int .i64 16) := rfl
theorem errV_24 : errV 24 = .iface 37 (.int .i64 24) := rfl
theorem ret_err {a b : Nat} (h : a = b) : Ending.returned (errV a) = .returned (errV b) := by rw [h]

/-- Where the checker's variables lie. -/
structure CkW (bs bc : Nat) (s : Sch) (A : Option Addr) (c : Nat) (W : World) : Prop where
  lb : bs < W.heap.size
  lc : bc < W.heap.size
  cs : W.cell? ⟨bs, 0, none⟩ = some (.slice A s.n c)
  cc : W.cell? ⟨bc, 0, none⟩ = some (.func (.func 93) #[] #[.pointer (some ⟨bs, 0, none⟩), .pointer (some ⟨bc, 0, none⟩)])
  sat : SAt W A s
theorem CkW.below {bs bc : Nat} {s : Sch} {A : Option Addr} {c : Nat} {W W' : World} (h : CkW bs bc s A c W) (hb : Below W.heap.size W W') : CkW bs bc s A c W' :=
  ⟨Nat.lt_of_lt_of_le h.lb hb.size, Nat.lt_of_lt_of_le h.lc hb.size, (hb.cell (p := ⟨bs, 0, none⟩) h.lb).trans h.cs, (hb.cell (p := ⟨bc, 0, none⟩) h.lc).trans h.cc, h.sat.below hb⟩
/-- .. and a box with a tree in it. -/
structure CB (w : World) (bs bc : Nat) (s : Sch) (A : Option Addr) (c q : Nat) (y : Tr) (A1 : Option Addr) (k1 : Nat) (A2 : Option Addr) (k2 : Nat) (W : World) : Prop where
  ck : CkW bs bc s A c W
  box : Cell4 W q 0 y A1 k1 A2 k2
  lt : q < W.heap.size
  tat : TAt W (fun _ => True) y A1 A2
  be : Below w.heap.size w W
theorem CB.below {w : World} {bs bc : Nat} {s : Sch} {A : Option Addr} {c q : Nat} {y : Tr} {A1 : Option Addr} {k1 : Nat} {A2 : Option Addr} {k2 : Nat} {W W' : World} (h : CB w bs bc s A c q y A1 k1 A2 k2 W) (hb : Below W.heap.size W W') : CB w bs bc s A c q y A1 k1 A2 k2 W' :=
  ⟨h.ck.below hb, h.box.of_block (hb.block _ h.lt), Nat.lt_of_lt_of_le h.lt hb.size, h.tat.below hb, Below.step h.be hb h.be.size⟩
theorem CB.drew {w : World} {bs bc : Nat} {s : Sch} {A : Option Addr} {c q : Nat} {y : Tr} {A1 : Option Addr} {k1 : Nat} {A2 : Option Addr} {k2 : Nat} {W : World} (h : CB w bs bc s A c q y A1 k1 A2 k2 W) : CB w bs bc s A c q y A1 k1 A2 k2 W.drew := h.below (Below.refl _ _).drew
theorem CB.all {w : World} {bs bc : Nat} {s : Sch} {A : Option Addr} {c q : Nat} {y : Tr} {A1 : Option Addr} {k1 : Nat} {A2 : Option Addr} {k2 : Nat} {W : World} (h : CB w bs bc s A c q y A1 k1 A2 k2 W) :
    W.cell? ⟨bs, 0, none⟩ = some (.slice A s.n c) ∧ W.cell? ⟨bc, 0, none⟩ = some (.func (.func 93) #[] #[.pointer (some ⟨bs, 0, none⟩), .pointer (some ⟨bc, 0, none⟩)]) ∧ W.cell? ⟨q, 0, none⟩ = some (.int .u64 (y.num : Nat)) ∧ W.cell? ⟨q, 1, none⟩ = some (.string y.bs) ∧ W.cell? ⟨q, 2, none⟩ = some (.slice A1 y.nl k1) ∧ W.cell? ⟨q, 3, none⟩ = some (.slice A2 y.kl k2) ∧ CB w bs bc s A c q y A1 k1 A2 k2 W :=
  ⟨h.ck.cs, h.ck.cc, h.box.c0, h.box.c1, h.box.c2, h.box.c3, h⟩
theorem cell4_box (w : World) (y : Tr) (A1 : Option Addr) (k1 : Nat) (A2 : Option Addr) (k2 : Nat) : Cell4 (w.alloc (.cells #[.int .u64 ((y).num : Nat), .string (y).bs, .slice A1 (y).nl k1, .slice A2 (y).kl k2] 32)) w.heap.size 0 y A1 k1 A2 k2 := by
  have r := World.rowIs_alloc w #[.int .u64 ((y).num : Nat), .string (y).bs, .slice A1 (y).nl k1, .slice A2 (y).kl k2] 32 (fun j => if j = 0 then .int .u64 (y.num : Nat) else if j = 1 then .string y.bs else if j = 2 then .slice A1 y.nl k1 else .slice A2 y.kl k2) (by intro j hj; match j, hj with | 0, _ => rfl | 1, _ => rfl | 2, _ => rfl | 3, _ => rfl)
  exact ⟨r.cell (i := 0) (by simp), r.cell (i := 1) (by simp), r.cell (i := 2) (by simp), r.cell (i := 3) (by simp)⟩
theorem CB.mk' {w : World} {bs bc : Nat} {s : Sch} {A : Option Addr} {c : Nat} {y : Tr} {A1 : Option Addr} {k1 : Nat} {A2 : Option Addr} {k2 : Nat} {W : World} (h : CkW bs bc s A c W) (ht : TAt W (fun _ => True) y A1 A2) (hb : Below w.heap.size w W) : CB w bs bc s A c W.heap.size y A1 k1 A2 k2 (W.alloc (.cells #[.int .u64 ((y).num : Nat), .string (y).bs, .slice A1 (y).nl k1, .slice A2 (y).kl k2] 32)) :=
  ⟨h.below ((Below.refl _ _).alloc (Nat.le_refl _) _), cell4_box W y A1 k1 A2 k2, by simp, ht.below ((Below.refl _ _).alloc (Nat.le_refl _) _), hb.alloc hb.size _⟩
/-- What a schema tells of a right type's field. -/
theorem lenAt_nat {s : Sch} {t : Nat} (h : t < s.n) : lenAt s t = (s.len t : Int) := by
  rw [lenAt, if_pos (by unfold hasT; omega)]; rfl
theorem kAt_nat {s : Sch} {t i : Nat} (h : t < s.n) (hi : i < s.len t) : kAt s t i = s.k t i := by
  rw [kAt, if_pos ⟨by unfold hasT; omega, by omega, by simpa using hi⟩]; rfl
theorem tAt_nat {s : Sch} {t i : Nat} (hr : RightS s) (h : t < s.n) (hi : i < s.len t) : tAt s t i = (((s.t t i).toNat : Nat) : Int) := by
  rw [tAt, if_pos ⟨by unfold hasT; omega, by omega, by simpa using hi⟩]
  have := hr.field h hi
  show s.t t i = _
  omega
theorem RightS.tlt {s : Sch} (hr : RightS s) {t i : Nat} (h : t < s.n) (hi : i < s.len t) : (s.t t i).toNat < s.n := by
  obtain ⟨_, _, c, d, _⟩ := (hr.2.2 t h).2.2 i hi
  omega

theorem chk_ret {s : Sch} {d t m j : Nat} {x y : Tr} {τ E : Nat} {z : Tr} {w w' : World} (hst : structOk s t x) (hm : m < x.kl) (hf : fe (fun i => chkF s d t i (x.kf i)) m = 0) (hc : chkF s d t m (x.kf m) = chkF s d t m y) (hk : kindOk (s.k t m) y) (hj : j < y.kl) (hfj : fe (fun j => chk s d (s.t t m).toNat (y.kf j)) j = 0) (hz : chk s d (s.t t m).toNat (y.kf j) = chk s d τ z) (hE : chk s d τ z = E) (h0 : E ≠ 0) (hb : Below w.heap.size w w') :
    Ending.returned (errV E) = .returned (errV (chk s (d + 1) t x)) ∧ Below w.heap.size w w' := by
  refine ⟨ret_err ?_, hb⟩
  have e1 : chkF s d t m y = E := by rw [chkF, if_pos hk, fe_at hfj (by rw [hz, hE]; exact h0) hj, hz, hE]
  rw [chk_succ, if_pos hst, fe_at hf (by rw [hc, e1]; exact h0) hm, hc, e1]

set_option maxRecDepth 100000 in
set_option maxHeartbeats 4000000 in
theorem check1_any (s : Sch) (hR : RightS s) (A : Option Addr) (c : Nat) (bs bc : Nat) (d : Nat) : ∀ (t : Nat) (x : Tr) (An Ak : Option Addr) (cn ck n : Nat) (D : Int) (w : World), t < s.n → 0 ≤ D → D + d = 6 → Sm n x → CkW bs bc s A c w → TAt w (fun _ => True) x An Ak →
    Calls Tryd.prog 93 #[.int .i64 (t : Int), (.agg #[.int .u64 ((x).num : Nat), .string (x).bs, .slice An (x).nl cn, .slice Ak (x).kl ck]), .int .i64 D, .pointer (some ⟨bs, 0, none⟩), .pointer (some ⟨bc, 0, none⟩)] w fun e w' => e = .returned (errV (chk s d t x)) ∧ Below w.heap.size w w' := by
  induction d with
  | zero =>
    intro t x An Ak cn ck n D w ht hD0 hD hS hck hT
    obtain rfl : D = 6 := by omega
    clear hS hck hT
    go_enter Tryd.func93, Tryd.ntmps93
    go_wp2
    go_step3
    go_wp2_with fail
    refine (Cs.new_code 16 _ rfl).mono ?_
    rintro e w' ⟨rfl, rfl⟩
    go_wp2
    rw [Exit.noGoto_ret]
    go_ret
    exact ⟨rfl, by (repeat (first | with_reducible exact Below.refl _ _ | with_reducible refine Below.drew ?_ | (with_reducible refine Below.setCell ?_ ?side _; case side => exact (by first | (simp; done) | (simp; omega) | omega)) | (with_reducible refine Below.alloc ?_ ?side _; case side => exact (by first | (simp; done) | (simp; omega) | omega))))⟩
  | succ d ih =>
    intro t x An Ak cn ck n D w ht hD0 hD hS hck hT
    have IH := Lib.hid ih
    have HS := Lib.hid hS
    have HC := Lib.hid hck
    have HT := Lib.hid hT
    have HR := Lib.hid hR
    obtain ⟨g1, g2, g3, hk5⟩ := hS.le
    have HB0 := Lib.hid (CB.mk' (w := w) (k1 := cn) (k2 := ck) hck hT (Below.refl _ _))
    clear ih hS hck hT g1 g2 g3
    have d5 : decide (5 < D) = false := by simp; omega
    by_cases hst : structOk s t x
    · have HE : Hid (strB (lenAt s t) x = true) := Lib.hid ((strB_iff _ _).2 ⟨hst.1, hst.2.1, hst.2.2.1, by rw [lenAt_nat ht, hst.2.2.2]⟩)
      have HL := Lib.hid hst.2.2.2
      have HST := Lib.hid hst
      have hpos : 0 < x.kl := by rw [HL.out]; exact (HR.out.2.2 t ht).1
      clear hst
      obtain ⟨b, off, rfl, -, hlt, hc⟩ := HT.out.kids hpos
      have HK := Lib.hid hc
      clear hc
      go_enter Tryd.func93, Tryd.ntmps93
      go_wp2
      go_step3
      go_wp2_with fail
      go_region_held3 (fun w' => w'.cell? ⟨bs, 0, none⟩ = some (.slice A s.n c) ∧ w'.cell? ⟨bc, 0, none⟩ = some (.func (.func 93) #[] #[.pointer (some ⟨bs, 0, none⟩), .pointer (some ⟨bc, 0, none⟩)]) ∧ w'.cell? ⟨w.heap.size, 0, none⟩ = some (.int .u64 ((x).num : Nat)) ∧ w'.cell? ⟨w.heap.size, 1, none⟩ = some (.string (x).bs) ∧ w'.cell? ⟨w.heap.size, 2, none⟩ = some (.slice An (x).nl cn) ∧ w'.cell? ⟨w.heap.size, 3, none⟩ = some (.slice (some ⟨b, off, none⟩) (x).kl ck) ∧ CB w bs bc s A c w.heap.size x An cn (some ⟨b, off, none⟩) ck w')
        (first | exact HB0.out.drew.all | exact K2.out.all | assumption)
        (first
          | (go_at_call 56; (with_reducible refine (fields_any s A c t _ HB0.out.drew.ck.sat).mono ?_); rintro e w1 ⟨rfl, rfl⟩)
          | (go_at_call 94; (with_reducible refine (isStruct_any x An _ cn ck (lenAt s t) _).mono ?_); rintro e w2 ⟨rfl, hb⟩; have K2 := Lib.hid (HB0.out.drew.below hb); clear hb; rw [HE.out]))
      have c3 := K2.out.box.c3
      simp only [Nat.zero_add] at c3
      go_wp2
      go_step3
      go_wp2
      clear c3 d5
      go_loopw [27, 9] (fun iv ev wr => ∃ m : Nat, m ≤ x.kl ∧ iv = .int .i64 m ∧ ev = .nilIface ∧ Hid (CkW bs bc s A c wr ∧ Below w.heap.size w wr ∧ fe (fun i => chkF s d t i (x.kf i)) m = 0)) (fun iv _ _ => x.kl - (intOf iv).toNat)
      case atStart => exact ⟨0, by omega, rfl, rfl, Lib.hid ⟨K2.out.ck, K2.out.be, rfl⟩⟩
      case round =>
        clear K2
        obtain ⟨m, hm, rfl, rfl, HI⟩ := hrel
        by_cases hm1 : m < x.kl
        · have hml : m < s.len t := by rw [← HL.out]; exact hm1
          obtain ⟨A1, k1, A2, k2, h4, hty⟩ := HK.out m hm1
          have h4' := h4.of_block (HI.out.2.1.block b hlt)
          have K0 := Lib.hid (CB.mk' (w := w) (k1 := k1) (k2 := k2) HI.out.1 (hty.keep (fun b _ hl => HI.out.2.1.block b hl) (fun _ h _ => h) HI.out.2.1.size) HI.out.2.1)
          obtain ⟨c0, c1, c2, c3⟩ := h4'
          have HKA := Lib.hid (kAt_nat ht hml)
          have HTA := Lib.hid (tAt_nat HR.out ht hml)
          obtain ⟨f1, f2, -, -⟩ := HR.out.field ht hml
          have hFe := Lib.hid HI.out.2.2
          have hys := HS.out
          obtain ⟨n, rfl⟩ := hys.pos
          have HSY := Lib.hid (hys.kid hm1)
          have hyk := HSY.out.le.2.2.2
          clear h4 hty hys
          obtain ⟨y, HY⟩ : ∃ y, Hid (x.kf m = y) := ⟨_, Lib.hid rfl⟩
          rw [HY.out] at K0 c0 c1 c2 c3 HSY hyk
          have HCF : Hid (chkF s d t m (x.kf m) = chkF s d t m y) := Lib.hid (by rw [HY.out])
          obtain ⟨κ, HKK⟩ : ∃ κ, Hid (s.k t m = κ) := ⟨_, Lib.hid rfl⟩
          rw [HKK.out] at HKA f1 f2
          have hi0 : (0 : Int) ≤ (m : Int) := by omega
          go_wp2_with fail
          clear c0 c1 c2 c3
          generalize wr.heap.size = q at K0 ⊢
          go_region_held3 (fun w' => w'.cell? ⟨bs, 0, none⟩ = some (.slice A s.n c) ∧ w'.cell? ⟨bc, 0, none⟩ = some (.func (.func 93) #[] #[.pointer (some ⟨bs, 0, none⟩), .pointer (some ⟨bc, 0, none⟩)]) ∧ w'.cell? ⟨q, 0, none⟩ = some (.int .u64 ((y).num : Nat)) ∧ w'.cell? ⟨q, 1, none⟩ = some (.string (y).bs) ∧ w'.cell? ⟨q, 2, none⟩ = some (.slice A1 (y).nl k1) ∧ w'.cell? ⟨q, 3, none⟩ = some (.slice A2 (y).kl k2) ∧ CB w bs bc s A c q y A1 k1 A2 k2 w')
            (first | exact K0.out.drew.all | exact K1.out.all | exact K2.out.all | assumption)
            (first
              | (go_at_call 85; (with_reducible refine (kind_any s A c t m _ K0.out.drew.ck.sat).mono ?_); rintro e w1 ⟨rfl, hb⟩; have K1 := Lib.hid (K0.out.drew.below hb); clear hb; rw [HKA.out])
              | (go_at_call 95; (with_reducible refine (isOfKind_any y A1 A2 k1 k2 κ f1 f2 _).mono ?_); rintro e w2 ⟨rfl, hb⟩; have K2 := Lib.hid (K1.out.below hb); clear hb))
          by_cases hkd : kindOk κ y
          · rw [(kindB_iff _ _).2 hkd]
            have HKD := Lib.hid hkd
            clear hkd K0 K1
            have c3 := K2.out.box.c3
            simp only [Nat.zero_add] at c3
            go_wp2
            clear c3
            go_loopw [43, 9] (fun jv ev wr => ∃ j : Nat, j ≤ y.kl ∧ jv = .int .i64 j ∧ ev = .nilIface ∧ Hid (CB w bs bc s A c q y A1 k1 A2 k2 wr ∧ fe (fun j => chk s d (s.t t m).toNat (y.kf j)) j = 0)) (fun jv _ _ => y.kl - (intOf jv).toNat)
            case atStart => exact ⟨0, by omega, rfl, rfl, Lib.hid ⟨K2.out, rfl⟩⟩
            case round =>
              clear K2
              obtain ⟨j, hj, rfl, rfl, HJ⟩ := hrel
              by_cases hj1 : j < y.kl
              · obtain ⟨b', off', rfl, -, hlt', hc'⟩ := HJ.out.1.tat.kids (by omega)
                obtain ⟨A3, k3, A4, k4, h4, htz⟩ := hc' j hj1
                have HZ := Lib.hid htz
                obtain ⟨c0, c1, c2, c3⟩ := h4
                have K0 := Lib.hid (CB.mk' (w := wr) (k1 := k3) (k2 := k4) HJ.out.1.ck htz (Below.refl _ _))
                have hys := HSY.out
                obtain ⟨n, rfl⟩ := hys.pos
                have HSZ := Lib.hid (hys.kid hj1)
                clear hc' htz hys
                obtain ⟨τ, HTT⟩ : ∃ τ, Hid ((s.t t m).toNat = τ) := ⟨_, Lib.hid rfl⟩
                have hτ : τ < s.n := by rw [← HTT.out]; exact HR.out.tlt ht hml
                rw [HTT.out] at HTA
                obtain ⟨z, HZZ⟩ : ∃ z, Hid (y.kf j = z) := ⟨_, Lib.hid rfl⟩
                rw [HZZ.out] at K0 c0 c1 c2 c3 HSZ HZ
                have hD1 : IntKind.i64.wrap (D + 1) = D + 1 := IntWalk.i64_in _ (by omega)
                go_wp2_with fail
                clear c0 c1 c2 c3
                generalize wr.heap.size = q' at K0 ⊢
                go_region_held3 (fun w' => w'.cell? ⟨bs, 0, none⟩ = some (.slice A s.n c) ∧ w'.cell? ⟨bc, 0, none⟩ = some (.func (.func 93) #[] #[.pointer (some ⟨bs, 0, none⟩), .pointer (some ⟨bc, 0, none⟩)]) ∧ w'.cell? ⟨q', 0, none⟩ = some (.int .u64 ((z).num : Nat)) ∧ w'.cell? ⟨q', 1, none⟩ = some (.string (z).bs) ∧ w'.cell? ⟨q', 2, none⟩ = some (.slice A3 (z).nl k3) ∧ w'.cell? ⟨q', 3, none⟩ = some (.slice A4 (z).kl k4) ∧ CB wr bs bc s A c q' z A3 k3 A4 k4 w')
                  (first | exact K0.out.drew.all | exact K1.out.all | exact K2.out.all | assumption)
                  (first
                    | (go_at_call 86; (with_reducible refine (type_any s A c t m _ K0.out.drew.ck.sat).mono ?_); rintro e w1 ⟨rfl, hb⟩; have K1 := Lib.hid (K0.out.drew.below hb); clear hb; rw [HTA.out])
                    | (go_at_call 93; (with_reducible refine (IH.out τ z A3 A4 k3 k4 _ (D + 1) _ hτ (by omega) (by omega) HSZ.out K1.out.ck K1.out.tat).mono ?_); rintro e w2 ⟨rfl, hb⟩; have K2 := Lib.hid (K1.out.below hb); clear hb))
                clear hD1
                have HCZ : Hid (chk s d (s.t t m).toNat (y.kf j) = chk s d τ z) := Lib.hid (by rw [HTT.out, HZZ.out])
                have HNB := Lib.hid (HJ.out.1.below K2.out.be)
                rcases chk_vals s d τ z with h0 | h0 | h0
                · rw [h0, errV_0]
                  have H0 := Lib.hid h0
                  clear h0
                  go_wp2
                  go_roundw
                  case rel =>
                    (repeat apply Exists.intro)
                    exact ⟨⟨j + 1, by omega, by go_num, rfl, Lib.hid ⟨HNB.out, by rw [fe, HJ.out.2, if_pos rfl, HCZ.out, H0.out]⟩⟩, rfl⟩
                  case measure => simp [intOf]; omega
                · rw [h0, errV_16]
                  have H0 := Lib.hid h0
                  clear h0
                  go_wp2
                  rw [Exit.noGoto_ret]
                  go_ret
                  exact chk_ret HST.out hm1 hFe.out HCF.out (by rw [HKK.out]; exact HKD.out) hj1 HJ.out.2 HCZ.out H0.out (by omega) HNB.out.be
                · rw [h0, errV_24]
                  have H0 := Lib.hid h0
                  clear h0
                  go_wp2
                  rw [Exit.noGoto_ret]
                  go_ret
                  exact chk_ret HST.out hm1 hFe.out HCF.out (by rw [HKK.out]; exact HKD.out) hj1 HJ.out.2 HCZ.out H0.out (by omega) HNB.out.be
              · go_wp2
                go_roundw
                case rel =>
                  have e : j = y.kl := by omega
                  subst e
                  exact ⟨m + 1, by omega, by go_num, rfl, Lib.hid ⟨HJ.out.1.ck, HJ.out.1.be, by rw [fe, hFe.out, if_pos rfl, HCF.out, chkF, if_pos (by rw [HKK.out]; exact HKD.out), HJ.out.2]⟩⟩
                case measure => simp [intOf]; omega
          · have HKF : Hid (kindB κ y = false) := Lib.hid (by rw [← Bool.not_eq_true, kindB_iff]; exact hkd)
            rw [HKF.out]
            go_wp2_with fail
            refine (Cs.new_code 24 _ rfl).mono ?_
            rintro e w' ⟨rfl, rfl⟩
            go_wp2
            rw [Exit.noGoto_ret]
            go_ret
            refine ⟨ret_err (a := 24) ?_, K2.out.be⟩
            rw [chk_succ, if_pos HST.out, fe_at hFe.out (m := m) (by rw [HCF.out, chkF, if_neg (by rw [HKK.out]; exact hkd)]; omega) hm1, HCF.out, chkF, if_neg (by rw [HKK.out]; exact hkd)]
        · have e : m = x.kl := by omega
          subst e
          go_wp2
          rw [Exit.noGoto_ret]
          go_ret
          refine ⟨ret_err (a := 0) ?_, HI.out.2.1⟩
          rw [chk_succ, if_pos HST.out, HI.out.2.2]
    · have HE : Hid (strB (lenAt s t) x = false) := Lib.hid (by rw [← Bool.not_eq_true, strB_iff, lenAt_nat ht]; exact fun h => hst ⟨h.1, h.2.1, h.2.2.1, by omega⟩)
      have HST := Lib.hid hst
      clear hst
      go_enter Tryd.func93, Tryd.ntmps93
      go_wp2
      go_step3
      go_wp2_with fail
      go_region_held3 (fun w' => w'.cell? ⟨bs, 0, none⟩ = some (.slice A s.n c) ∧ w'.cell? ⟨bc, 0, none⟩ = some (.func (.func 93) #[] #[.pointer (some ⟨bs, 0, none⟩), .pointer (some ⟨bc, 0, none⟩)]) ∧ w'.cell? ⟨w.heap.size, 0, none⟩ = some (.int .u64 ((x).num : Nat)) ∧ w'.cell? ⟨w.heap.size, 1, none⟩ = some (.string (x).bs) ∧ w'.cell? ⟨w.heap.size, 2, none⟩ = some (.slice An (x).nl cn) ∧ w'.cell? ⟨w.heap.size, 3, none⟩ = some (.slice Ak (x).kl ck) ∧ CB w bs bc s A c w.heap.size x An cn Ak ck w')
        (first | exact HB0.out.drew.all | exact K2.out.all | assumption)
        (first
          | (go_at_call 56; (with_reducible refine (fields_any s A c t _ HB0.out.drew.ck.sat).mono ?_); rintro e w1 ⟨rfl, rfl⟩)
          | (go_at_call 94; (with_reducible refine (isStruct_any x An _ cn ck (lenAt s t) _).mono ?_); rintro e w2 ⟨rfl, hb⟩; have K2 := Lib.hid (HB0.out.drew.below hb); clear hb; rw [HE.out]))
      go_wp2_with fail
      refine (Cs.new_code 24 _ rfl).mono ?_
      rintro e w' ⟨rfl, rfl⟩
      go_wp2
      rw [Exit.noGoto_ret]
      go_ret
      exact ⟨ret_err (a := 24) (by rw [chk_succ, if_neg HST.out]), K2.out.be⟩

end Go.Proofs.YthcachmcjekckaaDoor
