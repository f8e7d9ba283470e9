/- The document's Same of trees. -/
import Derived.Test.YtifbaphfjamdlaaDoorTSize2
import Derived.Deep.RegionHeld3
namespace Go.Proofs.YtifbaphfjamdlaaDoor
open Go.ChangeShapes Go.WideShapes Go.ChangeAt Go.RowKit
theorem bs_ne {a b : ByteArray} (h : a ≠ b) : (a.toList == b.toList) = false := by
  rw [beq_eq_false_iff_ne]
  intro e
  rw [ByteArray.toList_eq, ByteArray.toList_eq] at e
  exact h (by cases a; cases b; exact congrArg ByteArray.mk (Array.ext' e))
theorem ne_no {a b : Nat} (h : a = b) : ((a : Int) != (b : Int)) = false := by simp [h]
theorem ne_yes {a b : Nat} (h : ¬ a = b) : ((a : Int) != (b : Int)) = true := bne_iff_ne.2 (by omega)
/-- Two trees in their boxes. -/
structure TB (w : World) (x : Tr) (An : Option Addr) (cn : Nat) (Ak : Option Addr) (ck : Nat) (y : Tr) (Bn : Option Addr) (dn : Nat) (Bk : Option Addr) (dk : Nat) (W : World) : Prop where
  be : Below w.heap.size w W
  bx : Cell4 W w.heap.size 0 x An cn Ak ck
  by_ : Cell4 W (w.heap.size + 1) 0 y Bn dn Bk dk
  lt : w.heap.size + 1 < W.heap.size
  tx : TAt W (fun _ => True) x An Ak
  ty : TAt W (fun _ => True) y Bn Bk
theorem TB.below {w : World} {x : Tr} {An : Option Addr} {cn : Nat} {Ak : Option Addr} {ck : Nat} {y : Tr} {Bn : Option Addr} {dn : Nat} {Bk : Option Addr} {dk : Nat} {W W' : World} (h : TB w x An cn Ak ck y Bn dn Bk dk W) (hb : Below W.heap.size W W') : TB w x An cn Ak ck y Bn dn Bk dk W' :=
  ⟨Below.step h.be hb h.be.size, h.bx.of_block (hb.block _ (by have := h.lt; omega)), h.by_.of_block (hb.block _ h.lt), Nat.lt_of_lt_of_le h.lt hb.size, h.tx.below hb, h.ty.below hb⟩
theorem TB.cells {w : World} {x : Tr} {An : Option Addr} {cn : Nat} {Ak : Option Addr} {ck : Nat} {y : Tr} {Bn : Option Addr} {dn : Nat} {Bk : Option Addr} {dk : Nat} {W : World} (h : TB w x An cn Ak ck y Bn dn Bk dk W) : (W.cell? ⟨w.heap.size, 0, none⟩ = some (.int .u64 (x.num : Nat)) ∧ W.cell? ⟨w.heap.size, 1, none⟩ = some (.string x.bs) ∧ W.cell? ⟨w.heap.size, 2, none⟩ = some (.slice An x.nl cn) ∧ W.cell? ⟨w.heap.size, 3, none⟩ = some (.slice Ak x.kl ck)) ∧ W.cell? ⟨w.heap.size + 1, 0, none⟩ = some (.int .u64 (y.num : Nat)) ∧ W.cell? ⟨w.heap.size + 1, 1, none⟩ = some (.string y.bs) ∧ W.cell? ⟨w.heap.size + 1, 2, none⟩ = some (.slice Bn y.nl dn) ∧ W.cell? ⟨w.heap.size + 1, 3, none⟩ = some (.slice Bk y.kl dk) :=
  ⟨⟨h.bx.c0, h.bx.c1, h.bx.c2, h.bx.c3⟩, h.by_.c0, h.by_.c1, h.by_.c2, h.by_.c3⟩
theorem TB.start (w : World) {x : Tr} {An : Option Addr} (cn : Nat) {Ak : Option Addr} (ck : Nat) {y : Tr} {Bn : Option Addr} (dn : Nat) {Bk : Option Addr} (dk : Nat) (hx : TAt w (fun _ => True) x An Ak) (hy : TAt w (fun _ => True) y Bn Bk) : TB w x An cn Ak ck y Bn dn Bk dk ((w.alloc (.cells #[.int .u64 ((x).num : Nat), .string (x).bs, .slice An (x).nl cn, .slice Ak (x).kl ck] 32)).alloc (.cells #[.int .u64 ((y).num : Nat), .string (y).bs, .slice Bn (y).nl dn, .slice Bk (y).kl dk] 32)) := by
  have h2 := cell4_box (w.alloc (.cells #[.int .u64 ((x).num : Nat), .string (x).bs, .slice An (x).nl cn, .slice Ak (x).kl ck] 32)) y Bn dn Bk dk
  simp only [World.size_alloc] at h2
  have hb : Below w.heap.size w ((w.alloc (.cells #[.int .u64 ((x).num : Nat), .string (x).bs, .slice An (x).nl cn, .slice Ak (x).kl ck] 32)).alloc (.cells #[.int .u64 ((y).num : Nat), .string (y).bs, .slice Bn (y).nl dn, .slice Bk (y).kl dk] 32)) := by (repeat (first | with_reducible exact Below.refl _ _ | with_reducible refine Below.drew ?_ | (with_reducible refine Below.setCell ?_ ?side _; case side => exact (by first | (simp; done) | (simp; omega) | omega)) | (with_reducible refine Below.alloc ?_ ?side _; case side => exact (by first | (simp; done) | (simp; omega) | omega))))
  exact ⟨hb, (cell4_box w x An cn Ak ck).of_block (((Below.refl _ _).alloc (Nat.le_refl _) _).block _ (by simp)), h2, by simp, hx.below hb, hy.below hb⟩
theorem TB.S {w : World} {x : Tr} {An : Option Addr} {cn : Nat} {Ak : Option Addr} {ck : Nat} {y : Tr} {Bn : Option Addr} {dn : Nat} {Bk : Option Addr} {dk : Nat} {W W' : World} (h : TB w x An cn Ak ck y Bn dn Bk dk W) {u v : Tr} {b o b' o' : Nat} {A1 A2 A3 A4 : Option Addr} {k1 k2 k3 k4 : Nat} (hb : b < W.heap.size) (hb' : b' < W.heap.size) (h4 : Cell4 W b o u A1 k1 A2 k2) (h5 : Cell4 W b' o' v A3 k3 A4 k4) (hB : Below W.heap.size W W') :
    W'.cell? ⟨w.heap.size, 3, none⟩ = some (.slice Ak x.kl ck) ∧ W'.cell? ⟨w.heap.size + 1, 3, none⟩ = some (.slice Bk y.kl dk) ∧ (W'.cell? ⟨b, o, none⟩ = some (.int .u64 (u.num : Nat)) ∧ W'.cell? ⟨b, o + 1, none⟩ = some (.string u.bs) ∧ W'.cell? ⟨b, o + 2, none⟩ = some (.slice A1 u.nl k1) ∧ W'.cell? ⟨b, o + 3, none⟩ = some (.slice A2 u.kl k2)) ∧ W'.cell? ⟨b', o', none⟩ = some (.int .u64 (v.num : Nat)) ∧ W'.cell? ⟨b', o' + 1, none⟩ = some (.string v.bs) ∧ W'.cell? ⟨b', o' + 2, none⟩ = some (.slice A3 v.nl k3) ∧ W'.cell? ⟨b', o' + 3, none⟩ = some (.slice A4 v.kl k4) := by
  have h4' := h4.of_block (hB.block b hb)
  have h5' := h5.of_block (hB.block b' hb')
  have hc := (h.below hB).cells
  exact ⟨hc.1.2.2.2, hc.2.2.2.2, ⟨h4'.c0, h4'.c1, h4'.c2, h4'.c3⟩, h5'.c0, h5'.c1, h5'.c2, h5'.c3⟩
set_option maxRecDepth 100000 in
set_option maxHeartbeats 4000000 in
theorem r6same_any (n : Nat) : ∀ (x y : Tr) (An Ak Bn Bk : Option Addr) (cn ck dn dk : Nat) (w : World), Sm n x → Sm n y → TAt w (fun _ => True) x An Ak → TAt w (fun _ => True) y Bn Bk →
    Calls Tryd.prog 24 #[(.agg #[.int .u64 ((x).num : Nat), .string (x).bs, .slice An (x).nl cn, .slice Ak (x).kl ck]), (.agg #[.int .u64 ((y).num : Nat), .string (y).bs, .slice Bn (y).nl dn, .slice Bk (y).kl dk])] w fun e w' => e = .returned (.bool (sameTB x y)) ∧ Below w.heap.size w w' := by
  induction n with
  | zero => intro x y An Ak Bn Bk cn ck dn dk w h; exact absurd h (by simp [Sm])
  | succ n ih =>
    intro x y An Ak Bn Bk cn ck dn dk w hS hS2 hx hy
    have K0 := Lib.hid (TB.start w cn ck dn dk hx hy)
    have HIH := Lib.hid ih
    have HS := Lib.hid hS
    have HS2 := Lib.hid hS2
    have HSX := Lib.hid (sameT_eq x y)
    have hx12 := hS.le.2.2
    have hy12 := hS2.le.2.2
    clear ih hS hS2 hx hy
    go_enter Tryd.func24, Tryd.ntmps24
    go_wp2_with fail
    generalize (w.alloc (.cells #[.int .u64 ((x).num : Nat), .string (x).bs, .slice An (x).nl cn, .slice Ak (x).kl ck] 32)).alloc (.cells #[.int .u64 ((y).num : Nat), .string (y).bs, .slice Bn (y).nl dn, .slice Bk (y).kl dk] 32) = W0 at K0 ⊢
    refine (same_any W0 An Bn x.nl y.nl cn dn x.nf y.nf (by omega) K0.out.tx.nums K0.out.ty.nums).mono ?_
    rintro e w1 ⟨rfl, hb⟩
    have K1 := Lib.hid (K0.out.below hb)
    clear hb K0
    obtain ⟨⟨a0, a1, a2, a3⟩, b0, b1, b2, b3⟩ := K1.out.cells
    by_cases h1 : x.num = y.num
    · have d1 := ne_no h1
      have d2 : ((x.num : Int) = (y.num : Int)) = True := eq_true (by omega)
      have H1 := Lib.hid h1
      clear h1
      by_cases h2 : x.bs = y.bs
      · have e1 : (x.bs.toList == y.bs.toList) = true := by rw [h2]; exact beq_self_eq_true _
        have H2 := Lib.hid h2
        clear h2
        by_cases h3 : sameW x.nl y.nl x.nf y.nf
        · have H3 := Lib.hid h3
          rw [sameWB_true h3]
          clear h3
          by_cases h4 : x.kl = y.kl
          · have H4 := Lib.hid h4
            have f1 := ne_no h4
            have f2 : ((x.kl : Int) = (y.kl : Int)) = True := eq_true (by omega)
            clear h4
            go_wp2
            clear a0 a1 a2 a3 b0 b1 b2 b3 d1 d2 e1 f1 f2
            go_loopw [6] (fun iv wr => ∃ i : Nat, i ≤ x.kl ∧ iv = .int .i64 i ∧ Hid ((∀ j, j < i → sameT (x.kf j) (y.kf j)) ∧ TB w x An cn Ak ck y Bn dn Bk dk wr)) (fun iv _ => x.kl - (intOf iv).toNat)
            case atStart => exact ⟨0, by omega, rfl, Lib.hid ⟨fun j hj => absurd hj (Nat.not_lt_zero j), K1.out⟩⟩
            case round =>
              clear K1
              obtain ⟨i, hi, rfl, HL⟩ := hrel
              obtain ⟨⟨a0, a1, a2, a3⟩, b0, b1, b2, b3⟩ := HL.out.2.cells
              by_cases hi1 : i < x.kl
              · have hi2 : i < y.kl := by have := H4.out; omega
                obtain ⟨b, off, rfl, -, hlt, hc⟩ := HL.out.2.tx.kids (by omega)
                obtain ⟨A1, k1, A2, k2, h4, hty⟩ := hc i hi1
                obtain ⟨b', off', rfl, -, hlt', hc'⟩ := HL.out.2.ty.kids (by omega)
                obtain ⟨A3, k3, A4, k4, h4', hty'⟩ := hc' i hi2
                have HTX := Lib.hid hty
                have HTY := Lib.hid hty'
                have H44 := Lib.hid h4
                have H45 := Lib.hid h4'
                have HSI := Lib.hid (HS.out.kid hi1)
                have HSJ := Lib.hid (HS2.out.kid hi2)
                clear hc hc' hty hty' h4 h4'
                obtain ⟨u, HU⟩ : ∃ u, Hid (x.kf i = u) := ⟨_, Lib.hid rfl⟩
                obtain ⟨v, HV⟩ : ∃ v, Hid (y.kf i = v) := ⟨_, Lib.hid rfl⟩
                rw [HU.out] at HTX H44 HSI
                rw [HV.out] at HTY H45 HSJ
                have f3 : (i : Int) < (x.kl : Int) := by omega
                have f4 : (i : Int) < (y.kl : Int) := by omega
                have f5 : (0 : Int) ≤ (i : Int) := by omega
                obtain ⟨c0, c1, c2, c3⟩ := H44.out
                obtain ⟨e0, e1, e2, e3⟩ := H45.out
                clear a0 a1 a2 b0 b1 b2
                go_wp2_with fail
                have HD0 : Hid (Below wr.heap.size wr wr.drew) := Lib.hid (Below.refl _ _).drew
                go_region_held3 (fun W' => W'.cell? ⟨w.heap.size, 3, none⟩ = some (.slice (some ⟨b, off, none⟩) x.kl ck) ∧ W'.cell? ⟨w.heap.size + 1, 3, none⟩ = some (.slice (some ⟨b', off', none⟩) y.kl dk) ∧ (W'.cell? ⟨b, off + i * 4, none⟩ = some (.int .u64 (u.num : Nat)) ∧ W'.cell? ⟨b, off + i * 4 + 1, none⟩ = some (.string u.bs) ∧ W'.cell? ⟨b, off + i * 4 + 2, none⟩ = some (.slice A1 u.nl k1) ∧ W'.cell? ⟨b, off + i * 4 + 3, none⟩ = some (.slice A2 u.kl k2)) ∧ W'.cell? ⟨b', off' + i * 4, none⟩ = some (.int .u64 (v.num : Nat)) ∧ W'.cell? ⟨b', off' + i * 4 + 1, none⟩ = some (.string v.bs) ∧ W'.cell? ⟨b', off' + i * 4 + 2, none⟩ = some (.slice A3 v.nl k3) ∧ W'.cell? ⟨b', off' + i * 4 + 3, none⟩ = some (.slice A4 v.kl k4))
                  (first | exact HL.out.2.S hlt hlt' H44.out H45.out HD0.out | exact HL.out.2.S hlt hlt' H44.out H45.out HD1.out | fail)
                  (first
                    | (go_at_call 24; (with_reducible refine (HIH.out u v A1 A2 A3 A4 k1 k2 k3 k4 _ HSI.out HSJ.out (HTX.out.below HD0.out) (HTY.out.below HD0.out)).mono ?_); rintro e w5 ⟨rfl, hb⟩; have HD1 : Hid (Below wr.heap.size wr w5) := Lib.hid (Below.step HD0.out hb HD0.out.size); clear hb) | fail)
                all_goals
                  by_cases h9 : sameT u v
                  · rw [sameTB_true h9]
                    have HNX : Hid ((∀ j, j < i + 1 → sameT (x.kf j) (y.kf j)) ∧ TB w x An cn (some ⟨b, off, none⟩) ck y Bn dn (some ⟨b', off', none⟩) dk w5) := Lib.hid ⟨fun j hj => by
                      by_cases e : j = i
                      · subst e; rw [HU.out, HV.out]; exact h9
                      · exact HL.out.1 j (by omega), HL.out.2.below HD1.out⟩
                    clear h9
                    go_wp2
                    go_roundw
                    case rel => exact ⟨i + 1, by omega, by go_num, HNX⟩
                    case measure => simp [intOf]; omega
                  · have hr : sameTB x y = false := sameTB_false fun h => h9 (by have := (HSX.out.1 h).2.2.2.2 i hi1; rw [HU.out, HV.out] at this; exact this)
                    rw [sameTB_false h9]
                    have HBF := Lib.hid (HL.out.2.below HD1.out).be
                    clear h9
                    go_wp2
                    go_ret
                    exact ⟨by rw [hr]; rfl, HBF.out⟩
              · have e : i = x.kl := by omega
                subst e
                have hr : sameTB x y = true := sameTB_true (HSX.out.2 ⟨H1.out, H2.out, H3.out, H4.out, HL.out.1⟩)
                go_wp2
                go_ret
                exact ⟨by rw [hr]; rfl, HL.out.2.be⟩
          · have hr : sameTB x y = false := sameTB_false fun h => h4 ((HSX.out.1 h).2.2.2.1)
            have f1 := ne_yes h4
            have f2 : ((x.kl : Int) = (y.kl : Int)) = False := eq_false (by omega)
            go_wp2
            go_ret
            exact ⟨by rw [hr]; rfl, K1.out.be⟩
        · have hr : sameTB x y = false := sameTB_false fun h => h3 ((HSX.out.1 h).2.2.1)
          rw [sameWB_false h3]
          clear h3
          go_wp2
          go_ret
          exact ⟨by rw [hr]; rfl, K1.out.be⟩
      · have hr : sameTB x y = false := sameTB_false fun h => h2 ((HSX.out.1 h).2.1)
        have e1 := bs_ne h2
        go_wp2
        go_ret
        exact ⟨by rw [hr]; rfl, K1.out.be⟩
    · have hr : sameTB x y = false := sameTB_false fun h => h1 ((HSX.out.1 h).1)
      have d1 := ne_yes h1
      have d2 : ((x.num : Int) = (y.num : Int)) = False := eq_false (by omega)
      go_wp2
      go_ret
      exact ⟨by rw [hr]; rfl, K1.out.be⟩

end Go.Proofs.YtifbaphfjamdlaaDoor
