/- TreeGets: the law's walk. -/
import Derived.Test.YtojlimpooeehhaaDoorTGets
import Derived.Test.YtojlimpooeehhaaDoorTSpoilt
import Derived.Test.YtojlimpooeehhaaDoorTLawB
namespace Go.Proofs.YtojlimpooeehhaaDoor
open Go.ChangeShapes Go.WideShapes Go.ChangeAt Go.RowKit
theorem info_int : (Tryd.prog.info? 3).map (fun i => (i.zero, i.size, i.bytes)) = some (some (.int .i64 0), 1, 8) := by kernel_rfl
/-- A row of numbers, whichever. -/
def JRow (W : World) (g L : Nat) : Prop := ∃ f : Nat → Int, W.rowIs g 3 L (fun j => .int .i64 (f j))
theorem JRow.put {W : World} {g L : Nat} (h : JRow W g L) (i : Nat) (V : Int) : JRow (W.setCell ⟨g, i, none⟩ (.int .i64 V)) g L := by
  obtain ⟨f, hf⟩ := h
  exact ⟨fun j => if j = i then V else f j, (hf.set i _).congr fun j _ => by by_cases e : j = i <;> simp [e]⟩
theorem JRow.cell {W : World} {g L i : Nat} (h : JRow W g L) (hi : i < L) : ∃ z, W.cell? ⟨g, i, none⟩ = some (.int .i64 z) := by
  obtain ⟨f, hf⟩ := h
  exact ⟨_, hf.cell hi⟩
theorem JRow.frozen {W : World} {g L : Nat} (h : JRow W g L) : ∀ o, W.frozen? ⟨g, o, none⟩ = false := by
  obtain ⟨f, hf⟩ := h
  exact hf.frozen
theorem JRow.lt {W : World} {g L : Nat} (h : JRow W g L) : g < W.heap.size := by
  obtain ⟨f, hf⟩ := h
  exact hf.lt
theorem JRow.prow {W : World} {g L : Nat} (h : JRow W g L) : ∃ p : List Int, p.length = L ∧ PRow W (some ⟨g, 0, none⟩) p := by
  obtain ⟨f, hf⟩ := h
  refine ⟨(List.range L).map f, by simp, fun _ => ⟨g, 0, rfl, hf.lt, fun j hj => ?_⟩⟩
  have hj' : j < L := by simpa using hj
  rw [Nat.zero_add, hf.cell hj']
  simp [List.getD_eq_getElem?_getD, List.getElem?_range hj']
theorem PRow.take {W : World} {A : Option Addr} {p : List Int} (h : PRow W A p) (m : Nat) : PRow W A (p.take m) := fun h0 => by
  have hl : (p.take m).length ≤ p.length := by rw [List.length_take]; omega
  obtain ⟨b, off, hA, hlt, hc⟩ := h (by omega)
  refine ⟨b, off, hA, hlt, fun j hj => ?_⟩
  have hjm : j < m := by rw [List.length_take] at hj; omega
  rw [hc j (by omega)]
  simp only [List.getD_eq_getElem?_getD, List.getElem?_take_of_lt hjm]

set_option maxRecDepth 100000 in
set_option maxHeartbeats 16000000 in
theorem lawGets_any (A1 : Option Addr) (L1 c1 : Nat) (A2 : Option Addr) (L2' c2 : Nat) (T : Int) (Ap : Option Addr) (Lp cp : Nat) (pp : List Int) (how at_ n : Int) (str : ByteArray) (dn : Bool) (w : World) (hE : Cs.ErrT w) (hN1 : NumsAt w A1 L1 c1) (hN2 : NumsAt w A2 L2' c2) (hP : pp.length = Lp ∧ Lp ≤ cp ∧ cp ≤ 9223372036854775807 ∧ PRow w Ap pp) (hstr : str.size ≤ 9223372036854775807) :
    Calls Tryd.prog 4 #[.agg #[.slice A1 L1 c1, .slice A2 L2' c2, .int .i64 T], .slice Ap Lp cp, .agg #[.int .i64 how, .int .i64 at_, .int .i64 n, .string str, .bool dn]] w fun e w' => e = .returned (.bool true) ∧ Below w.heap.size w w' := by
  obtain ⟨hpl, hpc, hpm, hpp⟩ := hP
  have HE := Lib.hid hE
  have H1 := Lib.hid hN1
  have H2 := Lib.hid hN2
  have HPP := Lib.hid hpp
  have HPL := Lib.hid hpl
  clear hE hN1 hN2 hpp hpl
  have hr1 := (spec_row w A1 L1 c1 A2 L2' c2 T).alloc (.cells #[.int .i64 how, .int .i64 at_, .int .i64 n, .string str, .bool dn] 26)
  have hr3 := turn_row (w.alloc (.cells #[.slice A1 L1 c1, .slice A2 L2' c2, .int .i64 T] 24)) how at_ n str dn
  simp only [World.size_alloc] at hr3
  have R1 := Lib.hid hr1
  have R3 := Lib.hid hr3
  have HB0 : Hid (Below w.heap.size w ((w.alloc (.cells #[.slice A1 L1 c1, .slice A2 L2' c2, .int .i64 T] 24)).alloc (.cells #[.int .i64 how, .int .i64 at_, .int .i64 n, .string str, .bool dn] 26))) := Lib.hid (by (repeat (first | with_reducible exact Below.refl _ _ | with_reducible refine Below.drew ?_ | (with_reducible refine Below.setCell ?_ ?side _; case side => exact (by first | (simp; done) | (simp; omega) | omega)) | (with_reducible refine Below.alloc ?_ ?side _; case side => exact (by first | (simp; done) | (simp; omega) | omega)))))
  clear hr1 hr3
  go_enter Tryd.func4, Tryd.ntmps4
  go_wp2_with fail
  refine (awake_any _ (HE.out.below HB0.out)).mono ?_
  rintro e w1 ⟨rfl, hb⟩
  have HB1 := Lib.hid (Below.step HB0.out hb HB0.out.size)
  have R1' := Lib.hid (R1.out.of_block (hb.block _ R1.out.lt))
  have R3' := Lib.hid (R3.out.of_block (hb.block _ R3.out.lt))
  clear hb R1 R3 HB0
  have b0 : w1.cell? ⟨w.heap.size, 0, none⟩ = some (.slice A1 L1 c1) := R1'.out.cell (i := 0) (by omega)
  have b1 : w1.cell? ⟨w.heap.size, 1, none⟩ = some (.slice A2 L2' c2) := R1'.out.cell (i := 1) (by omega)
  have b2 : w1.cell? ⟨w.heap.size, 2, none⟩ = some (.int .i64 T) := R1'.out.cell (i := 2) (by omega)
  go_wp2_with fail
  clear b0 b1 b2
  refine (smade_any 3 4 A1 L1 c1 A2 L2' c2 T _ (H1.out.below HB1.out) (H2.out.below HB1.out) (by omega) (by omega) (by omega)).mono ?_
  rintro e w2 ⟨s, A, c, t, v, Vn, vn, Vk, vk, rfl, hQ⟩
  have HSV := Lib.hid hQ.sm
  have HLV : Hid (Lo 4 v) := Lib.hid (hQ.made.lo hQ.four hQ.lt (fun i j hi hj => hQ.right.tlt hi hj))
  have K0 := Lib.hid (LW.of_made (cn := vn) (ck := vk) hQ HE.out HB1.out)
  have R3 := Lib.hid ((R3'.out.of_block (hQ.be.block _ R3'.out.lt)).alloc (.cells #[.int .u64 ((v).num : Nat), .string (v).bs, .slice Vn (v).nl vn, .slice Vk (v).kl vk] 34))
  clear hQ R1' R3' HB1
  go_upto_region 3 with (fail)
  generalize w2.alloc (.cells #[.int .u64 ((v).num : Nat), .string (v).bs, .slice Vn (v).nl vn, .slice Vk (v).kl vk] 34) = W3 at K0 R3 ⊢
  generalize w2.heap.size = q at K0 ⊢
  go_upto_if 23 with (fail)
  go_cut [1] (fun pv wc => ∃ (L : Nat) (pL : List Int), L ≤ 8 ∧ L ≤ cp ∧ pv = .slice Ap L cp ∧ Hid (pL.length = L ∧ PRow w Ap pL) ∧ wc = W3)
  case first =>
    by_cases h8 : 8 < Lp
    · have d8 : decide ((8 : Int) < (Lp : Int)) = true := decide_eq_true (by omega)
      have d8' : decide (8 < Lp) = true := decide_eq_true h8
      have hc8 : (8 : Int) ≤ (cp : Int) := by omega
      go_wp2
      go_meet
      case rel => exact ⟨8, pp.take 8, by omega, by omega, rfl, Lib.hid ⟨by rw [List.length_take, HPL.out]; omega, HPP.out.take 8⟩, rfl⟩
    · have d8 : decide ((8 : Int) < (Lp : Int)) = false := decide_eq_false (by omega)
      have d8' : decide (8 < Lp) = false := decide_eq_false h8
      go_wp2
      go_meet
      case rel => exact ⟨Lp, pp, by omega, by omega, rfl, Lib.hid ⟨HPL.out, HPP.out⟩, rfl⟩
  case rest =>
  obtain ⟨L, pL, hL8, hLc, rfl, HPR, rfl⟩ := hcut
  have hmk := run_make_row' (P := Tryd.prog) 22 3 (.int .i64 0) 8 Tryd.underlying22 info_int rfl .i64 .i64 L (by omega) (by omega)
  have HJ0 : Hid (JRow (wc.alloc (.cells (madeCells #[.int .i64 0] L) 3)) wc.heap.size L) := Lib.hid ⟨fun _ => 0, World.rowIs_made wc (.int .i64 0) L 3⟩
  have HB3 : Hid (Below wc.heap.size wc (wc.alloc (.cells (madeCells #[.int .i64 0] L) 3))) := Lib.hid ((Below.refl _ _).alloc (Nat.le_refl _) _)
  go_upto_region 6 with (fail)
  clear hmk
  generalize wc.alloc (.cells (madeCells #[.int .i64 0] L) 3) = W4 at HJ0 HB3 ⊢
  obtain ⟨g, HGG⟩ : ∃ g, Hid (wc.heap.size = g) := ⟨_, Lib.hid rfl⟩
  rw [HGG.out] at HJ0 ⊢
  go_wp2
  go_loopw [12] (fun iv wr => ∃ i : Nat, i ≤ L ∧ iv = .int .i64 i ∧ Hid (JRow wr g L ∧ Below wc.heap.size wc wr)) (fun iv _ => L - (intOf iv).toNat)
  case atStart => exact ⟨0, by omega, rfl, Lib.hid ⟨HJ0.out, HB3.out⟩⟩
  case round =>
    clear HJ0 HB3
    obtain ⟨i, hi, rfl, HJ⟩ := hrel
    by_cases hi1 : i < L
    · obtain ⟨z0, hz0⟩ := HJ.out.1.cell hi1
      have hzf := HJ.out.1.frozen
      obtain ⟨bp, op, rfl, hbp, hcp⟩ := HPR.out.2 (by rw [HPR.out.1]; omega)
      have hcp := hcp i (by rw [HPR.out.1]; exact hi1)
      have hlw : bp < wc.heap.size := by have := K0.out.be.size; omega
      have hp1 := ((K0.out.be.cell (p := ⟨bp, op + i, none⟩) hbp).trans hcp)
      have hp2 := (HJ.out.2.cell (p := ⟨bp, op + i, none⟩) hlw).trans hp1
      obtain ⟨zz, hzz⟩ : ∃ zz, pL.getD i 0 = zz := ⟨_, rfl⟩
      rw [hzz] at hp2
      have hgb : bp ≠ g := by have := HGG.out; omega
      have hgb' : g ≠ bp := by have := HGG.out; omega
      have e1 : (0 : Int) ≤ (i : Int) := by omega
      have e2 : (i : Int) < (L : Int) := by omega
      clear hcp hp1 hzz
      have HBB : Hid (Below wc.heap.size wc wr) := Lib.hid HJ.out.2
      have HJJ := Lib.hid HJ.out.1
      have hgle : ∀ o, wc.heap.size ≤ (⟨g, o, none⟩ : Addr).block := fun o => by show wc.heap.size ≤ g; have := HGG.out; omega
      have HGL := Lib.hid hgle
      clear HJ hgle
      go_wp2
      all_goals
        go_roundw
        case rel => first | exact ⟨i + 1, by omega, by go_num, Lib.hid ⟨HJJ.out.put i _, HBB.out.setCell (HGL.out i) _⟩⟩ | exact ⟨i + 1, by omega, by go_num, Lib.hid ⟨(HJJ.out.put i _).put i _, (HBB.out.setCell (HGL.out i) _).setCell (HGL.out i) _⟩⟩
        case measure => simp [intOf]; omega
    · have e : i = L := by omega
      subst e
      have K1 := Lib.hid (K0.out.below HJ.out.2)
      have R4 := Lib.hid (R3.out.of_block (HJ.out.2.block _ R3.out.lt))
      have HJJ := Lib.hid HJ.out.1
      clear HJ
      obtain ⟨v0, v1, v2, v3⟩ := K1.out.all
      have b0 : wr.cell? ⟨w.heap.size + 1, 0, none⟩ = some (.int .i64 how) := R4.out.cell (i := 0) (by omega)
      have b1 : wr.cell? ⟨w.heap.size + 1, 1, none⟩ = some (.int .i64 at_) := R4.out.cell (i := 1) (by omega)
      have b2 : wr.cell? ⟨w.heap.size + 1, 2, none⟩ = some (.int .i64 n) := R4.out.cell (i := 2) (by omega)
      have b3 : wr.cell? ⟨w.heap.size + 1, 3, none⟩ = some (.string str) := R4.out.cell (i := 3) (by omega)
      have b4 : wr.cell? ⟨w.heap.size + 1, 4, none⟩ = some (.bool dn) := R4.out.cell (i := 4) (by omega)
      go_wp2_with fail
      clear b0 b1 b2 b3 b4 v0 v1 v2 v3
      refine (spoilt_any how at_ n str dn hstr 4 v Vn Vk vn vk (fun _ => True) _ HLV.out K1.out.tat).mono ?_
      rintro e w4 ⟨x, Xn, xn, Xk, xk, rfl, hSx, -, hTx, hb⟩
      have HSX := Lib.hid hSx
      have hA : Below w4.heap.size w4 (w4.alloc (.cells #[.int .u64 ((x).num : Nat), .string (x).bs, .slice Xn (x).nl xn, .slice Xk (x).kl xk] 34)) := ((Below.refl _ _).alloc (Nat.le_refl _) _)
      have K2 := Lib.hid ((K1.out.below hb).below hA)
      have HBX : Hid (Cell4 (w4.alloc (.cells #[.int .u64 ((x).num : Nat), .string (x).bs, .slice Xn (x).nl xn, .slice Xk (x).kl xk] 34)) w4.heap.size 0 x Xn xn Xk xk) := Lib.hid (cell4_box w4 x Xn xn Xk xk)
      have HTX := Lib.hid ((hTx.below hA).mono (Q := fun _ => True) fun _ _ _ => trivial)
      obtain ⟨pN, hpN, hPN⟩ := HJJ.out.prow
      have HPN := Lib.hid ((hPN.below hb).below hA)
      have HLN := Lib.hid hpN
      have hxl : w4.heap.size < (w4.alloc (.cells #[.int .u64 ((x).num : Nat), .string (x).bs, .slice Xn (x).nl xn, .slice Xk (x).kl xk] 34)).heap.size := by simp
      clear hSx hTx hb hA hpN hPN K1 R4 HJJ
      go_upto_region 13 with (fail)
      generalize w4.alloc (.cells #[.int .u64 ((x).num : Nat), .string (x).bs, .slice Xn (x).nl xn, .slice Xk (x).kl xk] 34) = W5 at K2 HBX HTX HPN hxl ⊢
      generalize w4.heap.size = q5 at HBX hxl ⊢
      have hg1 := fun W => gets_any s A c t v Vn Vk vn vk (2 * (3 + 1)) Ap cp pL W
      have hg2 := fun W => gets_any s A c t v Vn Vk vn vk (2 * (3 + 1)) (some ⟨g, 0, none⟩) i pN W
      have hg3 := fun W => gets_any s A c t x Xn Xk xn xk (2 * 4) (some ⟨g, 0, none⟩) i pN W
      simp only [HPR.out.1] at hg1
      simp only [HLN.out] at hg2 hg3
      have G1 := Lib.hid hg1
      have G2 := Lib.hid hg2
      have G3 := Lib.hid hg3
      clear hg1 hg2 hg3
      obtain ⟨v0, v1, v2, v3⟩ := K2.out.all
      go_wp2_with fail
      clear v0 v1 v2 v3
      refine (G1.out _ K2.out.et K2.out.sat HSV.out K2.out.tat (HPR.out.2.below K2.out.be) hLc (by omega)).mono ?_
      rintro e W6 ⟨rfl, hb⟩
      have K3 := Lib.hid (K2.out.below hb)
      have HBX6 := Lib.hid (HBX.out.of_block (hb.block _ hxl))
      have HTX6 := Lib.hid (HTX.out.below hb)
      have HPN6 := Lib.hid (HPN.out.below hb)
      have hx6 := Nat.lt_of_lt_of_le hxl hb.size
      clear hb K2 HBX HTX HPN hxl
      obtain ⟨v0, v1, v2, v3⟩ := K3.out.all
      go_wp2_with fail
      clear v0 v1 v2 v3
      refine (G2.out _ K3.out.et K3.out.sat HSV.out K3.out.tat HPN6.out (Nat.le_refl _) (by omega)).mono ?_
      rintro e W7 ⟨rfl, hb⟩
      have K4 := Lib.hid (K3.out.below hb)
      have hbx7 := HBX6.out.of_block (hb.block _ hx6)
      have HTX7 := Lib.hid (HTX6.out.below hb)
      have HPN7 := Lib.hid (HPN6.out.below hb)
      clear hb K3 HBX6 HTX6 HPN6 hx6
      obtain ⟨x0, x1, x2, x3⟩ := hbx7
      simp only [Nat.zero_add] at x1 x2 x3
      go_wp2_with fail
      clear x0 x1 x2 x3
      refine (G3.out _ K4.out.et K4.out.sat HSX.out HTX7.out HPN7.out (Nat.le_refl _) (by omega)).mono ?_
      rintro e W8 ⟨rfl, hb⟩
      have K5 := Lib.hid (K4.out.below hb)
      clear hb
      go_wp2
      go_ret
      exact ⟨rfl, K5.out.be⟩

end Go.Proofs.YtojlimpooeehhaaDoor
