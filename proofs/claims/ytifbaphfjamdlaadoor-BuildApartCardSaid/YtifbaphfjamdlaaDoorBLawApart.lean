/- BuildApart: the law's walk. -/
import Derived.Test.YtifbaphfjamdlaaDoorBCount2
namespace Go.Proofs.YtifbaphfjamdlaaDoor
open Go.ChangeShapes Go.WideShapes Go.ChangeAt Go.RowKit
theorem info_int : (Tryd.prog.info? 3).map (fun i => (i.zero, i.size, i.bytes)) = some (some (.int .i64 0), 1, 8) := by kernel_rfl
theorem CountC.top {s : Sch} {A : Option Addr} {c : Nat} {Ws : World} {wl : List Nat} {Aw : Option Addr} {cw qi ci n N : Nat} (hN : wl.length = N) (IH : CountC s A c Ws wl Aw cw qi ci n) (t : Nat) (x : Tr) (a q : Nat) (ai left : Int) (G : Nat → Nat) (W0 W : World) (ht : t < s.n) (hc : chk s (n + 1) t x = 0) (hst : StAt s wl n t x a q) (h1 : ai ≤ a) (h2 : a ≤ ai) (ha : 1 ≤ a) (hl : (n : Int) + 1 ≤ left) (hl2 : left ≤ 100) (hz : Zr G a x.kl (a + x.kl + q) (refsN s n t x x.kl)) (hci : CI Ws W0 qi N G W) :
    Calls Tryd.prog 25 #[.slice A s.n c, .int .i64 (t : Int), .slice Aw N cw, .int .i64 ai, .slice (some ⟨qi, 0, none⟩) N ci, .int .i64 left] W fun e W' => e = .returned (.bool true) ∧ CI Ws W qi N (setR G a x.kl (a + x.kl + q) (refsN s n t x x.kl)) W' := by
  subst hN
  exact IH t x a q ai left G W ht hc hst h1 h2 ha hl hl2 hz ⟨hci.row, hci.wb, ButP.refl _ _⟩
theorem counts_all (s : Sch) (hR : RightS s) (A : Option Addr) (c : Nat) (Ws : World) (hs : SAt Ws A s) (wl : List Nat) (Aw : Option Addr) (cw qi ci : Nat) (hw : WRow Ws Aw wl.length (nth wl)) (hN : wl.length ≤ 200) (hqi : Ws.heap.size ≤ qi) (n : Nat) : CountC s A c Ws wl Aw cw qi ci n := by
  induction n with
  | zero => exact counts_any s hR A c Ws hs wl Aw cw qi ci hw hN hqi 0 (fun m h => absurd h (by omega))
  | succ n ih => exact counts_any s hR A c Ws hs wl Aw cw qi ci hw hN hqi (n + 1) (fun m h => (show n = m by omega) ▸ ih)
/-- The struct of a message. -/
theorem msg_struct {s : Sch} (hR : RightS s) {t : Nat} (ht : t < s.n) {x : Tr} (h : chk s 5 t x = 0) : StAt s (msgL s t x) 4 t x 1 0 ∧ 1 + x.kl + refsN s 4 t x x.kl = (msgL s t x).length := by
  have h1 : AtL (msgL s t x) 1 (piece s 5 t 1 (fun _ => x)) := by rw [msgL_piece]; exact AtL.self _ _
  have h2 := h1.struct (F := x.kl) (fun _ _ => rfl) (show 0 < 1 by omega)
  have e : 1 * x.kl - (0 + 1) * x.kl + refsK s 4 t (fun _ => x) 0 = 0 := by simp [refsK, fdsK, refs]
  rw [e, Nat.zero_mul, Nat.add_zero] at h2
  refine ⟨h2, ?_⟩
  rw [msgL_piece, List.length_cons, piece_len (F := x.kl) (fun _ _ => rfl), refsK_succ]
  have e2 : refsK s 4 t (fun _ => x) 0 = 0 := by simp [refsK, fdsK, refs]
  rw [e2]
  omega
set_option maxRecDepth 100000 in
set_option maxHeartbeats 8000000 in
theorem lawApart_any (A1 : Option Addr) (L1 c1 : Nat) (A2 : Option Addr) (L2 c2 : Nat) (T : Int) (w : World) (hE : Cs.ErrT w) (hN1 : NumsAt w A1 L1 c1) (hN2 : NumsAt w A2 L2 c2) :
    Calls Tryd.prog 7 #[.agg #[.slice A1 L1 c1, .slice A2 L2 c2, .int .i64 T]] w fun e w' => e = .returned (.bool true) ∧ Below w.heap.size w w' := by
  have HE := Lib.hid hE
  have H1 := Lib.hid hN1
  have H2 := Lib.hid hN2
  clear hE hN1 hN2
  go_enter Tryd.func7, Tryd.ntmps7
  go_wp2_with fail
  refine (awake7_any _ (HE.out.below ((Below.refl _ _).alloc (Nat.le_refl _) _))).mono ?_
  rintro e w1 ⟨rfl, hb⟩
  have HB1 := Lib.hid (Below.step (B := w.heap.size) (a := w) (by (repeat (first | with_reducible exact Below.refl _ _ | with_reducible refine Below.drew ?_ | (with_reducible refine Below.setCell ?_ ?side _; case side => exact (by first | (simp; done) | (simp; omega) | omega)) | (with_reducible refine Below.alloc ?_ ?side _; case side => exact (by first | (simp; done) | (simp; omega) | omega))))) hb (by first | (simp; done) | (simp; omega) | omega))
  have hr := (spec_row w A1 L1 c1 A2 L2 c2 T).of_block (hb.block _ (by simp))
  have b0 : w1.cell? ⟨w.heap.size, 0, none⟩ = some (.slice A1 L1 c1) := hr.cell (i := 0) (by omega)
  have b1 : w1.cell? ⟨w.heap.size, 1, none⟩ = some (.slice A2 L2 c2) := hr.cell (i := 1) (by omega)
  have b2 : w1.cell? ⟨w.heap.size, 2, none⟩ = some (.int .i64 T) := hr.cell (i := 2) (by omega)
  clear hr hb
  go_wp2_with fail
  clear b0 b1 b2
  refine (s7made_any 3 4 A1 L1 c1 A2 L2 c2 T _ (H1.out.below HB1.out) (H2.out.below HB1.out) (by omega) (by omega) (by omega)).mono ?_
  rintro e w2 ⟨s, A, c, t, x, An, cn, Ak, ck, rfl, hQ⟩
  have K0 := Lib.hid (LW.of_made (cn := cn) (ck := ck) hQ HE.out HB1.out)
  have HSM := Lib.hid (hQ.sm (by omega))
  have HCK := Lib.hid (hQ.made.chk (show 4 ≤ 5 by omega))
  have HR := Lib.hid hQ.right
  have ht := hQ.lt
  have HX : Hid (chkC s t x = 0) := Lib.hid (by rw [chkC_ok hQ.right hQ.lt]; exact HCK.out)
  clear hQ
  go_wp2_with fail
  generalize w2.alloc (.cells #[.int .u64 ((x).num : Nat), .string (x).bs, .slice An (x).nl cn, .slice Ak (x).kl ck] 32) = W0 at K0 ⊢
  generalize w2.heap.size = q at K0 ⊢
  obtain ⟨v0, v1, v2, v3⟩ := K0.out.all
  go_wp2_with fail
  clear v0 v1 v2 v3
  refine (build_any s A c t x An Ak cn ck 4 _ K0.out.sat HSM.out (by omega) K0.out.tat).mono ?_
  rintro e w3 ⟨A', cap', rfl, hr, hb⟩
  have K1 := Lib.hid (K0.out.below hb)
  clear hb K0
  by_cases hl : 200 < sizeC s t x
  · have e1 : bcode s t x = 21 := by rw [bcode, if_pos HX.out, if_pos hl]
    have e2 : bmsg s t x = [] := by rw [bmsg, if_neg (by omega)]
    rw [e1, e2]
    clear e1 e2 hr hl
    go_wp2_with fail
    refine (top_err 21 _ K1.out.et).mono ?_
    rintro e w4 ⟨rfl, hb⟩
    have K2 := Lib.hid (K1.out.below hb)
    clear hb
    go_wp2_with fail
    refine (top_err 21 _ K2.out.et).mono ?_
    rintro e w5 ⟨rfl, hb⟩
    have K3 := Lib.hid (K2.out.below hb)
    clear hb
    go_wp2
    go_ret
    exact ⟨rfl, K3.out.be⟩
  · have e1 : bcode s t x = 0 := by rw [bcode, if_pos HX.out, if_neg hl]
    have e2 : bmsg s t x = msgL s t x := by rw [bmsg, if_pos e1, Int.toNat_natCast]
    have hlen := bmsg_le s t x
    rw [e2] at hlen hr
    rw [e1, e2, errV_0]
    have HMR := Lib.hid hr
    obtain ⟨hst, htot⟩ := msg_struct HR.out ht HCK.out
    obtain ⟨wl, HWL⟩ : ∃ wl, Hid (msgL s t x = wl) := ⟨_, Lib.hid rfl⟩
    rw [HWL.out] at hlen hst htot HMR ⊢
    have HST := Lib.hid hst
    have HTT := Lib.hid htot
    obtain ⟨N, HN⟩ : ∃ N, Hid (wl.length = N) := ⟨_, Lib.hid rfl⟩
    have hN1 : 1 ≤ N := by have := HN.out; omega
    rw [HN.out] at hlen ⊢
    have hmk := run_make_row' (P := Tryd.prog) 22 3 (.int .i64 0) 8 Tryd.underlying22 info_int rfl .i64 .i64 N (by omega) (by omega)
    have n0 : ((N : Int) == 0) = false := by simp; omega
    have n0' : ((N : Int) = 0) = False := by simp; omega
    have n0'' : (N = 0) = False := by simp; omega
    clear e1 e2 hr hl hst htot
    go_wp2_with fail
    refine (top_none _ K1.out.et).mono ?_
    rintro e w4 ⟨rfl, hb⟩
    have K2 := Lib.hid (K1.out.below hb)
    have HM2 := Lib.hid (HMR.out.below hb)
    clear hb K1 HMR
    have g1 : (0 : Int) < (N : Int) := by omega
    have r0 := World.rowIs_made w4 (.int .i64 0) N 3
    have rc0 := r0.cell (i := 0) (by omega)
    have rf0 := r0.frozen 0
    have HCI : Hid (CI w4 (w4.alloc (.cells (madeCells #[.int .i64 0] N) 3)) w4.heap.size N (fun j => if j = 0 then 1 else 0) ((w4.alloc (.cells (madeCells #[.int .i64 0] N) 3)).setCell ⟨w4.heap.size, 0, none⟩ (.int .i64 1))) := Lib.hid ⟨(r0.set 0 _).congr fun j _ => by split <;> rfl, by (repeat (first | with_reducible exact Below.refl _ _ | with_reducible refine Below.drew ?_ | (with_reducible refine Below.setCell ?_ ?side _; case side => exact (by first | (simp; done) | (simp; omega) | omega)) | (with_reducible refine Below.alloc ?_ ?side _; case side => exact (by first | (simp; done) | (simp; omega) | omega)))), ButP.set (Q := fun b => b = w4.heap.size) (ButP.refl _ _) (p := ⟨w4.heap.size, 0, none⟩) rfl _⟩
    have he5 : (w4.alloc (.cells (madeCells #[.int .i64 0] N) 3)).setCell ⟨w4.heap.size, 0, none⟩ (.int .i64 1) = w4.alloc (.cells ((madeCells #[.int .i64 0] N).setIfInBounds 0 (.int .i64 1)) 3) := by first | (simp; done) | (simp [go_sem]; done)
    rw [he5] at HCI
    clear r0 he5
    go_wp2_with fail
    clear rc0 rf0 n0 n0' n0''
    refine (CountC.top HN.out (counts_all s HR.out A c w4 K2.out.sat wl A' cap' w4.heap.size N HM2.out.row (by rw [HN.out]; exact hlen) (Nat.le_refl _) 4) t x 1 0 1 5 _ _ _ ht HCK.out HST.out (by omega) (by omega) (by omega) (by omega) (by omega) (fun j hj => if_neg (by omega)) HCI.out).mono ?_
    rintro e w5 ⟨rfl, hci⟩
    have HD : Hid (Below w4.heap.size w4 w5 ∧ w5.rowIs w4.heap.size 3 N (fun _ => .int .i64 1)) := Lib.hid ⟨hci.wb, hci.row.congr fun j hj => by
      have e : setR (fun j => if j = 0 then 1 else 0) 1 x.kl (1 + x.kl + 0) (refsN s 4 t x x.kl) j = 1 := by
        unfold setR
        by_cases h0 : j = 0
        · rw [if_neg (by omega)]; exact if_pos h0
        · rw [if_pos (by have := HTT.out; have := HN.out; omega)]
      rw [e]; rfl⟩
    clear hci HCI
    go_wp2
    go_loopw [11, 10] (fun iv ov wr => ∃ i m : Nat, i ≤ N ∧ iv = .int .i64 i ∧ ov = .bool true ∧ wr = w5.drewN m) (fun iv _ _ => N - (intOf iv).toNat)
    case atStart => exact ⟨0, 0, by omega, rfl, rfl, rfl⟩
    case round =>
      obtain ⟨i, m, hi, rfl, rfl, rfl⟩ := hrel
      by_cases hi1 : i < N
      · have ic := HD.out.2.cell (i := i) hi1
        have ic2 := fun n : Nat => show (w5.drewN n).cell? _ = _ from ic
        have f2 : decide ((i : Int) < (N : Int)) = true := decide_eq_true (by omega)
        have f2' : decide (i < N) = true := decide_eq_true hi1
        have f3 : (0 : Int) ≤ (i : Int) := by omega
        have f4 : (i : Int) < (N : Int) := by omega
        go_wp2
        go_roundw
        case rel => exact ⟨i + 1, m, by omega, by go_num, rfl, rfl⟩
        case measure => simp [intOf]; omega
      · have e : i = N := by omega
        subst e
        have f2 : decide ((i : Int) < (i : Int)) = false := decide_eq_false (by omega)
        go_wp2
        go_ret
        have hb5 := HD.out.1
        exact ⟨rfl, below_drewN (Below.step K2.out.be hb5 K2.out.be.size) _⟩

end Go.Proofs.YtifbaphfjamdlaaDoor
