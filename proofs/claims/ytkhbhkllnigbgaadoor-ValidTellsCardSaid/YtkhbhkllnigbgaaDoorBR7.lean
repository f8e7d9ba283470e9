/- The document's Build. -/
import Derived.Test.YtkhbhkllnigbgaaDoorBFill2
import Derived.Test.YtkhbhkllnigbgaaDoorBMsg
import Derived.Test.YtkhbhkllnigbgaaDoorBLawRefs
import Derived.Test.YtkhbhkllnigbgaaDoorTRef6b
import Derived.Deep.RegionLaw
namespace Go.Proofs.YtkhbhkllnigbgaaDoor
open Go.ChangeShapes Go.WideShapes Go.ChangeAt Go.RowKit
theorem fill_all (s : Sch) (hR : RightS s) (A : Option Addr) (c : Nat) (Ws : World) (hs : SAt Ws A s) (n : Nat) : FillC s A c Ws n := by
  induction n with
  | zero => exact fill_any s hR A c Ws hs 0 (fun m h => absurd h (by omega))
  | succ n ih => exact fill_any s hR A c Ws hs (n + 1) (fun m h => (show n = m by omega) ▸ ih)
theorem mk_full (n : Nat) (hn : n ≤ 1000) (w : World) : (Instr.makeSlice 22 (.int .i64 (n : Int)) (.int .i64 (n : Int))).run Tryd.prog w = .ok (.slice (some ⟨w.heap.size, 0, none⟩) n n) (w.alloc (.cells (madeCells #[.int .u64 0] n) 26)) := by
  obtain ⟨i, hi, hz1, hz2, hz3⟩ := info_parts info_u64
  have hr := run_make (P := Tryd.prog) w 22 26 i (.int .u64 0) Tryd.underlying22 hi hz1 .i64 .i64 n n (by omega) (by omega) (by rw [hz3]; omega) (by omega)
  simp only [Int.toNat_natCast, hz2, Nat.mul_one] at hr
  exact hr
theorem wrw_made (w : World) (n : Nat) (hn : n ≤ 1000) : WRw (List.replicate n 0) w.heap.size n (w.alloc (.cells (madeCells #[.int .u64 0] n) 26)) := by
  have h := World.ownsRow_lit (base := 0) (e := 26) (size := 1) w (madeCells #[.int .u64 0] n) n (Nat.zero_le _) (by unfold maxLen; omega) (by rw [size_madeCells, Nat.mul_one])
  rw [toList_madeCells_one] at h
  unfold WRw
  rw [List.length_replicate, show wcells (List.replicate n 0) = List.replicate n (.int .u64 0) by simp [wcells]]
  exact h
theorem fillR_msg (s : Sch) (t : Nat) (x : Tr) : (fillR s 4 t x [0] [] x.kl).set 0 (refN ((1 + wds true x : Nat) : Int) (t : Int)) = msgL s t x := by
  have e := kidR_succ s 4 t (fun _ => x) [0] (K := 1) (F := x.kl) (j := 0) rfl (by omega)
  rw [show (0 : Nat) + 1 = 1 from rfl, kidR_all] at e
  have e2 : fillR s 4 t x [0] [] x.kl = 0 :: piece s 5 t 1 (fun _ => x) := by
    have e3 := e
    simp [fdsK, ownWs, refs] at e3
    exact e3
  rw [e2, msgL_piece]; rfl
theorem MRow.of_wrw {B : Nat} {L : List Nat} {g cap : Nat} {W : World} (h : WRw L g cap W) (hL : SmL L) (hg : B ≤ g) : MRow B W (some ⟨g, 0, none⟩) L := by
  refine ⟨⟨fun j _ => nth_lt hL j, fun _ => ⟨g, 0, rfl, h.lt, fun j hj => ?_⟩⟩, fun _ a e => by cases e; exact hg⟩
  rw [Nat.zero_add, h.cell hj]
  simp [nth, hj]
theorem WRw.le {L : List Nat} {g cap : Nat} {W : World} (h : WRw L g cap W) : L.length ≤ cap := by
  rcases h.2 with ⟨e, _⟩ | ⟨g', cap', cur, e, _, _, h3, _⟩
  · cases e
  · injection e with e1 e2 e3; omega
set_option maxRecDepth 100000 in
set_option maxHeartbeats 4000000 in
theorem r7build_err (s : Sch) (A : Option Addr) (c : Nat) (t : Int) (x : Tr) (An Ak : Option Addr) (cn ck n : Nat) (w : World) (hs : SAt w A s) (hS : Sm (2 * n) x) (hT : TAt w (fun _ => True) x An Ak) (h0 : ¬ chkC s t x = 0) :
    Calls Tryd.prog 42 #[.slice A s.n c, .int .i64 t, (.agg #[.int .u64 ((x).num : Nat), .string (x).bs, .slice An (x).nl cn, .slice Ak (x).kl ck])] w fun e w' => e = .returned (.tuple #[.slice none 0 0, .int .i64 (chkC s t x : Nat)]) ∧ Below w.heap.size w w' := by
  have H0 := Lib.hid (CC.mk' (k1 := cn) (k2 := ck) hs hT)
  have HS := Lib.hid hS
  clear hs hT hS
  rcases chkC_vals s t x with h | h | h | h
  · exact absurd h h0
  all_goals
    have HC := Lib.hid h
    clear h h0
    go_enter Tryd.func42, Tryd.ntmps42
    go_wp2_with fail
    refine (r6check_any s A c t x An Ak cn ck _ _ H0.out.sat HS.out H0.out.tat).mono ?_
    rintro e w1 ⟨rfl, hb⟩
    rw [HC.out]
    have H1 := Lib.hid (H0.out.below hb)
    clear hb
    go_wp2
    go_ret2
    exact ⟨by rw [HC.out]; rfl, H1.out.be⟩
set_option maxRecDepth 100000 in
set_option maxHeartbeats 4000000 in
theorem r7build_long (s : Sch) (A : Option Addr) (c : Nat) (t : Int) (x : Tr) (An Ak : Option Addr) (cn ck n : Nat) (w : World) (hs : SAt w A s) (hS : Sm (2 * n) x) (hn : n ≤ 6) (hT : TAt w (fun _ => True) x An Ak) (h0 : chkC s t x = 0) (hl : 200 < sizeC s t x) :
    Calls Tryd.prog 42 #[.slice A s.n c, .int .i64 t, (.agg #[.int .u64 ((x).num : Nat), .string (x).bs, .slice An (x).nl cn, .slice Ak (x).kl ck])] w fun e w' => e = .returned (.tuple #[.slice none 0 0, .int .i64 21]) ∧ Below w.heap.size w w' := by
  have H0 := Lib.hid (CC.mk' (k1 := cn) (k2 := ck) hs hT)
  have HS := Lib.hid hS
  have HC := Lib.hid h0
  have hll : sizeC s t x ≤ 3000000000 := by
    have := wds_le hS true
    rw [sizeC, if_pos h0]; omega
  obtain ⟨SZ, HSZ⟩ : ∃ SZ, Hid (sizeC s t x = SZ) := ⟨_, Lib.hid rfl⟩
  rw [HSZ.out] at hl hll
  clear hs hT hS h0
  go_enter Tryd.func42, Tryd.ntmps42
  go_wp2_with fail
  refine (r6check_any s A c t x An Ak cn ck _ _ H0.out.sat HS.out H0.out.tat).mono ?_
  rintro e w1 ⟨rfl, hb⟩
  rw [HC.out]
  have H1 := Lib.hid (H0.out.below hb)
  clear hb
  obtain ⟨b0, b1, b2, b3, -⟩ := H1.out.all
  have d1 : decide ((200 : Int) < (SZ : Int)) = true := decide_eq_true (by omega)
  have d2 : decide (200 < SZ) = true := decide_eq_true (by omega)
  go_wp2_with fail
  clear b0 b1 b2 b3
  refine (r6size_any s A c t x An Ak cn ck n _ H1.out.sat HS.out hn H1.out.tat).mono ?_
  rintro e w2 ⟨rfl, hb⟩
  have H2 := Lib.hid (H1.out.below hb)
  rw [HSZ.out]
  clear hb
  go_wp2
  go_ret2
  exact ⟨rfl, H2.out.be⟩
set_option maxRecDepth 100000 in
set_option maxHeartbeats 8000000 in
theorem r7build_ok (s : Sch) (A : Option Addr) (c : Nat) (t : Nat) (x : Tr) (An Ak : Option Addr) (cn ck n : Nat) (w : World) (hs : SAt w A s) (hS : Sm (2 * n) x) (hn : n ≤ 6) (hT : TAt w (fun _ => True) x An Ak) (h0 : chkC s (t : Int) x = 0) (hl : sizeC s (t : Int) x ≤ 200) :
    Calls Tryd.prog 42 #[.slice A s.n c, .int .i64 (t : Int), (.agg #[.int .u64 ((x).num : Nat), .string (x).bs, .slice An (x).nl cn, .slice Ak (x).kl ck])] w fun e w' => ∃ A' cap', e = .returned (.tuple #[.slice A' (msgL s t x).length cap', .int .i64 0]) ∧ MRow w.heap.size w' A' (msgL s t x) ∧ Below w.heap.size w w' ∧ (msgL s t x).length ≤ cap' := by
  have H0 := Lib.hid (CC.mk' (k1 := cn) (k2 := ck) hs hT)
  have HSA := Lib.hid hs
  have HTA := Lib.hid hT
  have HS := Lib.hid hS
  have HC := Lib.hid h0
  obtain ⟨hR, m, hm, ht, hck⟩ := chkC_0 h0
  obtain rfl : t = m := by omega
  have HCK := Lib.hid hck
  have HR := Lib.hid hR
  have hsz : sizeC s (t : Int) x = 1 + wds true x := by rw [sizeC, if_pos h0]
  have HML := Lib.hid (msgL_len hR ht hck)
  have hrn : 1 + x.kl + refsN s 4 t x x.kl = (msgL s t x).length := by
    have e := congrArg List.length (fillR_msg s t x)
    rw [List.length_set, fillR_len s 4 t x [0] [] (Nat.le_refl _)] at e
    simpa using e
  have HRN := Lib.hid hrn
  have hkl : x.kl = s.len t := by
    obtain ⟨e0, he0, hso, hkk⟩ := chk_inv hck
    exact hso.2.2.2
  obtain ⟨bs, os, rfl, hbs, hcs⟩ := hs.some_ (by omega)
  obtain ⟨Ai, cti, hct, hfr⟩ := hcs t ht
  have HCT := Lib.hid hct
  obtain ⟨LL, HLL⟩ : ∃ LL, Hid (s.len t = LL) := ⟨_, Lib.hid rfl⟩
  rw [HLL.out] at HCT hkl
  have HKL := Lib.hid hkl
  obtain ⟨SZ, HSZ⟩ : ∃ SZ, Hid (sizeC s (t : Int) x = SZ) := ⟨_, Lib.hid rfl⟩
  have HZW : Hid (SZ = 1 + wds true x) := Lib.hid (by rw [← HSZ.out]; exact hsz)
  have hML2 : (msgL s t x).length = SZ := by rw [HML.out, HZW.out]
  have HML2 := Lib.hid hML2
  rw [HSZ.out] at hl
  obtain ⟨ZL, hZL⟩ : ∃ ZL, ZL = 1 + LL := ⟨_, rfl⟩
  have HZL := Lib.hid hZL
  have hz200 : ZL ≤ 200 := by omega
  have hwz : IntKind.i64.wrap (1 + (LL : Int)) = (ZL : Int) := by rw [hZL]; exact (IntWalk.i64_in _ (by omega)).trans (by omega)
  have hmk := mk_full ZL (by omega)
  clear hs hT hS h0 hck hR hsz hm hcs hct hfr hkl hML2 hrn hZL
  go_enter Tryd.func42, Tryd.ntmps42
  go_wp2_with fail
  refine (r6check_any s _ c t x An Ak cn ck _ _ H0.out.sat HS.out H0.out.tat).mono ?_
  rintro e w1 ⟨rfl, hb⟩
  rw [HC.out]
  have H1 := Lib.hid (H0.out.below hb)
  clear hb
  obtain ⟨b0, b1, b2, b3, -⟩ := H1.out.all
  have d1 : decide ((200 : Int) < (SZ : Int)) = false := decide_eq_false (by omega)
  have d2 : decide (200 < SZ) = false := decide_eq_false (by omega)
  go_wp2_with fail
  clear b0 b1 b2 b3
  refine (r6size_any s _ c t x An Ak cn ck n _ H1.out.sat HS.out hn H1.out.tat).mono ?_
  rintro e w2 ⟨rfl, hb⟩
  have H2 := Lib.hid (H1.out.below hb)
  rw [HSZ.out]
  clear hb H0 H1
  obtain ⟨b0, b1, b2, b3, -⟩ := H2.out.all
  have v1 := (H2.out.be.cell (p := ⟨bs, os + t, none⟩) hbs).trans HCT.out
  have hlb := H2.out.lt
  have hlw := H2.out.be.size
  have q1 : (0 : Int) ≤ (t : Int) := by omega
  have q2 : (t : Int) < (s.n : Int) := by omega
  go_wp2_with fail
  clear d1 d2
  have hgo : Calls Tryd.prog 76 #[.slice (some ⟨bs, os, none⟩) s.n c, .int .i64 (t : Int), (.agg #[.int .u64 ((x).num : Nat), .string (x).bs, .slice An (x).nl cn, .slice Ak (x).kl ck]), .slice (some ⟨w2.heap.size, 0, none⟩) ZL ZL, .int .i64 1] (w2.alloc (.cells (madeCells #[.int .u64 0] ZL) 26)).drew fun e w' => ∃ L' g' cap', e = .returned (.slice (some ⟨g', 0, none⟩) SZ cap') ∧ Hid (L'.length = SZ ∧ L' = fillR s 4 t x [0] [] x.kl ∧ FI w (w2.alloc (.cells (madeCells #[.int .u64 0] ZL) 26)).drew w2.heap.size L' g' cap' w') := by
    have hw0 := (wrw_made w2 ZL (by omega)).below (Below.refl _ _).drew
    have hb0 : Below w.heap.size w (w2.alloc (.cells (madeCells #[.int .u64 0] ZL) 26)).drew := (H2.out.be.alloc (by omega) _).drew
    have e0 : List.replicate ZL 0 = [0] ++ (List.replicate x.kl 0 ++ []) := by rw [HZL.out, ← HKL.out, Nat.add_comm, List.replicate_succ]; simp
    have e1 := HRN.out
    have e2 := HML2.out
    have e3 := HZL.out
    have e4 := HKL.out
    refine (fill_all s HR.out (some ⟨bs, os, none⟩) c w HSA.out 4 t x An Ak cn ck [0] [] (List.replicate ZL 0) 1 w2.heap.size ZL ZL _ ht HCK.out HTA.out e0 (by simp) (by simp) (by simp) (by simp; omega) ⟨hw0, hb0, .inl rfl, by omega, ButP.refl _ _⟩).mono ?_
    rintro e w5 ⟨L', g', cap', rfl, HL, hfi⟩
    have hLn : L'.length = SZ := by rw [HL.out, fillR_len s 4 t x [0] [] (Nat.le_refl _), ← HML2.out, ← HRN.out]; simp
    exact ⟨L', g', cap', by rw [hLn], Lib.hid ⟨hLn, HL.out, hfi⟩⟩
  have HGO := Lib.hid hgo
  clear hgo
  have HB2 : Hid (w.heap.size ≤ w2.heap.size) := Lib.hid hlw
  obtain ⟨m0, m1, m2, m3, -⟩ := (H2.out.below ((Below.refl _ w2).alloc (Nat.le_refl _) (.cells (madeCells #[.int .u64 0] ZL) 26))).all
  clear hlb hlw
  go_region_law (first
    | (go_simp; go_at_call 76; refine Calls.mono HGO.out ?_; rintro e w5 ⟨L', g', cap', rfl, HF⟩; try go_simp)
    | fail)
  all_goals
    clear b0 b1 b2 b3 m0 m1 m2 m3 v1 hmk HGO
    have hLN := HF.out.1
    have hf := HF.out.2.2
    have h1 : 1 ≤ SZ := by have := HZW.out; omega
    have hfz := hf.own.frozen 0
    obtain ⟨v0, hc0⟩ : ∃ v0, w5.cell? ⟨g', 0, none⟩ = some v0 := ⟨_, hf.own.cell (p := 0) (by omega)⟩
    have hgl := hf.own.lt
    have HFI := Lib.hid hf
    have HSZL := Lib.hid hLN
    clear hf hLN
    go_wp2_with fail
    refine (r7ref_any _ _ _).mono ?_
    rintro e w6 ⟨rfl, rfl⟩
    go_wp2
    go_ret2
    have h9 := HFI.out.put 0 (refN (SZ : Int) (t : Int))
    rw [HF.out.2.1, HZW.out, fillR_msg] at h9
    rw [HZW.out]
    exact ⟨some ⟨g', 0, none⟩, cap', by rw [HML.out]; rfl, MRow.of_wrw h9.own (msgL_small s t HS.out) h9.lg, h9.wb, h9.own.le⟩
/-- The document's Build, with what room its row has. -/
theorem r7build_cap (s : Sch) (A : Option Addr) (c : Nat) (t : Int) (x : Tr) (An Ak : Option Addr) (cn ck n : Nat) (w : World) (hs : SAt w A s) (hS : Sm (2 * n) x) (hn : n ≤ 6) (hT : TAt w (fun _ => True) x An Ak) :
    Calls Tryd.prog 42 #[.slice A s.n c, .int .i64 t, (.agg #[.int .u64 ((x).num : Nat), .string (x).bs, .slice An (x).nl cn, .slice Ak (x).kl ck])] w fun e w' => ∃ A' cap', e = .returned (.tuple #[.slice A' (bmsg s t x).length cap', .int .i64 (bcode s t x : Nat)]) ∧ MRow w.heap.size w' A' (bmsg s t x) ∧ Below w.heap.size w w' ∧ (bmsg s t x).length ≤ cap' := by
  by_cases h0 : chkC s t x = 0
  · by_cases hl : 200 < sizeC s t x
    · have e1 : bcode s t x = 21 := by rw [bcode, if_pos h0, if_pos hl]
      have e2 : bmsg s t x = [] := by rw [bmsg, if_neg (by omega)]
      refine (r7build_long s A c t x An Ak cn ck n w hs hS hn hT h0 hl).mono ?_
      rintro e w' ⟨rfl, hb⟩
      exact ⟨none, 0, by rw [e1, e2]; rfl, by rw [e2]; exact MRow.nil _ _ _, hb, by rw [e2]; exact Nat.le_refl 0⟩
    · obtain ⟨-, m, rfl, -, -⟩ := chkC_0 h0
      have e1 : bcode s (m : Int) x = 0 := by rw [bcode, if_pos h0, if_neg hl]
      have e2 : bmsg s (m : Int) x = msgL s m x := by rw [bmsg, if_pos e1, Int.toNat_natCast]
      refine (r7build_ok s A c m x An Ak cn ck n w hs hS hn hT h0 (by omega)).mono ?_
      rintro e w' ⟨A', cap', rfl, hr, hb, hc⟩
      exact ⟨A', cap', by rw [e1, e2]; rfl, by rw [e2]; exact hr, hb, by rw [e2]; exact hc⟩
  · have e1 : bcode s t x = chkC s t x := by rw [bcode, if_neg h0]
    have e2 : bmsg s t x = [] := by rw [bmsg, if_neg (by omega)]
    refine (r7build_err s A c t x An Ak cn ck n w hs hS hT h0).mono ?_
    rintro e w' ⟨rfl, hb⟩
    exact ⟨none, 0, by rw [e1, e2]; rfl, by rw [e2]; exact MRow.nil _ _ _, hb, by rw [e2]; exact Nat.le_refl 0⟩
/-- The document's Build. -/
theorem r7build_any (s : Sch) (A : Option Addr) (c : Nat) (t : Int) (x : Tr) (An Ak : Option Addr) (cn ck n : Nat) (w : World) (hs : SAt w A s) (hS : Sm (2 * n) x) (hn : n ≤ 6) (hT : TAt w (fun _ => True) x An Ak) :
    Calls Tryd.prog 42 #[.slice A s.n c, .int .i64 t, (.agg #[.int .u64 ((x).num : Nat), .string (x).bs, .slice An (x).nl cn, .slice Ak (x).kl ck])] w fun e w' => ∃ A' cap', e = .returned (.tuple #[.slice A' (bmsg s t x).length cap', .int .i64 (bcode s t x : Nat)]) ∧ MRow w.heap.size w' A' (bmsg s t x) ∧ Below w.heap.size w w' := by
  refine (r7build_cap s A c t x An Ak cn ck n w hs hS hn hT).mono ?_
  rintro e w' ⟨A', cap', rfl, hr, hb, -⟩
  exact ⟨A', cap', rfl, hr, hb⟩

end Go.Proofs.YtkhbhkllnigbgaaDoor
