/- A message is built. -/
import Derived.Test.YthcachmcjekckaaDoorBBuild
import Derived.Test.YthcachmcjekckaaDoorBSmall
import Derived.Deep.RegionLaw
namespace Go.Proofs.YthcachmcjekckaaDoor
open Go.ChangeShapes Go.WideShapes Go.ChangeAt Go.RowKit
theorem chkC_0 {s : Sch} {t : Int} {x : Tr} (h : chkC s t x = 0) : RightS s ∧ ∃ m : Nat, t = m ∧ m < s.n ∧ chk s 5 m x = 0 := by
  unfold chkC at h
  by_cases g : okS s = true ∧ hasT s t
  · rw [if_pos g] at h
    have g2 := g.2
    unfold hasT at g2
    exact ⟨right_of_okS g.1, t.toNat, by omega, by omega, h⟩
  · rw [if_neg g] at h; cases h
/-- Which trouble Build tells, and what it builds. -/
noncomputable def bcode (s : Sch) (t : Int) (x : Tr) : Nat := if chkC s t x = 0 then (if 200 < sizeC s t x then 21 else 0) else chkC s t x
noncomputable def bmsg (s : Sch) (t : Int) (x : Tr) : List Nat := if bcode s t x = 0 then msgL s t.toNat x else []
/-- A row of words, in blocks made since B. -/
structure MRow (B : Nat) (W : World) (A : Option Addr) (L : List Nat) : Prop where
  row : WRow W A L.length (nth L)
  new : 0 < L.length → ∀ a, A = some a → B ≤ a.block
theorem MRow.below {B : Nat} {W W' : World} {A : Option Addr} {L : List Nat} (h : MRow B W A L) (hb : Below W.heap.size W W') : MRow B W' A L := ⟨h.row.below hb, h.new⟩
theorem MRow.nil (B : Nat) (W : World) (A : Option Addr) : MRow B W A [] := ⟨⟨fun j hj => absurd hj (Nat.not_lt_zero j), fun h => absurd h (Nat.lt_irrefl 0)⟩, fun h => absurd h (Nat.lt_irrefl 0)⟩
theorem mk_words (n : Nat) (hn : n ≤ 1000) (w : World) : (Instr.makeSlice 29 (.int .i64 0) (.int .i64 (n : Int))).run Tryd.prog w = .ok (.slice (some ⟨w.heap.size, 0, none⟩) 0 n) (w.alloc (.cells (madeCells #[.int .u64 0] n) 28)) := by
  obtain ⟨i, hi, hz1, hz2, hz3⟩ := info_parts info_u64
  have hr := run_make (P := Tryd.prog) w 29 28 i (.int .u64 0) Tryd.underlying29 hi hz1 .i64 .i64 0 n (by omega) (by omega) (by rw [hz3]; omega) (by omega)
  simp only [Int.toNat_natCast, hz2, Nat.mul_one] at hr
  exact hr
theorem BW.mrow {q : Nat} {s : Sch} {A : Option Addr} {c : Nat} {L : List Nat} {g cap B : Nat} {W : World} (h : BW q s A c L g cap W) (hL : SmL L) (hg : B ≤ g) : MRow B W (some ⟨g, 0, none⟩) L := by
  refine ⟨⟨fun j _ => nth_lt hL j, fun _ => ⟨g, 0, rfl, h.gq, fun j hj => ?_⟩⟩, fun _ a e => by cases e; exact hg⟩
  rw [Nat.zero_add, h.cell hj]
  simp [nth, hj]
theorem bld_row (w : World) (s : Sch) (A : Option Addr) (c : Nat) (v : Value) : (w.alloc (.cells #[.slice A s.n c, v] 84)).rowIs w.heap.size 84 2 (fun j => if j = 0 then .slice A s.n c else v) := World.rowIs_alloc w #[.slice A s.n c, v] 84 _ (by intro j hj; match j, hj with | 0, _ => rfl | 1, _ => rfl)

set_option maxRecDepth 100000 in
set_option maxHeartbeats 4000000 in
theorem build_err (s : Sch) (A : Option Addr) (c : Nat) (t : Int) (x : Tr) (An Ak : Option Addr) (cn ck n : Nat) (w : World) (hs : SAt w A s) (hS : Sm (2 * n) x) (hT : TAt w (fun _ => True) x An Ak) (h0 : ¬ chkC s t x = 0) :
    Calls Tryd.prog 12 #[.slice A s.n c, .int .i64 t, (.agg #[.int .u64 ((x).num : Nat), .string (x).bs, .slice An (x).nl cn, .slice Ak (x).kl ck])] w fun e w' => e = .returned (.tuple #[.slice none 0 0, errV (chkC s t x)]) ∧ Below w.heap.size w w' := by
  have H0 := Lib.hid (CC.mk' (k1 := cn) (k2 := ck) hs hT)
  have HS := Lib.hid hS
  clear hs hT hS
  rcases chkC_vals s t x with h | h | h | h
  · exact absurd h h0
  all_goals
    have HC := Lib.hid h
    clear h h0
    go_enter Tryd.func12, Tryd.ntmps12
    go_wp2_with fail
    refine (tcheck_any s A c t x An Ak cn ck _ _ H0.out.sat HS.out H0.out.tat).mono ?_
    rintro e w1 ⟨rfl, hb⟩
    rw [HC.out]
    first | rw [show errV 1 = .iface 37 (.int .i64 1) from rfl] | rw [errV_16] | rw [errV_24]
    have H1 := Lib.hid (H0.out.below hb)
    clear hb
    go_wp2
    go_ret2
    exact ⟨by rw [HC.out]; rfl, H1.out.be⟩
set_option maxRecDepth 100000 in
set_option maxHeartbeats 4000000 in
theorem build_long (s : Sch) (A : Option Addr) (c : Nat) (t : Int) (x : Tr) (An Ak : Option Addr) (cn ck n : Nat) (w : World) (hs : SAt w A s) (hS : Sm (2 * n) x) (hn : n ≤ 6) (hT : TAt w (fun _ => True) x An Ak) (h0 : chkC s t x = 0) (hl : 200 < sizeC s t x) :
    Calls Tryd.prog 12 #[.slice A s.n c, .int .i64 t, (.agg #[.int .u64 ((x).num : Nat), .string (x).bs, .slice An (x).nl cn, .slice Ak (x).kl ck])] w fun e w' => e = .returned (.tuple #[.slice none 0 0, .iface 37 (.int .i64 21)]) ∧ Below w.heap.size w w' := by
  have H0 := Lib.hid (CC.mk' (k1 := cn) (k2 := ck) hs hT)
  have HS := Lib.hid hS
  have HC := Lib.hid h0
  have hll : sizeC s t x ≤ 3000000000 := by
    have := wds_le hS true
    rw [sizeC, if_pos h0]; omega
  obtain ⟨SZ, HSZ⟩ : ∃ SZ, Hid (sizeC s t x = SZ) := ⟨_, Lib.hid rfl⟩
  rw [HSZ.out] at hl hll
  clear hs hT hS h0
  go_enter Tryd.func12, Tryd.ntmps12
  go_wp2_with fail
  refine (tcheck_any s A c t x An Ak cn ck _ _ H0.out.sat HS.out H0.out.tat).mono ?_
  rintro e w1 ⟨rfl, hb⟩
  rw [HC.out, errV_0]
  have H1 := Lib.hid (H0.out.below hb)
  clear hb
  obtain ⟨b0, b1, b2, b3, -⟩ := H1.out.all
  have d1 : decide ((200 : Int) < (SZ : Int)) = true := decide_eq_true (by omega)
  have d2 : decide (200 < SZ) = true := decide_eq_true (by omega)
  go_wp2_with fail
  clear b0 b1 b2 b3
  refine (tsize_any s A c t x An Ak cn ck n _ H1.out.sat HS.out hn H1.out.tat).mono ?_
  rintro e w2 ⟨rfl, hb⟩
  have H2 := Lib.hid (H1.out.below hb)
  rw [HSZ.out]
  clear hb
  go_wp2_with fail
  refine (Cs.new_code 21 _ rfl).mono ?_
  rintro e w3 ⟨rfl, rfl⟩
  go_wp2
  go_ret2
  exact ⟨rfl, H2.out.be⟩
set_option maxRecDepth 100000 in
set_option maxHeartbeats 8000000 in
theorem build_ok (s : Sch) (A : Option Addr) (c : Nat) (t : Nat) (x : Tr) (An Ak : Option Addr) (cn ck n : Nat) (w : World) (hs : SAt w A s) (hS : Sm (2 * n) x) (hn : n ≤ 6) (hT : TAt w (fun _ => True) x An Ak) (h0 : chkC s (t : Int) x = 0) (hl : sizeC s (t : Int) x ≤ 200) :
    Calls Tryd.prog 12 #[.slice A s.n c, .int .i64 (t : Int), (.agg #[.int .u64 ((x).num : Nat), .string (x).bs, .slice An (x).nl cn, .slice Ak (x).kl ck])] w fun e w' => ∃ A' cap', e = .returned (.tuple #[.slice A' (msgL s t x).length cap', .nilIface]) ∧ MRow w.heap.size w' A' (msgL s t x) ∧ Below w.heap.size w w' := by
  have H0 := Lib.hid (CC.mk' (k1 := cn) (k2 := ck) hs hT)
  have HT0 := Lib.hid hT.lt
  have HSA := Lib.hid hs
  have HS := Lib.hid hS
  have HC := Lib.hid h0
  obtain ⟨hR, m, hm, ht, hck⟩ := chkC_0 h0
  obtain rfl : t = m := by omega
  have HCK := Lib.hid hck
  have HR := Lib.hid hR
  have hsz : sizeC s (t : Int) x = 1 + wds true x := by rw [sizeC, if_pos h0]
  have HWD : Hid (1 + wds true x ≤ 200) := Lib.hid (by omega)
  have HML := Lib.hid (msgL_len hR ht hck)
  have hsz1 : 1 ≤ sizeC s (t : Int) x := by omega
  obtain ⟨SZ, HSZ⟩ : ∃ SZ, Hid (sizeC s (t : Int) x = SZ) := ⟨_, Lib.hid rfl⟩
  have HZW : Hid (SZ = 1 + wds true x) := Lib.hid (by rw [← HSZ.out]; exact hsz)
  rw [HSZ.out] at hl hsz1
  obtain ⟨i0, hi0, hz1, hz2, hz3⟩ := info_parts info_u64
  have hmk := mk_words SZ (by omega)
  clear hs hT hS h0 hck hR hsz hm
  go_enter Tryd.func12, Tryd.ntmps12
  go_wp2_with fail
  refine (tcheck_any s A c t x An Ak cn ck _ _ H0.out.sat HS.out H0.out.tat).mono ?_
  rintro e w1 ⟨rfl, hb⟩
  rw [HC.out, errV_0]
  have H1 := Lib.hid (H0.out.below hb)
  clear hb
  obtain ⟨b0, b1, b2, b3, -⟩ := H1.out.all
  have d1 : decide ((200 : Int) < (SZ : Int)) = false := decide_eq_false (by omega)
  have d2 : decide (200 < SZ) = false := decide_eq_false (by omega)
  go_wp2_with fail
  clear b0 b1 b2 b3
  refine (tsize_any s A c t x An Ak cn ck n _ H1.out.sat HS.out hn H1.out.tat).mono ?_
  rintro e w2 ⟨rfl, hb⟩
  have H2 := Lib.hid (H1.out.below hb)
  rw [HSZ.out]
  clear hb H0 H1
  have hlw := H2.out.be.size
  have hlb := H2.out.lt
  have hne : w.heap.size ≠ w2.heap.size := by omega
  go_wp2_with fail
  have hbw0 : BW (w2.heap.size + 1) s A c [] w2.heap.size SZ ((w2.alloc (.cells (madeCells #[.int .u64 0] SZ) 28)).alloc (.cells #[.slice A s.n c, .slice (some ⟨w2.heap.size, 0, none⟩) 0 SZ] 84)) := by
    have r1 := bld_row (w2.alloc (.cells (madeCells #[.int .u64 0] SZ) 28)) s A c (.slice (some ⟨w2.heap.size, 0, none⟩) 0 SZ)
    simp only [World.size_alloc] at r1
    exact ⟨r1, own_of (World.ownsRow_made w2 (madeCells #[.int .u64 0] SZ) SZ (Nat.zero_le _) (by unfold maxLen; omega) (by rw [size_madeCells, Nat.mul_one])) fun k hk => (Below.refl _ (w2.alloc (.cells (madeCells #[.int .u64 0] SZ) 28))).alloc (Nat.le_refl _) _ |>.block k (by have e : w2.heap.size = k := Option.some.inj hk; simp; omega), by omega⟩
  have H3 := Lib.hid (H2.out.below (((Below.refl _ w2).alloc (Nat.le_refl _) (.cells (madeCells #[.int .u64 0] SZ) 28)).alloc (by simp) (.cells #[.slice A s.n c, .slice (some ⟨w2.heap.size, 0, none⟩) 0 SZ] 84)))
  have HQ : Hid (w.heap.size ≤ w2.heap.size + 1 ∧ w.heap.size ≤ w2.heap.size ∧ w.heap.size ≠ w2.heap.size + 1 ∧ w.heap.size ≠ w2.heap.size) := Lib.hid (by omega)
  clear H2 hmk hlw hlb hne d1 d2
  generalize (w2.alloc (.cells (madeCells #[.int .u64 0] SZ) 28)).alloc (.cells #[.slice A s.n c, .slice (some ⟨w2.heap.size, 0, none⟩) 0 SZ] 84) = V at hbw0 H3 ⊢
  generalize w2.heap.size + 1 = q at hbw0 HQ ⊢
  generalize w2.heap.size = g at hbw0 HQ ⊢
  have c1 := hbw0.box.cell (i := 1) (by omega)
  simp only [show ((1 : Nat) = 0) = False by simp, if_false, List.length_nil] at c1
  have cf := hbw0.box.frozen
  have hql := hbw0.box.lt
  have hgl := hbw0.gq
  have hqne := hbw0.ne
  have HBW := Lib.hid hbw0
  have HV : Hid (Below V.heap.size V (V.alloc (.cells #[.int .u64 (refN (SZ : Int) (t : Int) : Nat)] 28)).drew) := Lib.hid (by (repeat (first | with_reducible exact Below.refl _ _ | with_reducible refine Below.drew ?_ | (with_reducible refine Below.setCell ?_ ?side _; case side => exact (by first | (simp; done) | (simp; omega) | omega)) | (with_reducible refine Below.alloc ?_ ?side _; case side => exact (by first | (simp; done) | (simp; omega) | omega)))))
  have HO : Hid (((V.alloc (.cells #[.int .u64 (refN (SZ : Int) (t : Int) : Nat)] 28)).drew).ownsRow 0 28 1 (.slice (some ⟨g, 0, none⟩) 0 SZ) 0 (wcells [])) := Lib.hid (hbw0.below HV.out).own
  have HCC : Hid (∀ j u, [Value.int .u64 (refN (SZ : Int) (t : Int) : Nat)][j]? = some u → ((V.alloc (.cells #[.int .u64 (refN (SZ : Int) (t : Int) : Nat)] 28)).drew).cell? ((⟨V.heap.size, 0, none⟩ : Addr).add j) = some u) := Lib.hid (fun j u hu => by
    have r := (World.rowIs_alloc V #[.int .u64 (refN (SZ : Int) (t : Int) : Nat)] 28 (fun _ => .int .u64 (refN (SZ : Int) (t : Int) : Nat)) (by intro j hj; match j, hj with | 0, _ => rfl)).drew
    match j, hu with
    | 0, hu => rw [addr_add]; rw [r.cell (i := 0) (by simp)]; simpa using hu)
  have n1 : q ≠ V.heap.size := by omega
  clear hbw0
  go_region_law (first
| (go_simp; go_at_call 35; refine Calls.mono (bref_any _ _ _) ?_; rintro e w5 ⟨rfl, rfl⟩; try go_simp)
    | (refine step_append_lies _ (by rfl) _ _ 29 (by rfl) 0 28 i0 (.int .u64 0) 1 8 Tryd.underlying29 hi0 hz1 hz2 hz3 rfl (by omega) _ _ _ (by rfl) HO.out ⟨V.heap.size, 0, none⟩ 1 1 [.int .u64 (refN (SZ : Int) (t : Int) : Nat)] (by rfl) (by rfl) HCC.out (by simp [Value.oneCell']) (by omega) (by unfold maxLen; omega) (by omega) (Nat.zero_le _) _ rfl ?_; intro g1 cap1 w10 hown hgrow hat hlt; have HW := Lib.hid hown; have HG := Lib.hid hgrow; have m1 := (World.grownBy.cell_far hgrow ⟨q, 1, none⟩ (by simp; omega) (by intro e; have := Option.some.inj e; show False; simp at this; omega)); have m2 := (World.grownBy.frozen_far hgrow ⟨q, 1, none⟩ (by simp; omega) (by intro e; have := Option.some.inj e; show False; simp at this; omega)); have HAT := Lib.hid hat; clear hown hgrow hat hlt))
  all_goals
    clear m1 m2 c1 cf
    obtain ⟨t1, t2⟩ := HBW.out.grow (M := [refN (SZ : Int) (t : Int)]) HV.out HG.out (by simp) HAT.out HW.out
    have T1 := Lib.hid t1
    have T2 := Lib.hid t2
    have HG1 : Hid (w.heap.size ≤ g1) := Lib.hid (by
      have h1 := HQ.out.2.1
      have h2 := H3.out.be.size
      rcases HAT.out with e | e
      · have e' : g = g1 := Option.some.inj e
        omega
      · have h3 := HV.out.size
        have e' : g1 = _ := e
        rw [e']; omega)
    clear t1 t2 HW HG HAT HO HCC HV
    have HB9 : Hid (Below w.heap.size w _) := Lib.hid (Below.trans H3.out.be (T2.out.below (B := w.heap.size) H3.out.be.size (fun k hk e => by have := HQ.out; rcases e with e | e <;> omega)))
    have b4 := (H3.out.box.of_block (T2.out.block _ H3.out.lt (fun e => by have := HQ.out; rcases e with e | e <;> omega)))
    obtain ⟨b0, b1, b2, b3⟩ := b4
    simp only [Nat.zero_add] at b1 b2 b3
    clear T2 H3 HBW hql hgl n1
    generalize World.setCell _ _ _ = W9 at T1 HB9 b0 b1 b2 b3 ⊢
    have heo : EO w (W9.alloc (.cells #[.int .u64 ((x).num : Nat), .string (x).bs, .slice An (x).nl cn, .slice Ak (x).kl ck] 32)) q s A c (.mk 0 ⟨#[]⟩ 0 (fun _ => 0) 1 (fun _ => x)) (some ⟨W9.heap.size, 0, none⟩) g1 [refN (SZ : Int) (t : Int)] g1 cap1 (W9.alloc (.cells #[.int .u64 ((x).num : Nat), .string (x).bs, .slice An (x).nl cn, .slice Ak (x).kl ck] 32)) := by
      have h9 := HB9.out.size
      have hq := T1.out.box.lt
      have hg := T1.out.gq
      have hq1 := HQ.out
      have hg1 := HG1.out
      refine ⟨T1.out.below ((Below.refl _ _).alloc (Nat.le_refl _) _), HB9.out.alloc (by omega) _, by omega, by omega, .inl rfl, ⟨none_row _ _ _, fun _ => ⟨W9.heap.size, 0, rfl, ⟨by omega, by omega⟩, by simp, fun j hj => ?_⟩⟩, ButP.refl _ _⟩
      obtain rfl : j = 0 := by omega
      exact ⟨An, cn, Ak, ck, cell4_box W9 x An cn Ak ck, (HT0.out.old (HB9.out.alloc (by omega) _)).mono fun b hb _ => by constructor <;> omega⟩
    have HEO := Lib.hid heo
    clear heo
    go_wp2_with fail
    clear b0 b1 b2 b3
    refine (layC_all s HR.out A c w HSA.out 5 q t 1 (fun _ => x) (some ⟨W9.heap.size, 0, none⟩) 1 [refN (SZ : Int) (t : Int)] g1 cap1 _ HEO.out ht (fun _ _ => HCK.out) (by omega) (by have := HWD.out; simp [sumN]; omega)).mono ?_
    rintro e W11 ⟨rfl, g2, cap2, h11⟩
    have c1 := h11.bw.box.cell (i := 1) (by omega)
    simp only [show ((1 : Nat) = 0) = False by simp, if_false] at c1
    have H11 := Lib.hid h11
    clear h11
    go_wp2
    go_ret2
    have hml : layL s 5 t 1 (fun _ => x) [refN (SZ : Int) (t : Int)] = msgL s t x := by rw [msgL, ← HZW.out]
    have h11 := H11.out
    rw [hml] at h11
    exact ⟨_, cap2, by rw [hml]; rfl, h11.bw.mrow (msgL_small s t HS.out) h11.lg, h11.wb⟩
/-- Build. -/
theorem build_any (s : Sch) (A : Option Addr) (c : Nat) (t : Int) (x : Tr) (An Ak : Option Addr) (cn ck n : Nat) (w : World) (hs : SAt w A s) (hS : Sm (2 * n) x) (hn : n ≤ 6) (hT : TAt w (fun _ => True) x An Ak) :
    Calls Tryd.prog 12 #[.slice A s.n c, .int .i64 t, (.agg #[.int .u64 ((x).num : Nat), .string (x).bs, .slice An (x).nl cn, .slice Ak (x).kl ck])] w fun e w' => ∃ A' cap', e = .returned (.tuple #[.slice A' (bmsg s t x).length cap', errV (bcode s t x)]) ∧ MRow w.heap.size w' A' (bmsg s t x) ∧ Below w.heap.size w w' := by
  by_cases h0 : chkC s t x = 0
  · by_cases hl : 200 < sizeC s t x
    · have e1 : bcode s t x = 21 := by rw [bcode, if_pos h0, if_pos hl]
      have e2 : bmsg s t x = [] := by rw [bmsg, if_neg (by omega)]
      refine (build_long s A c t x An Ak cn ck n w hs hS hn hT h0 hl).mono ?_
      rintro e w' ⟨rfl, hb⟩
      exact ⟨none, 0, by rw [e1, e2]; rfl, by rw [e2]; exact MRow.nil _ _ _, hb⟩
    · obtain ⟨-, m, rfl, -, -⟩ := chkC_0 h0
      have e1 : bcode s (m : Int) x = 0 := by rw [bcode, if_pos h0, if_neg hl]
      have e2 : bmsg s (m : Int) x = msgL s m x := by rw [bmsg, if_pos e1, Int.toNat_natCast]
      refine (build_ok s A c m x An Ak cn ck n w hs hS hn hT h0 (by omega)).mono ?_
      rintro e w' ⟨A', cap', rfl, hr, hb⟩
      exact ⟨A', cap', by rw [e1, e2]; rfl, by rw [e2]; exact hr, hb⟩
  · have e1 : bcode s t x = chkC s t x := by rw [bcode, if_neg h0]
    have e2 : bmsg s t x = [] := by rw [bmsg, if_neg (by omega)]
    refine (build_err s A c t x An Ak cn ck n w hs hS hT h0).mono ?_
    rintro e w' ⟨rfl, hb⟩
    exact ⟨none, 0, by rw [e1, e2]; rfl, by rw [e2]; exact MRow.nil _ _ _, hb⟩
theorem bmsg_len {s : Sch} {t : Int} {x : Tr} (h : bcode s t x = 0) : (bmsg s t x).length = sizeC s t x ∧ sizeC s t x ≤ 200 ∧ chkC s t x = 0 := by
  by_cases h0 : chkC s t x = 0
  · by_cases hl : 200 < sizeC s t x
    · rw [bcode, if_pos h0, if_pos hl] at h; cases h
    · obtain ⟨hR, m, rfl, hm, hc⟩ := chkC_0 h0
      exact ⟨by rw [bmsg, if_pos h, Int.toNat_natCast, msgL_len hR hm hc, sizeC, if_pos h0], by omega, h0⟩
  · rw [bcode, if_neg h0] at h; exact absurd h h0
theorem bmsg_none {s : Sch} {t : Int} {x : Tr} (h : ¬ bcode s t x = 0) : bmsg s t x = [] := if_neg h
theorem bmsg_le (s : Sch) (t : Int) (x : Tr) : (bmsg s t x).length ≤ 200 := by
  by_cases h : bcode s t x = 0
  · have := bmsg_len h; omega
  · rw [bmsg_none h]; simp

end Go.Proofs.YthcachmcjekckaaDoor
