/- Rows of words; the document's Pack; Same. -/
import Derived.Test.YtfafffeeembceaaDoorQPack
import Derived.Test.YtfafffeeembceaaDoorQRight
import Derived.Maps.AppendAt
import Derived.Deep.AppendLies
import Derived.OwnWalk
import Derived.Laws.AppendOwnNone
import Derived.RangeFuncBox
namespace Go.Proofs.YtfafffeeembceaaDoor
open Go.ChangeShapes Go.WideShapes Go.ChangeAt Go.RowKit
/-- A row of L words. -/
structure WRow (W : World) (A : Option Addr) (L : Nat) (f : Nat → Nat) : Prop where
  lt : ∀ j, j < L → f j < 18446744073709551616
  some_ : 0 < L → ∃ b off, A = some ⟨b, off, none⟩ ∧ b < W.heap.size ∧ ∀ j, j < L → W.cell? ⟨b, off + j, none⟩ = some (.int .u64 (f j : Nat))
theorem WRow.below {W W' : World} {A : Option Addr} {L : Nat} {f : Nat → Nat} (h : WRow W A L f) (hb : Below W.heap.size W W') : WRow W' A L f :=
  ⟨h.lt, fun h0 => by
    obtain ⟨b, off, hA, hlt, hc⟩ := h.some_ h0
    exact ⟨b, off, hA, Nat.lt_of_lt_of_le hlt hb.size, fun j hj => (hb.cell (p := ⟨b, off + j, none⟩) hlt).trans (hc j hj)⟩⟩
theorem wrow_of_rowIs {W : World} {g n : Nat} {f : Nat → Nat} (h : W.rowIs g 34 n (fun j => .int .u64 (f j : Nat))) (hf : ∀ j, j < n → f j < 18446744073709551616) : WRow W (some ⟨g, 0, none⟩) n f :=
  ⟨hf, fun _ => ⟨g, 0, rfl, h.lt, fun j hj => by rw [Nat.zero_add]; exact h.cell hj⟩⟩

def cellsW (f : Nat → Nat) (n : Nat) : List Value := (List.range n).map fun j => Value.int .u64 (f j : Nat)
theorem cellsW_succ (f : Nat → Nat) (n : Nat) : cellsW f (n + 1) = cellsW f n ++ [.int .u64 (f n : Nat)] := by
  simp [cellsW, List.range_succ]

/-- v is a row of the first m words, made since w. -/
structure RAt (f : Nat → Nat) (w : World) (m : Nat) (v : Value) (W : World) : Prop where
  own : W.ownsRow w.heap.size 34 1 v m (cellsW f m)
  below : Below w.heap.size w W
theorem RAt.next {f : Nat → Nat} {w W w1 : World} {m : Nat} {v v' : Value} (h : RAt f w m v W)
    (ho : w1.ownsRow w.heap.size 34 1 v' (m + 1) (cellsW f m ++ [.int .u64 (f m : Nat)])) (hg : (W.alloc (.cells #[.int .u64 (f m : Nat)] 34)).grownBy w1 v.ownBlock) : RAt f w (m + 1) v' w1 := by
  refine ⟨by rw [cellsW_succ]; exact ho, ?_⟩
  refine (h.below.alloc h.below.size _).trans ⟨hg.os, hg.tape, hg.output, hg.size, fun k hk => hg.block k ?_ ?_⟩
  · have := h.below.size; simp; omega
  · intro e
    have := (h.own.lt k e.symm).1
    omega
theorem addr_add (b off k : Nat) : (⟨b, off, none⟩ : Addr).add k = ⟨b, off + k, none⟩ := by
  unfold Addr.add
  by_cases h : k = 0 <;> simp [h]
theorem RAt.row {f : Nat → Nat} {w W : World} {m : Nat} {v : Value} (h : RAt f w m v W) (hf : ∀ j, j < m → f j < 18446744073709551616) : ∃ A c, v = .slice A m c ∧ WRow W A m f := by
  rcases h.own.2 with ⟨rfl, rfl⟩ | ⟨g, cap, cur, rfl, hg, hh, _⟩
  · exact ⟨none, 0, rfl, hf, fun h => absurd h (by omega)⟩
  · refine ⟨_, _, rfl, hf, fun _ => ⟨g, 0, rfl, (Array.getElem?_eq_some_iff.1 hh).1, fun j hj => ?_⟩⟩
    have := h.own.cells (g := g) rfl j (.int .u64 (f j : Nat)) (by simp [cellsW, hj])
    rw [addr_add] at this
    exact this

theorem RAt.drewN {f : Nat → Nat} {w W : World} {m : Nat} {v : Value} (h : RAt f w m v W) (k : Nat) : RAt f w m v (W.drewN k) := ⟨h.own, below_drewN h.below k⟩
theorem tl_lt (d : Nat → Nat) (c i : Nat) (h : ∀ j, j < i + c → d j < 64) : tl d i c < 64 ^ c := by
  induction c generalizing i with
  | zero => simp [tl]
  | succ c ih =>
    have h1 := ih (i + 1) fun j hj => h j (by omega)
    have h2 := h i (by omega)
    rw [tl, Nat.pow_succ]
    omega
theorem tl_prev (d : Nat → Nat) (L c : Nat) (h : c < L) : tl d (L - (c + 1)) (c + 1) = d (L - (c + 1)) + 64 * tl d (L - c) c := by
  rw [tl, show L - (c + 1) + 1 = L - c by omega]

/-- Rows of words that are the same. -/
def sameW (L L' : Nat) (f f' : Nat → Nat) : Prop := L = L' ∧ ∀ i, i < L → f i = f' i
noncomputable def sameWB (L L' : Nat) (f f' : Nat → Nat) : Bool := @decide (sameW L L' f f') (Classical.propDecidable _)
theorem sameWB_true {L L' : Nat} {f f' : Nat → Nat} (h : sameW L L' f f') : sameWB L L' f f' = true := by simp [sameWB, h]
theorem sameWB_false {L L' : Nat} {f f' : Nat → Nat} (h : ¬ sameW L L' f f') : sameWB L L' f f' = false := by simp [sameWB, h]
set_option maxRecDepth 100000 in
set_option maxHeartbeats 2000000 in
theorem same_any (w : World) (A A' : Option Addr) (L L' c c' : Nat) (f f' : Nat → Nat) (hL : L ≤ 1000) (hr : WRow w A L f) (hr' : WRow w A' L' f') : Calls Tryd.prog 16 #[.slice A L c, .slice A' L' c'] w fun e w' => e = .returned (.bool (sameWB L L' f f')) ∧ Below w.heap.size w w' := by
  have Hr := Lib.hid hr
  have Hr' := Lib.hid hr'
  clear hr hr'
  by_cases hLL : L = L'
  · subst hLL
    go_enter Tryd.func16, Tryd.ntmps16
    go_wp2
    go_loopw [5] (fun iv wr => ∃ i m : Nat, i ≤ L ∧ iv = .int .i64 i ∧ wr = w.drewN m ∧ ∀ j, j < i → f j = f' j) (fun iv _ => L - (intOf iv).toNat)
    case atStart => exact ⟨0, 0, by omega, rfl, rfl, fun j hj => by omega⟩
    case round =>
      obtain ⟨i, m, hi, rfl, rfl, hp⟩ := hrel
      have HP := Lib.hid hp
      clear hp
      by_cases hlt : i < L
      · obtain ⟨b, off, rfl, hb, hcl⟩ := Hr.out.some_ (by omega)
        obtain ⟨b', off', rfl, hb', hcl'⟩ := Hr'.out.some_ (by omega)
        have h1 := hcl i hlt
        have h2 := hcl' i hlt
        clear hcl hcl'
        have h3 := fun n : Nat => show (w.drewN n).cell? _ = _ from h1
        have h4 := fun n : Nat => show (w.drewN n).cell? _ = _ from h2
        by_cases he : f i = f' i
        · rw [← he] at h2 h4
          go_wp2
          go_quiet (fail)
          go_wp2
          go_roundw
          case rel =>
            refine ⟨i + 1, _, by omega, by go_num, rfl, fun j hj => ?_⟩
            by_cases e : j = i
            · rw [e]; exact he
            · exact HP.out j (by omega)
          case measure => simp [intOf]; omega
        · have hne : ((f i : Int) != (f' i : Int)) = true := by simp; omega
          have hne' : (f i != f' i) = true := by simp; omega
          have HF : Hid (sameWB L L f f' = false) := Lib.hid (sameWB_false fun h => he (h.2 i hlt))
          go_wp2
          go_quiet (fail)
          go_wp2
          go_ret
          exact ⟨ret_bool HF.out.symm, below_drewN (below_drewN (Below.refl _ _) _) _⟩
      · have he : i = L := by omega
        subst he
        go_wp2
        go_ret
        exact ⟨ret_bool (sameWB_true ⟨rfl, HP.out⟩).symm, below_drewN (Below.refl _ _) _⟩
  · rw [sameWB_false fun h => hLL h.1]
    have hne : ((L : Int) != (L' : Int)) = true := by simp; omega
    have hne' : (L != L') = true := by simp; omega
    go_enter Tryd.func16, Tryd.ntmps16
    go_wp2
    first
      | (go_ret; exact ⟨rfl, Below.refl _ _⟩)
      | (go_quiet (fail); go_wp2; go_ret; exact ⟨rfl, below_drewN (Below.refl _ _) _⟩)

set_option maxRecDepth 100000 in
set_option maxHeartbeats 4000000 in
theorem r5Pack_yes (s : Sch) (A : Option Addr) (c : Nat) (w : World) (hr : SAt w A s) (h : RightS s) : Calls Tryd.prog 11 #[.slice A s.n c] w fun e w' => ∃ v, e = .returned v ∧ RAt (wd s) w s.n v w' := by
  obtain ⟨i0, hi, hz1, hz2, hz3⟩ := info_parts info_u64
  have HS := Lib.hid hr
  have HR := Lib.hid h
  clear hr
  obtain ⟨h1, h8, -⟩ := h
  have hk := r5Right_any s A c w HS.out
  rw [okS_true HR.out] at hk
  obtain ⟨n, HN⟩ : ∃ n, Hid (s.n = n) := ⟨_, Lib.hid rfl⟩
  rw [HN.out] at h1 h8 hk ⊢
  go_enter Tryd.func11, Tryd.ntmps11
  go_wp2_with fail
  refine hk.mono ?_
  rintro e w1 ⟨rfl, hb⟩
  have HB := Lib.hid hb
  clear hb hk
  go_wp2
  go_loopw [4, 5] (fun tv iv wr => ∃ (i : Nat) (a : Option Addr) (c : Nat), i ≤ n ∧ iv = .int .i64 i ∧ tv = .slice a i c ∧ Hid (RAt (wd s) w i (.slice a i c) wr)) (fun _ iv _ => n - (intOf iv).toNat)
  case atStart => exact ⟨0, none, 0, by omega, rfl, rfl, Lib.hid ⟨World.ownsRow_nil _ _ _ _, HB.out⟩⟩
  case round =>
    clear HB
    obtain ⟨i, a, cc, hin, rfl, rfl, Ht⟩ := hrel
    by_cases hlt : i < n
    · have hlt' : i < s.n := by rw [HN.out]; exact hlt
      obtain ⟨b, off, rfl, hb, hc⟩ := HS.out.some_ (by omega)
      obtain ⟨Ai, ci, hcell, hf⟩ := hc i hlt'
      obtain ⟨l1, l6, -⟩ := HR.out.2.2 i hlt'
      obtain ⟨b', off', rfl, hb', hc'⟩ := hf.some_ (by omega)
      have c1 := (Ht.out.below.cell (p := ⟨b, off + i, none⟩) hb).trans hcell
      have HF := Lib.hid (fun j hj => (⟨(Ht.out.below.cell (p := ⟨b', off' + j * 2, none⟩) hb').trans (hc' j hj).1, (Ht.out.below.cell (p := ⟨b', off' + j * 2 + 1, none⟩) hb').trans (hc' j hj).2⟩ : _ ∧ _))
      have HG := Lib.hid (fun j hj => HR.out.field hlt' (j := j) hj)
      have HW := Lib.hid (show wd s i = s.len i + 8 * hs (fd s i) (s.len i) from rfl)
      have HD := Lib.hid (fun j hj => HR.out.fd_lt hlt' (j := j) hj)
      clear hc hc' hf hcell
      obtain ⟨L, HL⟩ : ∃ L, Hid (s.len i = L) := ⟨_, Lib.hid rfl⟩
      rw [HL.out] at HF HG HW HD c1 l1 l6
      go_wp2
      have c1' := fun k => show (wr.drewN k).cell? ⟨b, off + i, none⟩ = _ from c1
      have c1k := c1'
      go_loopw [6, 7] (fun wv iv wq => ∃ q k : Nat, q ≤ L ∧ iv = .int .i64 ((L : Int) - 1 - q) ∧ wv = .int .u64 (tl (fd s i) (L - q) q : Nat) ∧ wq = wr.drewN k) (fun _ iv _ => (intOf iv + 1).toNat)
      case atStart => exact ⟨0, 0, by omega, by simp, rfl, rfl⟩
      case round =>
        obtain ⟨q, k, hq, rfl, rfl, rfl⟩ := hrel
        by_cases hq1 : q < L
        · obtain ⟨j, hj⟩ : ∃ j : Nat, j = L - (q + 1) := ⟨_, rfl⟩
          have hjL : j < L := by omega
          have e1 : (L : Int) - 1 - q = (j : Int) := by omega
          have HP := Lib.hid (tl_prev (fd s i) L q hq1)
          rw [← hj] at HP
          have hT := tl_lt (fd s i) q (L - q) (fun x hx => HD.out x (by omega))
          have hp6 : 64 ^ q ≤ 64 ^ 5 := Nat.pow_le_pow_right (by omega) (by omega)
          obtain ⟨c2, c3⟩ := HF.out j hjL
          obtain ⟨g1, g2, g3, g4⟩ := HG.out j hjL
          obtain ⟨x, hx⟩ : ∃ x : Nat, s.k i j = x := ⟨(s.k i j).toNat, by omega⟩
          obtain ⟨y, hy⟩ : ∃ y : Nat, s.t i j = y := ⟨(s.t i j).toNat, by omega⟩
          have HX : Hid (fd s i j = x + 8 * y) := Lib.hid (by unfold fd; rw [hx, hy]; simp)
          rw [hx] at c2 g1 g2
          rw [hy] at c3 g3 g4
          have c2' := fun k => show (wr.drewN k).cell? ⟨b', off' + j * 2, none⟩ = _ from c2
          have c3' := fun k => show (wr.drewN k).cell? ⟨b', off' + j * 2 + 1, none⟩ = _ from c3
          obtain ⟨T, hTT⟩ : ∃ T, T = tl (fd s i) (L - q) q := ⟨_, rfl⟩
          rw [← hTT] at HP hT ⊢
          rw [e1]
          clear hTT hx hy c2 c3 e1
          have HJ := Lib.hid hj
          clear hj
          go_wp2
          go_quiet (fail)
          go_wp2
          go_roundw
          case rel =>
            refine ⟨q + 1, _, by omega, ?_, ?_, rfl⟩
            · have := HJ.out; go_num
            · rw [← HJ.out, HP.out, HX.out]
              go_num
          case measure => first | (simp [intOf]; done) | (have := HJ.out; simp [intOf]; omega)
        · have e1 : (L : Int) - 1 - q = -1 := by omega
          have hqL : q = L := by omega
          have hT := tl_lt (fd s i) L 0 (fun x hx => HD.out x (by omega))
          have hp6 : 64 ^ L ≤ 64 ^ 6 := Nat.pow_le_pow_right (by omega) (by omega)
          rw [e1, hqL, Nat.sub_self]
          have HWT : Hid (wd s i = L + 8 * tl (fd s i) 0 L) := Lib.hid (by rw [HW.out, tl_hs])
          obtain ⟨T, HTT⟩ : ∃ T, Hid (T = tl (fd s i) 0 L) := ⟨_, Lib.hid rfl⟩
          rw [← HTT.out] at HWT hT ⊢
          have HV : Hid (((T : Int) * 8 + (L : Int)) = ((wd s i : Nat) : Int)) := Lib.hid (by rw [HWT.out]; omega)
          clear hqL e1 hq1 hq
          have Ht2 := Lib.hid (Ht.out.drewN k)
          clear Ht c1 c1' HF
          have hcc := c1k k
          clear c1k
          generalize wr.drewN k = W2 at Ht2 hcc ⊢
          have hzz := Ht2.out.below.size
          go_wp2_with (at_builtin; rw [HV.out]; (refine wpList_append_own _ rfl _ _ 31 rfl w.heap.size 34 i0 (.int .u64 0) 1 8 Tryd.underlying31 hi hz1 hz2 hz3 rfl (by decide) _ _ _ rfl (Ht2.out.own.alloc _) ⟨_, 0, none⟩ 1 1 [.int .u64 (wd s i : Nat)] rfl rfl (cell_one_new _ _ _) (by simp [Value.oneCell']) (by unfold maxLen; omega) (by omega) (by simp; omega) ?_); intro v' w1 hown' hgrow _; obtain ⟨g', cap', rfl⟩ := ownsRow_succ hown'; have Hnx := Lib.hid (Ht2.out.next hown' hgrow); clear hown' hgrow)
          go_roundw
          case rel => exact ⟨i + 1, _, cap', by omega, by go_num, rfl, Hnx⟩
          case measure => simp [intOf]; omega
    · have he : i = n := by omega
      subst he
      go_wp2
      go_ret
      exact ⟨_, rfl, Ht.out⟩

set_option maxHeartbeats 2000000 in
theorem r5Pack_no (s : Sch) (A : Option Addr) (c : Nat) (w : World) (hr : SAt w A s) (h : okS s = false) : Calls Tryd.prog 11 #[.slice A s.n c] w fun e w' => e = .returned (.slice none 0 0) ∧ Below w.heap.size w w' := by
  have hk := r5Right_any s A c w hr
  rw [h] at hk
  clear hr h
  go_enter Tryd.func11, Tryd.ntmps11
  go_wp2_with fail
  refine hk.mono ?_
  rintro e w1 ⟨rfl, hb⟩
  clear hk
  go_wp2
  go_ret
  exact ⟨rfl, hb⟩

/-- The chapter's example: one type, Num and Many of itself. -/
def exS : Sch := ⟨1, fun _ => 2, fun _ j => if j = 0 then 1 else 5, fun _ _ => 0⟩
theorem exS_right : RightS exS := by
  refine ⟨by decide, by decide, fun i hi => ⟨by show 1 ≤ 2; omega, by show 2 ≤ 6; omega, fun j _ => ?_⟩⟩
  by_cases h : j = 0
  · simp [exS, fieldOk, h]
  · simp [exS, fieldOk, h]
theorem exS_wd : wd exS 0 = 2570 := by decide
theorem exS_at (w : World) : SAt ((w.alloc (.cells #[.int .i64 1, .int .i64 0, .int .i64 5, .int .i64 0] 48)).alloc (.cells #[.slice (some ⟨w.heap.size, 0, none⟩) 2 2] 46)) (some ⟨w.heap.size + 1, 0, none⟩) exS := by
  have r1 := (World.rowIs_alloc w #[.int .i64 1, .int .i64 0, .int .i64 5, .int .i64 0] 48 (fun j => if j = 0 then .int .i64 1 else if j = 2 then .int .i64 5 else .int .i64 0) (by intro j hj; match j, hj with | 0, _ => rfl | 1, _ => rfl | 2, _ => rfl | 3, _ => rfl)).alloc (.cells #[.slice (some ⟨w.heap.size, 0, none⟩) 2 2] 46)
  have r2 := World.rowIs_alloc (w.alloc (.cells #[.int .i64 1, .int .i64 0, .int .i64 5, .int .i64 0] 48)) #[.slice (some ⟨w.heap.size, 0, none⟩) 2 2] 46 (fun _ => .slice (some ⟨w.heap.size, 0, none⟩) 2 2) (by intro j hj; match j, hj with | 0, _ => rfl)
  simp only [World.size_alloc] at r2
  refine ⟨fun _ => ⟨w.heap.size + 1, 0, rfl, by simp, fun i hi => ?_⟩⟩
  obtain rfl : i = 0 := by have : i < 1 := hi; omega
  refine ⟨_, 2, r2.cell (i := 0) (by simp), ⟨fun _ => ⟨w.heap.size, 0, rfl, by simp; omega, fun j hj => ?_⟩⟩⟩
  obtain rfl | rfl : j = 0 ∨ j = 1 := by have : j < 2 := hj; omega
  · exact ⟨r1.cell (i := 0) (by simp), r1.cell (i := 1) (by simp)⟩
  · exact ⟨r1.cell (i := 2) (by simp), r1.cell (i := 3) (by simp)⟩
set_option maxRecDepth 100000 in
set_option maxHeartbeats 2000000 in
theorem awake5_any (w : World) : Calls Tryd.prog 7 #[] w fun e w' => e = .returned (.bool true) ∧ Below w.heap.size w w' := by
  go_enter Tryd.func7, Tryd.ntmps7
  go_wp2_with fail
  refine (pack_yes exS _ 1 _ (exS_at w) exS_right).mono ?_
  rintro e w1 ⟨g, rfl, hg, hrow, hb⟩
  have c0 := hrow.cell (i := 0) (show 0 < 1 by omega)
  rw [exS_wd] at c0
  rw [show exS.n = 1 from rfl]
  have HB := Lib.hid (Below.step (B := w.heap.size) (a := w) (by (repeat (first | with_reducible exact Below.refl _ _ | with_reducible refine Below.drew ?_ | (with_reducible refine Below.setCell ?_ ?side _; case side => exact (by first | (simp; done) | (simp; omega) | omega)) | (with_reducible refine Below.alloc ?_ ?side _; case side => exact (by first | (simp; done) | (simp; omega) | omega))))) hb (by first | (simp; done) | (simp; omega) | omega))
  clear hb hrow
  go_wp2
  go_ret
  exact ⟨rfl, HB.out⟩

end Go.Proofs.YtfafffeeembceaaDoor
