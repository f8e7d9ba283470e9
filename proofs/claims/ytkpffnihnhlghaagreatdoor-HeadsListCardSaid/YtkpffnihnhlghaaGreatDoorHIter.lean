/- The iterator over a list's words. -/
import Derived.Test.YtkpffnihnhlghaaGreatDoorHMath
import Derived.RangeFuncNested
import Derived.RangeFuncBound
import Derived.RangeFuncCalls
import Derived.RangeFuncLeaves
import Derived.Shelf.Abstract
import Derived.Shelf.RegionOpen
import Derived.OwnWalkIn
import Derived.TacticsInMore
import Derived.LoopNIn
import Derived.LoopIn
import Derived.Deep.LoopGhost
import Derived.Maps.AppendAt
import Derived.WalkSmall
import Derived.Lib.OwnKind
namespace Go.Proofs.YtkpffnihnhlghaaGreatDoor
open Go.RowKit Go.Shelf
theorem least_ltH {p q : Nat → Prop} {n' n0 : Nat} (hq : leastOf q = n0) (hp : p n') (hlt : n' < n0) : leastOf p < leastOf q := by
  have := (leastOf_spec ⟨n', hp⟩).2 n' hp; omega
set_option maxRecDepth 100000 in
theorem hblock_any (X : Nat) (w : World) : Calls Tryz.prog 42 #[.int .u64 (X : Int)] w fun e w' => e = .returned (.int .i64 ((X % 4294967296 : Nat) : Int)) ∧ w = w' := by
  go_enter Tryz.func42, Tryz.ntmps42
  go_wp2
  go_ret
  exact ⟨by rfl, rfl⟩
/-- A row of words. -/
structure WH (W : World) (b o N : Nat) (f : Nat → Nat) : Prop where
  lt : b < W.heap.size
  cell : ∀ j, j < N → W.cell? ⟨b, o + j, none⟩ = some (.int .u64 (f j : Nat))
theorem WH.below {W W' : World} {b o N : Nat} {f : Nat → Nat} (h : WH W b o N f) (hb : Below W.heap.size W W') : WH W' b o N f :=
  ⟨Nat.lt_of_lt_of_le h.lt hb.size, fun j hj => (hb.cell (p := ⟨b, o + j, none⟩) h.lt).trans (h.cell j hj)⟩
/-- What the iterator reads. -/
structure NeedH (x : Cfg) (cls b o N cw : Nat) (f : Nat → Nat) (q1 q2 q3 : Nat) (W : World) : Prop where
  lim : Lim W
  c1 : W.cell? ⟨q1, 0, none⟩ = some (.int .i64 (cls : Nat))
  c2 : W.cell? ⟨q2, 0, none⟩ = some (.slice (some ⟨b, o, none⟩) N cw)
  c3 : CfgAt W q3 x
  row : WH W b o N f
theorem NeedH.below {x : Cfg} {cls b o N cw : Nat} {f : Nat → Nat} {q1 q2 q3 : Nat} {W W' : World} (h : NeedH x cls b o N cw f q1 q2 q3 W) (hb : Below W.heap.size W W') : NeedH x cls b o N cw f q1 q2 q3 W' :=
  ⟨h.lim.below hb, (hb.cell (p := ⟨q1, 0, none⟩) (World.block_lt_of_cell? W _ h.c1)).trans h.c1, (hb.cell (p := ⟨q2, 0, none⟩) (World.block_lt_of_cell? W _ h.c2)).trans h.c2, h.c3.below hb, h.row.below hb⟩
/-- How far the iterator is. -/
def HeadH (x : Cfg) (f : Nat → Nat) (cls M : Nat) (J : List (Int × Int) → World → Prop) (n : Nat) (v : Value) (W : World) : Prop := ∃ k, n + k = M + 1 ∧ v = .int .i64 (wdH x f cls k) ∧ J (seqH x f cls k) W
def encH (y : Int × Int) : Array Value := #[.int .i64 y.1, .int .i64 y.2]
set_option maxRecDepth 100000 in
set_option maxHeartbeats 1000000 in
theorem linksH_any (m : Nat) (x : Cfg) (hr : Right x) (cls : Nat) (hc : cls ≤ 1) (b o N cw : Nat) (hN : sizeC x = (N : Int)) (f : Nat → Nat) (q1 q2 q3 M l : Nat) (W : World) :
    RunsTo Tryz.prog m 40 #[.pointer (some ⟨q1, 0, none⟩), .pointer (some ⟨q2, 0, none⟩), .pointer (some ⟨q3, 0, none⟩)] encH (NeedH x cls b o N cw f q1 q2 q3) M (fun xs => ∃ k, xs = seqH x f cls k ∧ wdH x f cls k < 0) (fun xs => ∃ k, xs = seqH x f cls (k + 1)) l W := by
  intro J Jx hJ hM hY h0
  have hn0 := hM _ _ h0
  refine callsIn_of_wp Tryz.func40 rfl trivial ?_ rfl
  simp only [Tryz.ntmps40, List.size_toArray, List.length_cons, List.length_nil, Nat.reduceAdd, Nat.reduceSub, Array.replicate_succ, Array.replicate_zero, List.push_toArray, List.append_toArray, List.nil_append, List.cons_append]
  have d1 := hn0.2.c1
  have hh := head_any (cls : Int) W
  rw [show headC (cls : Int) = 3 + (cls : Int) by unfold headC; rw [if_neg (by omega)]] at hh
  have HH := Lib.hid hh
  have HY := Lib.hid hY
  have HJ := Lib.hid hJ
  have HM := Lib.hid hM
  clear hh hY hJ hM
  gi_wp2_with fail
  refine ⟨trivial, (fun h => by cases h), ?_⟩
  refine (callsIn_wide.2 HH.out).mono ?_
  rintro e w' ⟨rfl, rfl⟩
  clear d1
  gi_wp2_with fail
  gi_loopw [5, 6] (fun v s wr => ∃ n, HeadH x f cls M J n v wr) (fun v _ wr => leastOf (fun n => HeadH x f cls M J n v wr))
  case atStart => exact ⟨M + 1, 0, rfl, rfl, h0⟩
  case round =>
    have hs := (leastOf_spec hrel).1
    generalize hN0 : leastOf (fun n => HeadH x f cls M J n u5 wr) = n0 at hs
    have HN0 := Lib.hid hN0
    clear hN0 hrel h0 hn0
    obtain ⟨k, hk, rfl, hJk⟩ := hs
    have hnd := (HM.out _ _ hJk).2
    have hkM := (HM.out _ _ hJk).1
    rw [seqH_len] at hkM
    by_cases hz : wdH x f cls k < 0
    · have dz : decide (0 ≤ wdH x f cls k) = false := by simp; omega
      gi_wp2
      go_end0
      exact ⟨⟨_, rfl⟩, .inl ⟨_, ⟨k, rfl, hz⟩, hJk⟩⟩
    · have hlt := wdH_lt hr f cls hc k
      obtain ⟨m0, hm0⟩ : ∃ m0 : Nat, wdH x f cls k = (m0 : Int) := ⟨(wdH x f cls k).toNat, by omega⟩
      have hbk : blkH f (wdH x f cls k) = f m0 % 4294967296 := by rw [hm0]; rfl
      have hnx : wdH x f cls (k + 1) = blockC x (f m0 % 4294967296 : Nat) := by rw [← hbk]; rfl
      have hsq : seqH x f cls (k + 1) = seqH x f cls k ++ [((m0 : Int), ((f m0 % 4294967296 : Nat) : Int))] := by rw [seqH_succ, hbk, hm0]
      have hm0N : m0 < N := by omega
      have c2 := hnd.c2
      have cw0 := hnd.row.cell m0 hm0N
      have g0 : (0 : Int) ≤ (m0 : Int) := by omega
      have g1 : (m0 : Int) < (N : Int) := by omega
      obtain ⟨fn, tmps, assign, body, hy, hR⟩ := HY.out (seqH x f cls k) ((m0 : Int), ((f m0 % 4294967296 : Nat) : Int)) wr hJk
      dsimp only [encH] at hy
      have hbl := hblock_any (f m0) wr
      obtain ⟨B, hB⟩ : ∃ B, f m0 % 4294967296 = B := ⟨_, rfl⟩
      rw [hB] at hy hR hbl hnx hsq
      have HBL := Lib.hid hbl
      have HR := Lib.hid hR
      have HNX := Lib.hid hnx
      have HSQ := Lib.hid hsq
      have HK := Lib.hid hk
      have HN1 := HN0.out
      rw [hm0] at HN1 ⊢
      have HN2 := Lib.hid HN1
      clear HN1 HN0
      clear hbl hR hnx hsq hbk hm0 hB hk hz hlt hnd
      gi_wp2_with fail
      refine ⟨trivial, (fun h => by cases h), ?_⟩
      refine (callsIn_wide.2 HBL.out).mono ?_
      rintro e w' ⟨rfl, rfl⟩
      gi_wp2_with fail
      refine ⟨(fun h => by cases h), ?_⟩
      refine HR.out.mono ?_
      rintro e W3 (⟨rfl, hJ3⟩ | ⟨rfl, hJx3⟩)
      · clear hy c2 cw0
        rw [← HSQ.out] at hJ3
        have hnd3 := (HM.out _ _ hJ3).2
        have hk3 := (HM.out _ _ hJ3).1
        rw [seqH_len] at hk3
        obtain ⟨e0, e1, e2, e3, e4, e5, e6, e7, e8⟩ := hnd3.c3.cells
        have hbk := block_any x (B : Int) W3 hnd3.lim hr
        rw [← HNX.out] at hbk
        have HBK := Lib.hid hbk
        clear hbk hnd3
        gi_wp2_with fail
        refine ⟨trivial, (fun h => by cases h), ?_⟩
        refine (callsIn_wide.2 HBK.out).mono ?_
        rintro e w4 ⟨rfl, hb⟩
        have hnew : HeadH x f cls M J (M - k) (.int .i64 (wdH x f cls (k + 1))) w4 := ⟨k + 1, by omega, rfl, HJ.out _ _ _ hJ3 hb⟩
        have HNW := Lib.hid hnew
        clear hnew hb e0 e1 e2 e3 e4 e5 e6 e7 e8 hJ3
        gi_wp2
        go_roundw
        case rel => exact ⟨_, HNW.out⟩
        case measure => exact least_ltH HN2.out HNW.out (by have := HK.out; omega)
      · clear hy
        gi_wp2
        refine bodyPost_ret (results_none rfl _ _ _) rfl ?_
        exact ⟨⟨_, rfl⟩, .inr ⟨_, ⟨k, rfl⟩, by rw [HSQ.out]; exact hJx3⟩⟩

end Go.Proofs.YtkpffnihnhlghaaGreatDoor
