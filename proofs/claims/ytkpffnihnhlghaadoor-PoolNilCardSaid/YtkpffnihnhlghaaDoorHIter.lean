/- The iterator over a list's words. -/
import Derived.Test.YtkpffnihnhlghaaDoorHMath
import Derived.RangeFuncNested
import Derived.RangeFuncBound
import Derived.RangeFuncCalls
import Derived.RangeFuncLeaves
import Derived.Shelf.Abstract
import Derived.Shelf.RegionOpen
import Derived.OwnWalkIn
import Derived.TacticsInMore
import Derived.LoopNIn
import Derived.LoopIn
import Derived.Deep.LoopGhost
import Derived.Maps.AppendAt
import Derived.WalkSmall
import Derived.Lib.OwnKind
namespace Go.Proofs.YtkpffnihnhlghaaDoor
open Go.RowKit Go.Shelf
theorem least_ltH {p q : Nat → Prop} {n' n0 : Nat} (hq : leastOf q = n0) (hp : p n') (hlt : n' < n0) : leastOf p < leastOf q := by
  have := (leastOf_spec ⟨n', hp⟩).2 n' hp; omega
set_option maxRecDepth 100000 in
theorem hblock_any (X : Nat) (w : World) : Calls Tryd.prog 59 #[.int .u64 (X : Int)] w fun e w' => e = .returned (.int .i64 ((X % 4294967296 : Nat) : Int)) ∧ w = w' := by
  go_enter Tryd.func59, Tryd.ntmps59
  go_wp2
  go_ret
  exact ⟨by rfl, rfl⟩
/-- A row of words. -/
structure WH (W : World) (b o N : Nat) (f : Nat → Nat) : Prop where
  lt : b < W.heap.size
  cell : ∀ j, j < N → W.cell? ⟨b, o + j, none⟩ = some (.int .u64 (f j : Nat))
theorem WH.below {W W' : World} {b o N : Nat} {f : Nat → Nat} (h : WH W b o N f) (hb : Below W.heap.size W W') : WH W' b o N f :=
  ⟨Nat.lt_of_lt_of_le h.lt hb.size, fun j hj => (hb.cell (p := ⟨b, o + j, none⟩) h.lt).trans (h.cell j hj)⟩
/-- What the iterator reads. -/
structure NeedH (x : Cfg) (cls b o N cw : Nat) (f : Nat → Nat) (q1 q2 q3 : Nat) (W : World) : Prop where
  lim : Lim W
  c1 : W.cell? ⟨q1, 0, none⟩ = some (.int .i64 (cls : Nat))
  c2 : W.cell? ⟨q2, 0, none⟩ = some (.slice (some ⟨b, o, none⟩) N cw)
  c3 : CfgAt W q3 x
  row : WH W b o N f
theorem NeedH.below {x : Cfg} {cls b o N cw : Nat} {f : Nat → Nat} {q1 q2 q3 : Nat} {W W' : World} (h : NeedH x cls b o N cw f q1 q2 q3 W) (hb : Below W.heap.size W W') : NeedH x cls b o N cw f q1 q2 q3 W' :=
  ⟨h.lim.below hb, (hb.cell (p := ⟨q1, 0, none⟩) (World.block_lt_of_cell? W _ h.c1)).trans h.c1, (hb.cell (p := ⟨q2, 0, none⟩) (World.block_lt_of_cell? W _ h.c2)).trans h.c2, h.c3.below hb, h.row.below hb⟩
/-- How far the iterator is. -/
def HeadH (x : Cfg) (f : Nat → Nat) (cls M : Nat) (J : List (Int × Int) → World → Prop) (n : Nat) (v : Value) (W : World) : Prop := ∃ k, n + k = M + 1 ∧ v = .int .i64 (wdH x f cls k) ∧ J (seqH x f cls k) W
def encH (y : Int × Int) : Array Value := #[.int .i64 y.1, .int .i64 y.2]

end Go.Proofs.YtkpffnihnhlghaaDoor
