/- What Word tells of a trouble: its innermost word. -/
import Derived.Test.YtojlimpooeehhaaDoorCsCodes
namespace Go.Proofs.YtojlimpooeehhaaDoor.Cs
open Go.RowKit Go.Shelf

attribute [local go_sem] Oper.semAt_some

/-- The innermost word, behind what was there. -/
def wordFrom : Int × Bool → List (Int × Int) → Int × Bool
  | a, [] => a
  | a, (c, n) :: r => if c = 0 then wordFrom (n, true) r else wordFrom a r
theorem wordFrom_word (a : Int × Bool) (n : Int) (r : List (Int × Int)) : wordFrom a ((0, n) :: r) = wordFrom (n, true) r := by simp [wordFrom]
theorem wordFrom_code (a : Int × Bool) (c n : Int) (h : ¬ c = 0) (r : List (Int × Int)) : wordFrom a ((c, n) :: r) = wordFrom a r := by simp [wordFrom, h]

structure WordAt (t : List (Int × Int)) (w : World) (pre : List (List (Int × Int))) (n : Int) (b : Bool) (W : World) : Prop where
  box1 : Boxed W w.heap.size 3 (.int .i64 n)
  box2 : Boxed W (w.heap.size + 1) 4 (.bool b)
  told : ∀ q, pre ++ chain q = chain t → wordFrom (0, false) t = wordFrom (n, b) q
  below : Below w.heap.size w W
def WordI (t : List (Int × Int)) (w : World) (pre : List (List (Int × Int))) (W : World) : Prop := ∃ n b, WordAt t w pre n b W

theorem wordI_turn {t : List (Int × Int)} {w : World} {B : Nat} (hB : w.heap.size ≤ B) (s : List (List (Int × Int))) (X Y : World) (h : WordI t w s X) (hT : TurnC B X Y) : WordI t w s Y := by
  obtain ⟨n, b, h⟩ := h
  exact ⟨n, b, boxed_turn h.box1 hT rfl, boxed_turn h.box2 hT rfl, h.told, h.below.trans (hT.below.mono hB)⟩

theorem told_tail_word {t q : List (Int × Int)} {x : Int × Int} {pre : List (List (Int × Int))} {a b : Int × Bool} (hpre : pre ++ chain (x :: q) = chain t) (h : wordFrom (0, false) t = wordFrom a (x :: q)) (hs : wordFrom a (x :: q) = wordFrom b q) :
    ∀ q', (pre ++ [x :: q]) ++ chain q' = chain t → wordFrom (0, false) t = wordFrom b q' := by
  intro q' hq'
  have e : q' = q := by
    have h1 : pre ++ chain (x :: q) = (pre ++ [x :: q]) ++ chain q := by simp [chain]
    rw [← hpre, h1] at hq'
    exact chain_inj (List.append_cancel_left hq')
  subst e
  rw [h, hs]

theorem keep_box {W : World} {b : Nat} {t : TypeId} {v : Value} (h : Boxed W b t v) (ht : (t == 150 || t == 53) = false) (u : Value) : Keep W (W.setCell ⟨b, 0, none⟩ u) :=
  Keep.of_grownBy (grownBy_setCell' W b u) (fun r e => by cases e; exact ⟨_, h, rfl, by simpa [isRow] using ht⟩)

end Go.Proofs.YtojlimpooeehhaaDoor.Cs
