/- What New, Because and At of package cause make of a trouble's parts. -/
import Derived.Test.YtojlimpooeehhaaDoorRows
import Derived.WalkKit
import Derived.WalkSpells
import Derived.WalkLawsBesides
import Derived.Lib.Hide
namespace Go.Proofs.YtojlimpooeehhaaDoor.Cs
open Go.RowKit


/-- A trouble's parts, the outermost one first: (c, n): the code c, or, if c is 0, the word n. -/
def enc : List (Int × Int) → Value
  | [] => .nilIface
  | (c, n) :: r => if c = 0 then .iface 157 (.agg #[enc r, .int .i64 n]) else
      if r.isEmpty then .iface 57 (.int .i64 c) else .iface 155 (.agg #[.int .i64 c, enc r])

set_option maxHeartbeats 400000 in
theorem new_nil (w : World) : Calls Tryd.prog 46 #[.int .i64 0] w fun e w' => e = .returned .nilIface ∧ w = w' := by
  go_enter Tryd.func46, Tryd.ntmps46
  go_wp2
  go_ret
  exact ⟨rfl, rfl⟩

set_option maxHeartbeats 400000 in
theorem new_code (c : Int) (w : World) (hc : (c == 0) = false) : Calls Tryd.prog 46 #[.int .i64 c] w fun e w' => e = .returned (.iface 57 (.int .i64 c)) ∧ w = w' := by
  go_enter Tryd.func46, Tryd.ntmps46
  go_wp2
  go_ret
  exact ⟨rfl, rfl⟩

def becauseP (c : Int) (p : List (Int × Int)) : List (Int × Int) := if c = 0 then p else (c, 0) :: p
def atP (p : List (Int × Int)) (n : Int) : List (Int × Int) := if p.isEmpty then [] else (0, n) :: p

theorem enc_word (n : Int) (r : List (Int × Int)) : enc ((0, n) :: r) = .iface 157 (.agg #[enc r, .int .i64 n]) := by simp [enc]
theorem enc_code (c n : Int) (h : ¬ c = 0) : enc [(c, n)] = .iface 57 (.int .i64 c) := by simp [enc, h]
theorem enc_over (c n : Int) (h : ¬ c = 0) (y : Int × Int) (r : List (Int × Int)) : enc ((c, n) :: y :: r) = .iface 155 (.agg #[.int .i64 c, enc (y :: r)]) := by rw [enc]; simp [h]

theorem enc_cons (x : Int × Int) (r : List (Int × Int)) : ∃ t u, enc (x :: r) = .iface t u := by
  obtain ⟨c, n⟩ := x
  by_cases h : c = 0
  · subst h; exact ⟨_, _, enc_word _ _⟩
  · cases r with
    | nil => exact ⟨_, _, enc_code _ _ h⟩
    | cons y r => exact ⟨_, _, enc_over _ _ h _ _⟩

end Go.Proofs.YtojlimpooeehhaaDoor.Cs
