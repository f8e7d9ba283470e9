/- The chapter's examples: awake. -/
import Derived.Test.YthelhimaoeimbaaSet
import Derived.WalkSmall
namespace Go.Proofs.Ythelhimaoeimbaa
open Go.ChangeShapes Go.WideShapes Go.ChangeAt Go.RowKit

theorem awake_set (w : World) : Calls Try.prog 16 #[.int .u64 0, .int .i64 4, .int .i64 8, .int .u64 255] w fun e w' => e = .returned (.tuple #[.int .u64 4080, .bool true]) ∧ ∃ m, w' = w.drewN m := by
  have h := set_yes 0#64 4 8 255#64 (by omega) (by omega) (by decide) w
  have e : (setV 0#64 4 8 255#64).toNat = 4080 := by decide
  rw [e] at h
  exact h

def ai : ByteArray := ⟨#[97, 98, 99, 100, 101, 102, 103, 104, 105]⟩
theorem awake_words (w : World) : Calls Try.prog 10 #[.string ai] w fun e w' => e = .returned (.slice (some ⟨w.heap.size, 0, none⟩) 2 2) ∧ w'.cell? ⟨w.heap.size, 0, none⟩ = some (.int .u64 7523094288207667809) ∧ w'.cell? ⟨w.heap.size, 1, none⟩ = some (.int .u64 105) ∧ Below w.heap.size w w' := by
  refine (words_some ai (by decide) (by decide) w).mono ?_
  rintro e w' ⟨he, hr, hb⟩
  have e0 : wordOf ai 0 = 7523094288207667809 := by decide
  have e1 : wordOf ai 1 = 105 := by decide
  refine ⟨he, ?_, ?_, hb⟩
  · rw [hr.cell (by decide), e0]; rfl
  · rw [hr.cell (by decide), e1]; rfl

set_option maxRecDepth 100000 in
theorem awake_any (w : World) : Calls Try.prog 5 #[] w fun e w' => e = .returned (.bool true) ∧ Below w.heap.size w w' := by
  go_enter Try.func5, Try.ntmps5
  go_wp2_with fail
  refine (awake_set _).mono ?_
  rintro e w' ⟨rfl, m, rfl⟩
  go_wp2_with fail
  refine (awake_words _).mono ?_
  rintro e w1 ⟨rfl, h0, h1, hb⟩
  rw [World.heap_drewN] at h0 h1 hb ⊢
  have Hb := Lib.hid (below_drewN (Below.refl _ w) m |>.trans hb)
  clear hb
  go_wp2
  go_ret
  exact ⟨rfl, Hb.out⟩

end Go.Proofs.Ythelhimaoeimbaa
