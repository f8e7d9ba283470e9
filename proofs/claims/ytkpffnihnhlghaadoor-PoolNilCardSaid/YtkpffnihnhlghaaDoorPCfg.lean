/- A config; when it is right; its parts; Check. -/
import Derived.Test.YtkpffnihnhlghaaDoorRows
import Derived.WalkKit
import Derived.WalkSpells
import Derived.WalkLawsBesides
import Derived.Lib.Hide
import Derived.Laws.Pointers
import Derived.Deep.OwnRows
import Derived.Deep.QuietTactic
import Derived.BigQuiet
import Derived.StillTailTactics
import Derived.Below
import Derived.IntWalk
import Derived.Deep.RegionWith
import Derived.BigRegion
namespace Go.Proofs.YtkpffnihnhlghaaDoor
open Go.RowKit
/-- A config: topics, small, slots, clients, the two classes' sizes and counts, retry. -/
structure Cfg where
  t : Int
  s : Int
  l : Int
  c : Int
  s0 : Int
  n0 : Int
  s1 : Int
  n1 : Int
  r : Int

/-- Its parts, in the order in which they are packed. -/
def Cfg.p (x : Cfg) : Nat → Int
  | 0 => x.t
  | 1 => x.s
  | 2 => x.l
  | 3 => x.c
  | 4 => x.r
  | 5 => x.s0
  | 6 => x.n0
  | 7 => x.s1
  | _ => x.n1
def lo : Nat → Int
  | 0 => 1
  | 1 => 4
  | 2 => 1
  | 3 => 1
  | 4 => 1
  | 5 => 4
  | 6 => 0
  | 7 => 4
  | _ => 0
def hi : Nat → Int
  | 0 => 8
  | 1 => 32
  | 2 => 8
  | 3 => 8
  | 4 => 8
  | 5 => 96
  | 6 => 12
  | 7 => 96
  | _ => 12

/-- A config is right. -/
structure Right (x : Cfg) : Prop where
  p : ∀ k, k < 9 → lo k ≤ x.p k ∧ x.p k ≤ hi k
  lt : x.s0 < x.s1

theorem Right.b {x : Cfg} (h : Right x) : 1 ≤ x.t ∧ x.t ≤ 8 ∧ 4 ≤ x.s ∧ x.s ≤ 32 ∧ 1 ≤ x.l ∧ x.l ≤ 8 ∧ 1 ≤ x.c ∧ x.c ≤ 8 ∧ 1 ≤ x.r ∧ x.r ≤ 8 ∧ 4 ≤ x.s0 ∧ x.s0 ≤ 96 ∧ 0 ≤ x.n0 ∧ x.n0 ≤ 12 ∧ 4 ≤ x.s1 ∧ x.s1 ≤ 96 ∧ 0 ≤ x.n1 ∧ x.n1 ≤ 12 ∧ x.s0 < x.s1 := by
  have h0 := h.p 0 (by omega)
  have h1 := h.p 1 (by omega)
  have h2 := h.p 2 (by omega)
  have h3 := h.p 3 (by omega)
  have h4 := h.p 4 (by omega)
  have h5 := h.p 5 (by omega)
  have h6 := h.p 6 (by omega)
  have h7 := h.p 7 (by omega)
  have h8 := h.p 8 (by omega)
  simp only [lo, hi, Cfg.p] at h0 h1 h2 h3 h4 h5 h6 h7 h8
  have := h.lt
  omega
theorem Right.of {x : Cfg} (h : 1 ≤ x.t ∧ x.t ≤ 8 ∧ 4 ≤ x.s ∧ x.s ≤ 32 ∧ 1 ≤ x.l ∧ x.l ≤ 8 ∧ 1 ≤ x.c ∧ x.c ≤ 8 ∧ 1 ≤ x.r ∧ x.r ≤ 8 ∧ 4 ≤ x.s0 ∧ x.s0 ≤ 96 ∧ 0 ≤ x.n0 ∧ x.n0 ≤ 12 ∧ 4 ≤ x.s1 ∧ x.s1 ≤ 96 ∧ 0 ≤ x.n1 ∧ x.n1 ≤ 12 ∧ x.s0 < x.s1) : Right x := by
  refine ⟨fun k hk => ?_, by omega⟩
  match k, hk with
  | 0, _ => simp only [lo, hi, Cfg.p]; omega
  | 1, _ => simp only [lo, hi, Cfg.p]; omega
  | 2, _ => simp only [lo, hi, Cfg.p]; omega
  | 3, _ => simp only [lo, hi, Cfg.p]; omega
  | 4, _ => simp only [lo, hi, Cfg.p]; omega
  | 5, _ => simp only [lo, hi, Cfg.p]; omega
  | 6, _ => simp only [lo, hi, Cfg.p]; omega
  | 7, _ => simp only [lo, hi, Cfg.p]; omega
  | 8, _ => simp only [lo, hi, Cfg.p]; omega

/-- plan.limits, as it is laid. -/
def Lim (w : World) : Prop := ∀ k, k < 9 → w.cell? ⟨1, k * 2, none⟩ = some (.int .i64 (lo k)) ∧ w.cell? ⟨1, k * 2 + 1, none⟩ = some (.int .i64 (hi k))
theorem Lim.below {w w' : World} (h : Lim w) (hb : Below w.heap.size w w') : Lim w' := fun k hk => by
  have hz : 1 < w.heap.size := World.block_lt_of_cell? w _ (h 0 (by omega)).1
  exact ⟨(hb.cell (p := ⟨1, k * 2, none⟩) hz).trans (h k hk).1, (hb.cell (p := ⟨1, k * 2 + 1, none⟩) hz).trans (h k hk).2⟩

theorem Below.step {B : Nat} {a b c : World} (h : Below B a b) (k : Below b.heap.size b c) (hB : B ≤ b.heap.size) : Below B a c := h.trans (k.mono hB)

set_option maxRecDepth 100000 in
set_option maxHeartbeats 4000000 in
theorem partsOf_any (x : Cfg) (w : World) : Calls Tryd.prog 139 #[(.agg #[.int .i64 x.t, .int .i64 x.s, .int .i64 x.l, .int .i64 x.c, .int .i64 x.s0, .int .i64 x.n0, .int .i64 x.s1, .int .i64 x.n1, .int .i64 x.r])] w fun e w' => e = .returned (.agg #[.int .i64 x.t, .int .i64 x.s, .int .i64 x.l, .int .i64 x.c, .int .i64 x.r, .int .i64 x.s0, .int .i64 x.n0, .int .i64 x.s1, .int .i64 x.n1]) ∧ Below w.heap.size w w' := by
  go_enter Tryd.func139, Tryd.ntmps139
  go_wp2_with fail
  go_region
  all_goals
    go_wp2
    refine bodyPost_ret (v := (.agg #[.int .i64 x.t, .int .i64 x.s, .int .i64 x.l, .int .i64 x.c, .int .i64 x.r, .int .i64 x.s0, .int .i64 x.n0, .int .i64 x.s1, .int .i64 x.n1])) (by simp [results, Tryd.results139, go_sem]) rfl ⟨rfl, ?_⟩
    (repeat (first | with_reducible exact Below.refl _ _ | with_reducible refine Below.drew ?_ | (with_reducible refine Below.setCell ?_ ?side _; case side => exact (by first | (simp; done) | (simp; omega) | omega)) | (with_reducible refine Below.alloc ?_ ?side _; case side => exact (by first | (simp; done) | (simp; omega) | omega))))

theorem idx_parts (x : Cfg) (k : Nat) (hk : k < 9) (w : World) : (Instr.index 236 (.agg #[.int .i64 x.t, .int .i64 x.s, .int .i64 x.l, .int .i64 x.c, .int .i64 x.r, .int .i64 x.s0, .int .i64 x.n0, .int .i64 x.s1, .int .i64 x.n1]) (.int .i64 k)).run Tryd.prog w = .ok (.int .i64 (x.p k)) w := by
  obtain rfl | rfl | rfl | rfl | rfl | rfl | rfl | rfl | rfl : k = 0 ∨ k = 1 ∨ k = 2 ∨ k = 3 ∨ k = 4 ∨ k = 5 ∨ k = 6 ∨ k = 7 ∨ k = 8 := by omega
  all_goals kernel_rfl

/-- The config x lies at block b. -/
def Cfg.m (x : Cfg) (j : Nat) : Value := (#[.int .i64 x.t, .int .i64 x.s, .int .i64 x.l, .int .i64 x.c, .int .i64 x.s0, .int .i64 x.n0, .int .i64 x.s1, .int .i64 x.n1, .int .i64 x.r] : Array Value)[j]?.getD default
def CfgAt (w : World) (b : Nat) (x : Cfg) : Prop := w.rowIs b 60 9 x.m
theorem cfgAt_box (w : World) (x : Cfg) : CfgAt (w.alloc (.cells #[.int .i64 x.t, .int .i64 x.s, .int .i64 x.l, .int .i64 x.c, .int .i64 x.s0, .int .i64 x.n0, .int .i64 x.s1, .int .i64 x.n1, .int .i64 x.r] 60)) w.heap.size x :=
  World.rowIs_alloc w #[.int .i64 x.t, .int .i64 x.s, .int .i64 x.l, .int .i64 x.c, .int .i64 x.s0, .int .i64 x.n0, .int .i64 x.s1, .int .i64 x.n1, .int .i64 x.r] 60 x.m (by intro j hj; match j, hj with | 0, _ => rfl | 1, _ => rfl | 2, _ => rfl | 3, _ => rfl | 4, _ => rfl | 5, _ => rfl | 6, _ => rfl | 7, _ => rfl | 8, _ => rfl)
theorem CfgAt.cells {w : World} {b : Nat} {x : Cfg} (h : CfgAt w b x) : w.cell? ⟨b, 0, none⟩ = some (.int .i64 x.t) ∧ w.cell? ⟨b, 1, none⟩ = some (.int .i64 x.s) ∧ w.cell? ⟨b, 2, none⟩ = some (.int .i64 x.l) ∧ w.cell? ⟨b, 3, none⟩ = some (.int .i64 x.c) ∧ w.cell? ⟨b, 4, none⟩ = some (.int .i64 x.s0) ∧ w.cell? ⟨b, 5, none⟩ = some (.int .i64 x.n0) ∧ w.cell? ⟨b, 6, none⟩ = some (.int .i64 x.s1) ∧ w.cell? ⟨b, 7, none⟩ = some (.int .i64 x.n1) ∧ w.cell? ⟨b, 8, none⟩ = some (.int .i64 x.r) :=
  ⟨h.cell (i := 0) (by omega), h.cell (i := 1) (by omega), h.cell (i := 2) (by omega), h.cell (i := 3) (by omega), h.cell (i := 4) (by omega), h.cell (i := 5) (by omega), h.cell (i := 6) (by omega), h.cell (i := 7) (by omega), h.cell (i := 8) (by omega)⟩
theorem CfgAt.below {w w' : World} {b : Nat} {x : Cfg} (h : CfgAt w b x) (hb : Below w.heap.size w w') : CfgAt w' b x := h.of_block (hb.block _ h.lt)

/-- Is it right? -/
noncomputable def rightB (x : Cfg) : Bool := @decide (Right x) (Classical.propDecidable _)
theorem rightB_true {x : Cfg} (h : Right x) : rightB x = true := by simp [rightB, h]
theorem rightB_false {x : Cfg} (h : ¬ Right x) : rightB x = false := by simp [rightB, h]
theorem right_of {x : Cfg} (h : rightB x = true) : Right x := by simpa [rightB] using h
theorem ret_bool {a b : Bool} (h : a = b) : Ending.returned (.bool a) = .returned (.bool b) := by rw [h]

set_option maxRecDepth 100000 in
set_option maxHeartbeats 2000000 in
theorem isRight_any (x : Cfg) (w : World) (hL : Lim w) : Calls Tryd.prog 110 #[(.agg #[.int .i64 x.t, .int .i64 x.s, .int .i64 x.l, .int .i64 x.c, .int .i64 x.s0, .int .i64 x.n0, .int .i64 x.s1, .int .i64 x.n1, .int .i64 x.r])] w fun e w' => e = .returned (.bool (rightB x)) ∧ Below w.heap.size w w' := by
  have HL := Lib.hid hL
  clear hL
  go_enter Tryd.func110, Tryd.ntmps110
  go_wp2_with fail
  refine (partsOf_any x _).mono ?_
  rintro e w1 ⟨rfl, hb⟩
  have H1 := Lib.hid (Below.step (B := w.heap.size) (a := w) (by (repeat (first | with_reducible exact Below.refl _ _ | with_reducible refine Below.drew ?_ | (with_reducible refine Below.setCell ?_ ?side _; case side => exact (by first | (simp; done) | (simp; omega) | omega)) | (with_reducible refine Below.alloc ?_ ?side _; case side => exact (by first | (simp; done) | (simp; omega) | omega))))) hb (by first | (simp; done) | (simp; omega) | omega))
  obtain ⟨c0, c1, c2, c3, c4, c5, c6, c7, c8⟩ := ((cfgAt_box w x).below hb).cells
  clear c0 c1 c2 c3 c5 c7 c8 hb
  go_wp2_with fail
  go_loop [7] (fun i => ∃ k : Nat, k ≤ 9 ∧ i = .int .i64 k ∧ ∀ j, j < k → lo j ≤ x.p j ∧ x.p j ≤ hi j) (fun i => 9 - (intOf i).toNat)
  case atStart => exact ⟨0, by omega, rfl, fun j hj => by omega⟩
  case round =>
    obtain ⟨k, hk, rfl, hp⟩ := hrel
    have HP := Lib.hid hp
    clear hp
    by_cases hlt : k < 9
    · have hi1 := idx_parts x k hlt
      obtain ⟨l1, l2⟩ := (HL.out.below H1.out) k hlt
      by_cases h1 : x.p k < lo k
      · have d1 : decide (x.p k < lo k) = true := by simpa using h1
        go_wp2
        go_ret
        exact ⟨ret_bool (rightB_false fun h => by have := (h.p k hlt).1; omega).symm, H1.out⟩
      · have d1 : decide (x.p k < lo k) = false := by simpa using h1
        by_cases h2 : hi k < x.p k
        · have d2 : decide (hi k < x.p k) = true := by simpa using h2
          go_wp2
          go_ret
          exact ⟨ret_bool (rightB_false fun h => by have := (h.p k hlt).2; omega).symm, H1.out⟩
        · have d2 : decide (hi k < x.p k) = false := by simpa using h2
          go_wp2
          go_round
          case rel =>
            refine ⟨k + 1, by omega, by go_num, fun j hj => ?_⟩
            by_cases e : j = k
            · subst e; omega
            · exact HP.out j (by omega)
          case measure => simp [intOf]; omega
    · go_wp2
      go_ret
      refine ⟨ret_bool ?_, H1.out⟩
      have hk9 : k = 9 := by omega
      subst hk9
      by_cases h : x.s0 < x.s1
      · rw [rightB_true ⟨HP.out, h⟩]; simpa using h
      · rw [rightB_false fun g => h g.lt]; simpa using h

end Go.Proofs.YtkpffnihnhlghaaDoor
