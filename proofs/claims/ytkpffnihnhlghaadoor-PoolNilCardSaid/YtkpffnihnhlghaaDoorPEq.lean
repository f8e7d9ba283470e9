/- Two configs, held against each other. -/
import Derived.Test.YtkpffnihnhlghaaDoorPPack
import Derived.ChangeKeysEq
import Derived.Laws.StructEq
namespace Go.Proofs.YtkpffnihnhlghaaDoor
open Go.RowKit
theorem guard_config : Tryd.prog.eqGuardType Tryd.prog.depth 60 = false := by kernel_rfl
theorem held_config : Tryd.prog.stoodInHeld 60 = false := by kernel_rfl
theorem held_class : Tryd.prog.stoodInHeld 57 = false := by kernel_rfl
theorem under_config : Tryd.prog.underlying 60 = some (.struct (Tryd.prog.fieldsOf 60)) := by kernel_rfl
theorem under_class : Tryd.prog.underlying 57 = some (.struct (Tryd.prog.fieldsOf 57)) := by kernel_rfl
theorem cells_class : Tryd.prog.cellsOf 57 = 2 := by kernel_rfl
theorem info_class : ∃ i, Tryd.prog.info? 57 = some i := by
  have h : (Tryd.prog.info? 57).isSome = true := by kernel_rfl
  exact Option.isSome_iff_exists.1 h
noncomputable def cfgEq (x y : Cfg) : Bool := @decide (x = y) (Classical.propDecidable _)
theorem cfgEq_self (x : Cfg) : cfgEq x x = true := by simp [cfgEq]
theorem cfgEq_ne {x y : Cfg} (h : ¬ x = y) : cfgEq x y = false := by simp [cfgEq, h]
theorem cp_0 (x : Cfg) (w : World) : (part 3 #[.int .i64 x.t, .int .i64 x.s, .int .i64 x.l, .int .i64 x.c, .int .i64 x.s0, .int .i64 x.n0, .int .i64 x.s1, .int .i64 x.n1, .int .i64 x.r] 0).run Tryd.prog w = .ok (.int .i64 x.t) w := by kernel_rfl
theorem cp_1 (x : Cfg) (w : World) : (part 3 #[.int .i64 x.t, .int .i64 x.s, .int .i64 x.l, .int .i64 x.c, .int .i64 x.s0, .int .i64 x.n0, .int .i64 x.s1, .int .i64 x.n1, .int .i64 x.r] 1).run Tryd.prog w = .ok (.int .i64 x.s) w := by kernel_rfl
theorem cp_2 (x : Cfg) (w : World) : (part 3 #[.int .i64 x.t, .int .i64 x.s, .int .i64 x.l, .int .i64 x.c, .int .i64 x.s0, .int .i64 x.n0, .int .i64 x.s1, .int .i64 x.n1, .int .i64 x.r] 2).run Tryd.prog w = .ok (.int .i64 x.l) w := by kernel_rfl
theorem cp_3 (x : Cfg) (w : World) : (part 3 #[.int .i64 x.t, .int .i64 x.s, .int .i64 x.l, .int .i64 x.c, .int .i64 x.s0, .int .i64 x.n0, .int .i64 x.s1, .int .i64 x.n1, .int .i64 x.r] 3).run Tryd.prog w = .ok (.int .i64 x.c) w := by kernel_rfl
theorem cp_4 (x : Cfg) (w : World) : (part 58 #[.int .i64 x.t, .int .i64 x.s, .int .i64 x.l, .int .i64 x.c, .int .i64 x.s0, .int .i64 x.n0, .int .i64 x.s1, .int .i64 x.n1, .int .i64 x.r] 4).run Tryd.prog w = .ok (.agg #[.int .i64 x.s0, .int .i64 x.n0, .int .i64 x.s1, .int .i64 x.n1]) w := by kernel_rfl
theorem cp_8 (x : Cfg) (w : World) : (part 3 #[.int .i64 x.t, .int .i64 x.s, .int .i64 x.l, .int .i64 x.c, .int .i64 x.s0, .int .i64 x.n0, .int .i64 x.s1, .int .i64 x.n1, .int .i64 x.r] 8).run Tryd.prog w = .ok (.int .i64 x.r) w := by kernel_rfl
theorem kp_0 (a b c d : Int) (w : World) : (part 57 #[.int .i64 a, .int .i64 b, .int .i64 c, .int .i64 d] 0).run Tryd.prog w = .ok (.agg #[.int .i64 a, .int .i64 b]) w := by kernel_rfl
theorem kp_2 (a b c d : Int) (w : World) : (part 57 #[.int .i64 a, .int .i64 b, .int .i64 c, .int .i64 d] 2).run Tryd.prog w = .ok (.agg #[.int .i64 c, .int .i64 d]) w := by kernel_rfl
theorem jp_0 (a b : Int) (w : World) : (part 3 #[.int .i64 a, .int .i64 b] 0).run Tryd.prog w = .ok (.int .i64 a) w := by kernel_rfl
theorem jp_1 (a b : Int) (w : World) : (part 3 #[.int .i64 a, .int .i64 b] 1).run Tryd.prog w = .ok (.int .i64 b) w := by kernel_rfl

set_option maxRecDepth 100000 in
theorem eq_class (d : Nat) (a b a' b' : Int) (w : World) : (Op.equalIn (d + 2) 57 (.agg #[.int .i64 a, .int .i64 b]) (.agg #[.int .i64 a', .int .i64 b'])).run Tryd.prog w = .ok (a == a' && b == b') w := by
  rw [run_equalIn_struct w (d + 1) 57 _ _ under_class held_class]
  simp only [Program.fieldsOf, Tryd.underlying57]
  simp [Op.eqFields, jp_0, jp_1, run_equalIn_int w _ _ _ _ _ _ Tryd.underlying3]
  by_cases h1 : a = a' <;> by_cases h2 : b = b' <;> simp [h1, h2]

set_option maxRecDepth 100000 in
theorem eq_classes (d : Nat) (a b c e a' b' c' e' : Int) (w : World) : (Op.equalIn (d + 3) 58 (.agg #[.int .i64 a, .int .i64 b, .int .i64 c, .int .i64 e]) (.agg #[.int .i64 a', .int .i64 b', .int .i64 c', .int .i64 e'])).run Tryd.prog w = .ok ((a == a' && b == b') && (c == c' && e == e')) w := by
  obtain ⟨i, hi⟩ := info_class
  rw [run_equalIn_array w (d + 2) _ _ Tryd.underlying58 hi, cells_class, show List.range 2 = [0, 1] from rfl]
  simp [Op.eqItems, kp_0, kp_2, eq_class]
  by_cases h1 : a = a' <;> by_cases h2 : b = b' <;> by_cases h3 : c = c' <;> by_cases h4 : e = e' <;> simp [h1, h2, h3, h4]

set_option maxRecDepth 100000 in
set_option maxHeartbeats 1000000 in
theorem eql_config (x y : Cfg) (w : World) : (binOp .eql 60 (.agg #[.int .i64 x.t, .int .i64 x.s, .int .i64 x.l, .int .i64 x.c, .int .i64 x.s0, .int .i64 x.n0, .int .i64 x.s1, .int .i64 x.n1, .int .i64 x.r]) (.agg #[.int .i64 y.t, .int .i64 y.s, .int .i64 y.l, .int .i64 y.c, .int .i64 y.s0, .int .i64 y.n0, .int .i64 y.s1, .int .i64 y.n1, .int .i64 y.r])).run Tryd.prog w = .ok (.bool (cfgEq x y)) w := by
  have e : cfgEq x y = (x.t == y.t && x.s == y.s && x.l == y.l && x.c == y.c && ((x.s0 == y.s0 && x.n0 == y.n0) && (x.s1 == y.s1 && x.n1 == y.n1)) && x.r == y.r) := by
    rw [Bool.eq_iff_iff]
    cases x; cases y
    simp [cfgEq]
    constructor <;> (intro h; simp [h])
  rw [run_eql_struct, run_equalIn_struct w 9999 60 _ _ under_config held_config]
  simp only [Program.fieldsOf, Tryd.underlying60]
  simp [Op.eqFields, cp_0, cp_1, cp_2, cp_3, cp_4, cp_8, run_equalIn_int w _ _ _ _ _ _ Tryd.underlying3, eq_classes 9996]
  rw [e]
  by_cases h0 : x.t = y.t
  case neg => simp [h0]
  by_cases h1 : x.s = y.s
  case neg => simp [h0, h1]
  by_cases h2 : x.l = y.l
  case neg => simp [h0, h1, h2]
  by_cases h3 : x.c = y.c
  case neg => simp [h0, h1, h2, h3]
  by_cases h4 : x.s0 = y.s0
  case neg => simp [h0, h1, h2, h3, h4]
  by_cases h5 : x.n0 = y.n0
  case neg => simp [h0, h1, h2, h3, h4, h5]
  by_cases h6 : x.s1 = y.s1
  case neg => simp [h0, h1, h2, h3, h4, h5, h6]
  by_cases h7 : x.n1 = y.n1
  case neg => simp [h0, h1, h2, h3, h4, h5, h6, h7]
  by_cases h8 : x.r = y.r
  case neg => simp [h0, h1, h2, h3, h4, h5, h6, h7, h8]
  simp [h0, h1, h2, h3, h4, h5, h6, h7, h8]

end Go.Proofs.YtkpffnihnhlghaaDoor
