/- What isStranger and wrapped of package cause answer of a trouble's link. -/
import Derived.Test.YtkndgdokpbbdpaaDoorCsMake
import Derived.Recover
import Derived.Stop.Asserts
namespace Go.Proofs.YtkndgdokpbbdpaaDoor.Cs
open Go.RowKit


theorem as38_38 (v : Value) (x : TypeId) (w : World) : (Instr.typeAssert (.iface 42 v) x 42 true).run Tryd.prog w = .ok (.tuple #[v, .bool true]) w := by
  simp [Instr.typeAssert, run_underlying Tryd.underlying42]
theorem as62_62 (v : Value) (x : TypeId) (w : World) : (Instr.typeAssert (.iface 105 v) x 105 true).run Tryd.prog w = .ok (.tuple #[v, .bool true]) w := by
  simp [Instr.typeAssert, run_underlying Tryd.underlying105]
theorem as66_66 (v : Value) (x : TypeId) (w : World) : (Instr.typeAssert (.iface 69 v) x 69 true).run Tryd.prog w = .ok (.tuple #[v, .bool true]) w := by
  simp [Instr.typeAssert, run_underlying Tryd.underlying69]
theorem as62_38 (v : Value) (x : TypeId) (w : World) : (Instr.typeAssert (.iface 105 v) x 42 true).run Tryd.prog w = .ok (.tuple #[.int .i64 0, .bool false]) w := by
  simp [Instr.typeAssert, run_underlying Tryd.underlying42, Tryd.zeroValue42]
theorem as66_38 (v : Value) (x : TypeId) (w : World) : (Instr.typeAssert (.iface 69 v) x 42 true).run Tryd.prog w = .ok (.tuple #[.int .i64 0, .bool false]) w := by
  simp [Instr.typeAssert, run_underlying Tryd.underlying42, Tryd.zeroValue42]
theorem as38_62 (v : Value) (x : TypeId) (w : World) : (Instr.typeAssert (.iface 42 v) x 105 true).run Tryd.prog w = .ok (.tuple #[.agg #[.int .i64 0, .nilIface], .bool false]) w := by
  simp [Instr.typeAssert, run_underlying Tryd.underlying105, Tryd.zeroValue105]
theorem as66_62 (v : Value) (x : TypeId) (w : World) : (Instr.typeAssert (.iface 69 v) x 105 true).run Tryd.prog w = .ok (.tuple #[.agg #[.int .i64 0, .nilIface], .bool false]) w := by
  simp [Instr.typeAssert, run_underlying Tryd.underlying105, Tryd.zeroValue105]
theorem as38_66 (v : Value) (x : TypeId) (w : World) : (Instr.typeAssert (.iface 42 v) x 69 true).run Tryd.prog w = .ok (.tuple #[.agg #[.nilIface, .int .i64 0], .bool false]) w := by
  simp [Instr.typeAssert, run_underlying Tryd.underlying69, Tryd.zeroValue69]
theorem as62_66 (v : Value) (x : TypeId) (w : World) : (Instr.typeAssert (.iface 105 v) x 69 true).run Tryd.prog w = .ok (.tuple #[.agg #[.nilIface, .int .i64 0], .bool false]) w := by
  simp [Instr.typeAssert, run_underlying Tryd.underlying69, Tryd.zeroValue69]
theorem as38_107 (v : Value) (x : TypeId) (w : World) : (Instr.typeAssert (.iface 42 v) x 106 true).run Tryd.prog w = .ok (.tuple #[.nilIface, .bool false]) w :=
  run_typeAssert_lacksB Tryd.underlying106 (by kernel_rfl) (by kernel_rfl) v x w
theorem as38_109 (v : Value) (x : TypeId) (w : World) : (Instr.typeAssert (.iface 42 v) x 107 true).run Tryd.prog w = .ok (.tuple #[.nilIface, .bool false]) w :=
  run_typeAssert_lacksB Tryd.underlying107 (by kernel_rfl) (by kernel_rfl) v x w
theorem as62_107 (v : Value) (x : TypeId) (w : World) : (Instr.typeAssert (.iface 105 v) x 106 true).run Tryd.prog w = .ok (.tuple #[.iface 105 v, .bool true]) w :=
  run_typeAssert_hasB Tryd.underlying106 (by kernel_rfl) v x w
theorem as66_107 (v : Value) (x : TypeId) (w : World) : (Instr.typeAssert (.iface 69 v) x 106 true).run Tryd.prog w = .ok (.tuple #[.iface 69 v, .bool true]) w :=
  run_typeAssert_hasB Tryd.underlying106 (by kernel_rfl) v x w

attribute [go_sem] as38_38 as62_62 as66_66 as62_38 as66_38 as38_62 as66_62 as38_66 as62_66 as38_107 as38_109 as62_107 as66_107

theorem meth_over (x y : Value) (w : World) : (method 248 105 (.agg #[x, y]) "Unwrap").run Tryd.prog w = .ok (80, .agg #[x, y]) w := by kernel_rfl
theorem meth_at (x y : Value) (w : World) : (method 248 69 (.agg #[x, y]) "Unwrap").run Tryd.prog w = .ok (74, .agg #[x, y]) w := by kernel_rfl
attribute [go_sem] meth_over meth_at

set_option maxRecDepth 100000 in
set_option maxHeartbeats 400000 in
theorem stranger_code (v : Value) (w : World) : Calls Tryd.prog 40 #[.iface 42 v] w fun e w' => e = .returned (.bool false) ∧ w = w' := by
  go_enter Tryd.func40, Tryd.ntmps40
  go_wp2
  go_ret
  exact ⟨rfl, rfl⟩

set_option maxRecDepth 100000 in
set_option maxHeartbeats 400000 in
theorem stranger_over (v : Value) (w : World) : Calls Tryd.prog 40 #[.iface 105 v] w fun e w' => e = .returned (.bool false) ∧ w = w' := by
  go_enter Tryd.func40, Tryd.ntmps40
  go_wp2
  go_ret
  exact ⟨rfl, rfl⟩

set_option maxRecDepth 100000 in
set_option maxHeartbeats 400000 in
theorem stranger_at (v : Value) (w : World) : Calls Tryd.prog 40 #[.iface 69 v] w fun e w' => e = .returned (.bool false) ∧ w = w' := by
  go_enter Tryd.func40, Tryd.ntmps40
  go_wp2
  go_ret
  exact ⟨rfl, rfl⟩

set_option maxRecDepth 100000 in
set_option maxHeartbeats 400000 in
theorem deferred_recover (w : World) : CallsD Tryd.prog 51 #[] .returning w fun e u' w' => u' = .returning ∧ (e = .returned (.tuple #[]) ∧ w = w') := by
  refine callsD_of_wpS Tryd.func51 rfl fun c₀ cs hu => ?_
  apply wpS_region; simp [wpOpsS, go_sem, recoverD, hu, Tryd.ntmps51]
  cases c₀
  simp_all [bodyPostS, results, Tryd.results51]

set_option maxRecDepth 100000 in
set_option maxHeartbeats 400000 in
theorem wrapped_code (v : Value) (w : World) : Calls Tryd.prog 41 #[.iface 42 v] w fun e w' => e = .returned (.slice none 0 0) ∧ w = w' := by
  go_enter_defers Tryd.func41, Tryd.ntmps41
  go_wp2
  refine leaves_cons (f := 51) (args := #[]) (by simp) (by simp [go_sem]) ?_
  refine (deferred_recover _).mono ?_
  rintro e u' w'' ⟨rfl, rfl, rfl⟩
  exact ⟨_, results_tmp rfl _ _ _, rfl, rfl⟩

set_option maxRecDepth 100000 in
set_option maxHeartbeats 400000 in
theorem unwrap_over (c : Int) (t : TypeId) (u : Value) (w : World) : Calls Tryd.prog 80 #[.agg #[.int .i64 c, .iface t u]] w fun e w' => e = .returned (.iface t u) ∧ w' = w.alloc (.cells #[.int .i64 c, .iface t u] 105) := by
  go_enter Tryd.func80, Tryd.ntmps80
  go_wp2
  go_ret
  exact ⟨rfl, rfl⟩

set_option maxRecDepth 100000 in
set_option maxHeartbeats 400000 in
theorem wrapped_over (c : Int) (t : TypeId) (u : Value) (w : World) : Calls Tryd.prog 41 #[.iface 105 (.agg #[.int .i64 c, .iface t u])] w fun e w' => e = .returned (.slice (some ⟨w.heap.size + 1, 0, none⟩) 1 1) ∧ w' = (w.alloc (.cells #[.int .i64 c, .iface t u] 105)).alloc (.cells #[.iface t u] 40) := by
  go_enter_defers Tryd.func41, Tryd.ntmps41
  go_wp2_with (go_at_call 80; refine (unwrap_over _ _ _ _).mono ?_; rintro e w' ⟨rfl, rfl⟩)
  refine leaves_cons (f := 51) (args := #[]) (by simp) (by simp [go_sem]) ?_
  refine (deferred_recover _).mono ?_
  rintro e u' w'' ⟨rfl, rfl, rfl⟩
  exact ⟨_, results_tmp rfl _ _ _, rfl, rfl⟩

set_option maxRecDepth 100000 in
set_option maxHeartbeats 400000 in
theorem unwrap_at (n : Int) (t : TypeId) (u : Value) (w : World) : Calls Tryd.prog 74 #[.agg #[.iface t u, .int .i64 n]] w fun e w' => e = .returned (.iface t u) ∧ w' = w.alloc (.cells #[.iface t u, .int .i64 n] 69) := by
  go_enter Tryd.func74, Tryd.ntmps74
  go_wp2
  go_ret
  exact ⟨rfl, rfl⟩

set_option maxRecDepth 100000 in
set_option maxHeartbeats 400000 in
theorem wrapped_at (n : Int) (t : TypeId) (u : Value) (w : World) : Calls Tryd.prog 41 #[.iface 69 (.agg #[.iface t u, .int .i64 n])] w fun e w' => e = .returned (.slice (some ⟨w.heap.size + 1, 0, none⟩) 1 1) ∧ w' = (w.alloc (.cells #[.iface t u, .int .i64 n] 69)).alloc (.cells #[.iface t u] 40) := by
  go_enter_defers Tryd.func41, Tryd.ntmps41
  go_wp2_with (go_at_call 74; refine (unwrap_at _ _ _ _).mono ?_; rintro e w' ⟨rfl, rfl⟩)
  refine leaves_cons (f := 51) (args := #[]) (by simp) (by simp [go_sem]) ?_
  refine (deferred_recover _).mono ?_
  rintro e u' w'' ⟨rfl, rfl, rfl⟩
  exact ⟨_, results_tmp rfl _ _ _, rfl, rfl⟩

set_option maxRecDepth 100000 in
set_option maxHeartbeats 400000 in
theorem stranger_nil (w : World) : Calls Tryd.prog 40 #[.nilIface] w fun e w' => e = .returned (.bool true) ∧ w = w' := by
  have h1 : ∀ (x : TypeId) (w : World), (Instr.typeAssert .nilIface x 42 true).run Tryd.prog w = .ok (.tuple #[.int .i64 0, .bool false]) w := fun x w => by
    simp [Instr.typeAssert, run_underlying Tryd.underlying42, Tryd.zeroValue42]
  have h2 : ∀ (x : TypeId) (w : World), (Instr.typeAssert .nilIface x 105 true).run Tryd.prog w = .ok (.tuple #[.agg #[.int .i64 0, .nilIface], .bool false]) w := fun x w => by
    simp [Instr.typeAssert, run_underlying Tryd.underlying105, Tryd.zeroValue105]
  have h3 : ∀ (x : TypeId) (w : World), (Instr.typeAssert .nilIface x 69 true).run Tryd.prog w = .ok (.tuple #[.agg #[.nilIface, .int .i64 0], .bool false]) w := fun x w => by
    simp [Instr.typeAssert, run_underlying Tryd.underlying69, Tryd.zeroValue69]
  go_enter Tryd.func40, Tryd.ntmps40
  go_wp2
  go_ret
  exact ⟨rfl, rfl⟩

end Go.Proofs.YtkndgdokpbbdpaaDoor.Cs
