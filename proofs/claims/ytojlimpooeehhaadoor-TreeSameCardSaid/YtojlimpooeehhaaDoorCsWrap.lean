/- What isStranger and wrapped of package cause answer of a trouble's link. -/
import Derived.Test.YtojlimpooeehhaaDoorCsMake
import Derived.Recover
import Derived.Stop.Asserts
namespace Go.Proofs.YtojlimpooeehhaaDoor.Cs
open Go.RowKit


theorem as38_38 (v : Value) (x : TypeId) (w : World) : (Instr.typeAssert (.iface 57 v) x 57 true).run Tryd.prog w = .ok (.tuple #[v, .bool true]) w := by
  simp [Instr.typeAssert, run_underlying Tryd.underlying57]
theorem as62_62 (v : Value) (x : TypeId) (w : World) : (Instr.typeAssert (.iface 155 v) x 155 true).run Tryd.prog w = .ok (.tuple #[v, .bool true]) w := by
  simp [Instr.typeAssert, run_underlying Tryd.underlying155]
theorem as66_66 (v : Value) (x : TypeId) (w : World) : (Instr.typeAssert (.iface 157 v) x 157 true).run Tryd.prog w = .ok (.tuple #[v, .bool true]) w := by
  simp [Instr.typeAssert, run_underlying Tryd.underlying157]
theorem as62_38 (v : Value) (x : TypeId) (w : World) : (Instr.typeAssert (.iface 155 v) x 57 true).run Tryd.prog w = .ok (.tuple #[.int .i64 0, .bool false]) w := by
  simp [Instr.typeAssert, run_underlying Tryd.underlying57, Tryd.zeroValue57]
theorem as66_38 (v : Value) (x : TypeId) (w : World) : (Instr.typeAssert (.iface 157 v) x 57 true).run Tryd.prog w = .ok (.tuple #[.int .i64 0, .bool false]) w := by
  simp [Instr.typeAssert, run_underlying Tryd.underlying57, Tryd.zeroValue57]
theorem as38_62 (v : Value) (x : TypeId) (w : World) : (Instr.typeAssert (.iface 57 v) x 155 true).run Tryd.prog w = .ok (.tuple #[.agg #[.int .i64 0, .nilIface], .bool false]) w := by
  simp [Instr.typeAssert, run_underlying Tryd.underlying155, Tryd.zeroValue155]
theorem as66_62 (v : Value) (x : TypeId) (w : World) : (Instr.typeAssert (.iface 157 v) x 155 true).run Tryd.prog w = .ok (.tuple #[.agg #[.int .i64 0, .nilIface], .bool false]) w := by
  simp [Instr.typeAssert, run_underlying Tryd.underlying155, Tryd.zeroValue155]
theorem as38_66 (v : Value) (x : TypeId) (w : World) : (Instr.typeAssert (.iface 57 v) x 157 true).run Tryd.prog w = .ok (.tuple #[.agg #[.nilIface, .int .i64 0], .bool false]) w := by
  simp [Instr.typeAssert, run_underlying Tryd.underlying157, Tryd.zeroValue157]
theorem as62_66 (v : Value) (x : TypeId) (w : World) : (Instr.typeAssert (.iface 155 v) x 157 true).run Tryd.prog w = .ok (.tuple #[.agg #[.nilIface, .int .i64 0], .bool false]) w := by
  simp [Instr.typeAssert, run_underlying Tryd.underlying157, Tryd.zeroValue157]
theorem as38_107 (v : Value) (x : TypeId) (w : World) : (Instr.typeAssert (.iface 57 v) x 147 true).run Tryd.prog w = .ok (.tuple #[.nilIface, .bool false]) w :=
  run_typeAssert_lacksB Tryd.underlying147 (by kernel_rfl) (by kernel_rfl) v x w
theorem as38_109 (v : Value) (x : TypeId) (w : World) : (Instr.typeAssert (.iface 57 v) x 149 true).run Tryd.prog w = .ok (.tuple #[.nilIface, .bool false]) w :=
  run_typeAssert_lacksB Tryd.underlying149 (by kernel_rfl) (by kernel_rfl) v x w
theorem as62_107 (v : Value) (x : TypeId) (w : World) : (Instr.typeAssert (.iface 155 v) x 147 true).run Tryd.prog w = .ok (.tuple #[.iface 155 v, .bool true]) w :=
  run_typeAssert_hasB Tryd.underlying147 (by kernel_rfl) v x w
theorem as66_107 (v : Value) (x : TypeId) (w : World) : (Instr.typeAssert (.iface 157 v) x 147 true).run Tryd.prog w = .ok (.tuple #[.iface 157 v, .bool true]) w :=
  run_typeAssert_hasB Tryd.underlying147 (by kernel_rfl) v x w

attribute [go_sem] as38_38 as62_62 as66_66 as62_38 as66_38 as38_62 as66_62 as38_66 as62_66 as38_107 as38_109 as62_107 as66_107

theorem meth_over (x y : Value) (w : World) : (method 293 155 (.agg #[x, y]) "Unwrap").run Tryd.prog w = .ok (140, .agg #[x, y]) w := by kernel_rfl
theorem meth_at (x y : Value) (w : World) : (method 293 157 (.agg #[x, y]) "Unwrap").run Tryd.prog w = .ok (142, .agg #[x, y]) w := by kernel_rfl
attribute [go_sem] meth_over meth_at

set_option maxRecDepth 100000 in
set_option maxHeartbeats 400000 in
theorem stranger_code (v : Value) (w : World) : Calls Tryd.prog 74 #[.iface 57 v] w fun e w' => e = .returned (.bool false) ∧ w = w' := by
  go_enter Tryd.func74, Tryd.ntmps74
  go_wp2
  go_ret
  exact ⟨rfl, rfl⟩

set_option maxRecDepth 100000 in
set_option maxHeartbeats 400000 in
theorem stranger_over (v : Value) (w : World) : Calls Tryd.prog 74 #[.iface 155 v] w fun e w' => e = .returned (.bool false) ∧ w = w' := by
  go_enter Tryd.func74, Tryd.ntmps74
  go_wp2
  go_ret
  exact ⟨rfl, rfl⟩

set_option maxRecDepth 100000 in
set_option maxHeartbeats 400000 in
theorem stranger_at (v : Value) (w : World) : Calls Tryd.prog 74 #[.iface 157 v] w fun e w' => e = .returned (.bool false) ∧ w = w' := by
  go_enter Tryd.func74, Tryd.ntmps74
  go_wp2
  go_ret
  exact ⟨rfl, rfl⟩

set_option maxRecDepth 100000 in
set_option maxHeartbeats 400000 in
theorem deferred_recover (w : World) : CallsD Tryd.prog 104 #[] .returning w fun e u' w' => u' = .returning ∧ (e = .returned (.tuple #[]) ∧ w = w') := by
  refine callsD_of_wpS Tryd.func104 rfl fun c₀ cs hu => ?_
  apply wpS_region; simp [wpOpsS, go_sem, recoverD, hu, Tryd.ntmps104]
  cases c₀
  simp_all [bodyPostS, results, Tryd.results104]

set_option maxRecDepth 100000 in
set_option maxHeartbeats 400000 in
theorem wrapped_code (v : Value) (w : World) : Calls Tryd.prog 98 #[.iface 57 v] w fun e w' => e = .returned (.slice none 0 0) ∧ w = w' := by
  go_enter_defers Tryd.func98, Tryd.ntmps98
  go_wp2
  refine leaves_cons (f := 104) (args := #[]) (by simp) (by simp [go_sem]) ?_
  refine (deferred_recover _).mono ?_
  rintro e u' w'' ⟨rfl, rfl, rfl⟩
  exact ⟨_, results_tmp rfl _ _ _, rfl, rfl⟩

set_option maxRecDepth 100000 in
set_option maxHeartbeats 400000 in
theorem unwrap_over (c : Int) (t : TypeId) (u : Value) (w : World) : Calls Tryd.prog 140 #[.agg #[.int .i64 c, .iface t u]] w fun e w' => e = .returned (.iface t u) ∧ w' = w.alloc (.cells #[.int .i64 c, .iface t u] 155) := by
  go_enter Tryd.func140, Tryd.ntmps140
  go_wp2
  go_ret
  exact ⟨rfl, rfl⟩

set_option maxRecDepth 100000 in
set_option maxHeartbeats 400000 in
theorem wrapped_over (c : Int) (t : TypeId) (u : Value) (w : World) : Calls Tryd.prog 98 #[.iface 155 (.agg #[.int .i64 c, .iface t u])] w fun e w' => e = .returned (.slice (some ⟨w.heap.size + 1, 0, none⟩) 1 1) ∧ w' = (w.alloc (.cells #[.int .i64 c, .iface t u] 155)).alloc (.cells #[.iface t u] 53) := by
  go_enter_defers Tryd.func98, Tryd.ntmps98
  go_wp2_with (go_at_call 140; refine (unwrap_over _ _ _ _).mono ?_; rintro e w' ⟨rfl, rfl⟩)
  refine leaves_cons (f := 104) (args := #[]) (by simp) (by simp [go_sem]) ?_
  refine (deferred_recover _).mono ?_
  rintro e u' w'' ⟨rfl, rfl, rfl⟩
  exact ⟨_, results_tmp rfl _ _ _, rfl, rfl⟩

set_option maxRecDepth 100000 in
set_option maxHeartbeats 400000 in
theorem unwrap_at (n : Int) (t : TypeId) (u : Value) (w : World) : Calls Tryd.prog 142 #[.agg #[.iface t u, .int .i64 n]] w fun e w' => e = .returned (.iface t u) ∧ w' = w.alloc (.cells #[.iface t u, .int .i64 n] 157) := by
  go_enter Tryd.func142, Tryd.ntmps142
  go_wp2
  go_ret
  exact ⟨rfl, rfl⟩

set_option maxRecDepth 100000 in
set_option maxHeartbeats 400000 in
theorem wrapped_at (n : Int) (t : TypeId) (u : Value) (w : World) : Calls Tryd.prog 98 #[.iface 157 (.agg #[.iface t u, .int .i64 n])] w fun e w' => e = .returned (.slice (some ⟨w.heap.size + 1, 0, none⟩) 1 1) ∧ w' = (w.alloc (.cells #[.iface t u, .int .i64 n] 157)).alloc (.cells #[.iface t u] 53) := by
  go_enter_defers Tryd.func98, Tryd.ntmps98
  go_wp2_with (go_at_call 142; refine (unwrap_at _ _ _ _).mono ?_; rintro e w' ⟨rfl, rfl⟩)
  refine leaves_cons (f := 104) (args := #[]) (by simp) (by simp [go_sem]) ?_
  refine (deferred_recover _).mono ?_
  rintro e u' w'' ⟨rfl, rfl, rfl⟩
  exact ⟨_, results_tmp rfl _ _ _, rfl, rfl⟩

set_option maxRecDepth 100000 in
set_option maxHeartbeats 400000 in
theorem stranger_nil (w : World) : Calls Tryd.prog 74 #[.nilIface] w fun e w' => e = .returned (.bool true) ∧ w = w' := by
  have h1 : ∀ (x : TypeId) (w : World), (Instr.typeAssert .nilIface x 57 true).run Tryd.prog w = .ok (.tuple #[.int .i64 0, .bool false]) w := fun x w => by
    simp [Instr.typeAssert, run_underlying Tryd.underlying57, Tryd.zeroValue57]
  have h2 : ∀ (x : TypeId) (w : World), (Instr.typeAssert .nilIface x 155 true).run Tryd.prog w = .ok (.tuple #[.agg #[.int .i64 0, .nilIface], .bool false]) w := fun x w => by
    simp [Instr.typeAssert, run_underlying Tryd.underlying155, Tryd.zeroValue155]
  have h3 : ∀ (x : TypeId) (w : World), (Instr.typeAssert .nilIface x 157 true).run Tryd.prog w = .ok (.tuple #[.agg #[.nilIface, .int .i64 0], .bool false]) w := fun x w => by
    simp [Instr.typeAssert, run_underlying Tryd.underlying157, Tryd.zeroValue157]
  go_enter Tryd.func74, Tryd.ntmps74
  go_wp2
  go_ret
  exact ⟨rfl, rfl⟩

end Go.Proofs.YtojlimpooeehhaaDoor.Cs
