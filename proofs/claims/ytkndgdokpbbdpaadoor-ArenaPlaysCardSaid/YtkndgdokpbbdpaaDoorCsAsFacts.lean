/- errors.As finds the topmost code of a trouble. -/
import Derived.Test.YtkndgdokpbbdpaaDoorCsKnown
namespace Go.Proofs.YtkndgdokpbbdpaaDoor.Cs
open Go.RowKit Go.Extern.Stop Go.Stop Go.Extern


theorem rl_valueOf (a : Addr) (w : World) : (callFunc 42 #[.iface 74 (.pointer (some a))]).run Tryd.prog w = .ok (.value (.agg #[.pointer (some ⟨1, 74, none⟩), .pointer (some ⟨w.heap.size, 0, none⟩), .int .u64 150])) (w.alloc (.cells #[.pointer (some a)] 74)) := by kernel_rfl
theorem rl_type (a : Addr) (w : World) : (callFunc 43 #[.agg #[.pointer (some ⟨1, 74, none⟩), .pointer (some a), .int .u64 150]]).run Tryd.prog w = .ok (.value (.iface 110 (.agg #[.pointer (some ⟨1, 74, none⟩)]))) w := by kernel_rfl
theorem rl_mKind (h : Value) (w : World) : (Go.method 248 110 (.agg #[h]) "Kind").run Tryd.prog w = .ok (69, h) w := by kernel_rfl
theorem rl_kind52 (w : World) : (callFunc 69 #[.pointer (some ⟨1, 74, none⟩)]).run Tryd.prog w = .ok (.value (.int .u8 22)) w := by kernel_rfl
theorem rl_kind38 (w : World) : (callFunc 69 #[.pointer (some ⟨1, 42, none⟩)]).run Tryd.prog w = .ok (.value (.int .u8 2)) w := by kernel_rfl
theorem rl_mElem (h : Value) (w : World) : (Go.method 248 110 (.agg #[h]) "Elem").run Tryd.prog w = .ok (84, .agg #[h]) w := by kernel_rfl
theorem rl_mImplements (h : Value) (w : World) : (Go.method 248 110 (.agg #[h]) "Implements").run Tryd.prog w = .ok (85, .agg #[h]) w := by kernel_rfl
theorem rl_mAssignable (h : Value) (w : World) : (Go.method 248 110 (.agg #[h]) "AssignableTo").run Tryd.prog w = .ok (82, .agg #[h]) w := by kernel_rfl
theorem rl_elem52 (w : World) : (callFunc 84 #[.agg #[.pointer (some ⟨1, 74, none⟩)]]).run Tryd.prog w = .ok (.value (.iface 110 (.agg #[.pointer (some ⟨1, 42, none⟩)]))) w := by kernel_rfl
theorem rl_implements38 (w : World) : (callFunc 85 #[.agg #[.pointer (some ⟨1, 42, none⟩)], .iface 110 (.agg #[.pointer (some ⟨1, 40, none⟩)])]).run Tryd.prog w = .ok (.value (.bool true)) w := by kernel_rfl
theorem rl_typeOf38 (v : Value) (w : World) : (callFunc 52 #[.iface 42 v]).run Tryd.prog w = .ok (.value (.iface 110 (.agg #[.pointer (some ⟨1, 42, none⟩)]))) w := by kernel_rfl
theorem rl_typeOf62 (v : Value) (w : World) : (callFunc 52 #[.iface 105 v]).run Tryd.prog w = .ok (.value (.iface 110 (.agg #[.pointer (some ⟨1, 105, none⟩)]))) w := by kernel_rfl
theorem rl_typeOf66 (v : Value) (w : World) : (callFunc 52 #[.iface 69 v]).run Tryd.prog w = .ok (.value (.iface 110 (.agg #[.pointer (some ⟨1, 69, none⟩)]))) w := by kernel_rfl
theorem rl_assign38 (w : World) : (callFunc 82 #[.agg #[.pointer (some ⟨1, 42, none⟩)], .iface 110 (.agg #[.pointer (some ⟨1, 42, none⟩)])]).run Tryd.prog w = .ok (.value (.bool true)) w := by kernel_rfl
theorem rl_assign62 (w : World) : (callFunc 82 #[.agg #[.pointer (some ⟨1, 105, none⟩)], .iface 110 (.agg #[.pointer (some ⟨1, 42, none⟩)])]).run Tryd.prog w = .ok (.value (.bool false)) w := by kernel_rfl
theorem rl_assign66 (w : World) : (callFunc 82 #[.agg #[.pointer (some ⟨1, 69, none⟩)], .iface 110 (.agg #[.pointer (some ⟨1, 42, none⟩)])]).run Tryd.prog w = .ok (.value (.bool false)) w := by kernel_rfl
theorem rl_valueOf38 (c : Int) (w : World) : (callFunc 42 #[.iface 42 (.int .i64 c)]).run Tryd.prog w = .ok (.value (.agg #[.pointer (some ⟨1, 42, none⟩), .pointer (some ⟨w.heap.size, 0, none⟩), .int .u64 130])) (w.alloc (.cells #[.int .i64 c] 42)) := by kernel_rfl

end Go.Proofs.YtkndgdokpbbdpaaDoor.Cs
