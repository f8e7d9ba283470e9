/- errors.As finds the topmost code of a trouble. -/
import Derived.Test.YtfafffeeembceaaDoorCsKnown
namespace Go.Proofs.YtfafffeeembceaaDoor.Cs
open Go.RowKit Go.Extern.Stop Go.Stop Go.Extern


theorem rl_valueOf (a : Addr) (w : World) : (callFunc 40 #[.iface 66 (.pointer (some a))]).run Tryd.prog w = .ok (.value (.agg #[.pointer (some ⟨1, 66, none⟩), .pointer (some ⟨w.heap.size, 0, none⟩), .int .u64 150])) (w.alloc (.cells #[.pointer (some a)] 66)) := by kernel_rfl
theorem rl_type (a : Addr) (w : World) : (callFunc 41 #[.agg #[.pointer (some ⟨1, 66, none⟩), .pointer (some a), .int .u64 150]]).run Tryd.prog w = .ok (.value (.iface 93 (.agg #[.pointer (some ⟨1, 66, none⟩)]))) w := by kernel_rfl
theorem rl_mKind (h : Value) (w : World) : (Go.method 244 93 (.agg #[h]) "Kind").run Tryd.prog w = .ok (73, h) w := by kernel_rfl
theorem rl_kind52 (w : World) : (callFunc 73 #[.pointer (some ⟨1, 66, none⟩)]).run Tryd.prog w = .ok (.value (.int .u8 22)) w := by kernel_rfl
theorem rl_kind38 (w : World) : (callFunc 73 #[.pointer (some ⟨1, 43, none⟩)]).run Tryd.prog w = .ok (.value (.int .u8 2)) w := by kernel_rfl
theorem rl_mElem (h : Value) (w : World) : (Go.method 244 93 (.agg #[h]) "Elem").run Tryd.prog w = .ok (83, .agg #[h]) w := by kernel_rfl
theorem rl_mImplements (h : Value) (w : World) : (Go.method 244 93 (.agg #[h]) "Implements").run Tryd.prog w = .ok (84, .agg #[h]) w := by kernel_rfl
theorem rl_mAssignable (h : Value) (w : World) : (Go.method 244 93 (.agg #[h]) "AssignableTo").run Tryd.prog w = .ok (81, .agg #[h]) w := by kernel_rfl
theorem rl_elem52 (w : World) : (callFunc 83 #[.agg #[.pointer (some ⟨1, 66, none⟩)]]).run Tryd.prog w = .ok (.value (.iface 93 (.agg #[.pointer (some ⟨1, 43, none⟩)]))) w := by kernel_rfl
theorem rl_implements38 (w : World) : (callFunc 84 #[.agg #[.pointer (some ⟨1, 43, none⟩)], .iface 93 (.agg #[.pointer (some ⟨1, 38, none⟩)])]).run Tryd.prog w = .ok (.value (.bool true)) w := by kernel_rfl
theorem rl_typeOf38 (v : Value) (w : World) : (callFunc 52 #[.iface 43 v]).run Tryd.prog w = .ok (.value (.iface 93 (.agg #[.pointer (some ⟨1, 43, none⟩)]))) w := by kernel_rfl
theorem rl_typeOf62 (v : Value) (w : World) : (callFunc 52 #[.iface 109 v]).run Tryd.prog w = .ok (.value (.iface 93 (.agg #[.pointer (some ⟨1, 109, none⟩)]))) w := by kernel_rfl
theorem rl_typeOf66 (v : Value) (w : World) : (callFunc 52 #[.iface 111 v]).run Tryd.prog w = .ok (.value (.iface 93 (.agg #[.pointer (some ⟨1, 111, none⟩)]))) w := by kernel_rfl
theorem rl_assign38 (w : World) : (callFunc 81 #[.agg #[.pointer (some ⟨1, 43, none⟩)], .iface 93 (.agg #[.pointer (some ⟨1, 43, none⟩)])]).run Tryd.prog w = .ok (.value (.bool true)) w := by kernel_rfl
theorem rl_assign62 (w : World) : (callFunc 81 #[.agg #[.pointer (some ⟨1, 109, none⟩)], .iface 93 (.agg #[.pointer (some ⟨1, 43, none⟩)])]).run Tryd.prog w = .ok (.value (.bool false)) w := by kernel_rfl
theorem rl_assign66 (w : World) : (callFunc 81 #[.agg #[.pointer (some ⟨1, 111, none⟩)], .iface 93 (.agg #[.pointer (some ⟨1, 43, none⟩)])]).run Tryd.prog w = .ok (.value (.bool false)) w := by kernel_rfl
theorem rl_valueOf38 (c : Int) (w : World) : (callFunc 40 #[.iface 43 (.int .i64 c)]).run Tryd.prog w = .ok (.value (.agg #[.pointer (some ⟨1, 43, none⟩), .pointer (some ⟨w.heap.size, 0, none⟩), .int .u64 130])) (w.alloc (.cells #[.int .i64 c] 43)) := by kernel_rfl

end Go.Proofs.YtfafffeeembceaaDoor.Cs
