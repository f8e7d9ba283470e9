/- errors.As finds the topmost code of a trouble. -/
import Derived.Test.YtohncolnnkmljaaDoorCsKnown
namespace Go.Proofs.YtohncolnnkmljaaDoor.Cs
open Go.RowKit Go.Extern.Stop Go.Stop Go.Extern


theorem rl_valueOf (a : Addr) (w : World) : (callFunc 72 #[.iface 86 (.pointer (some a))]).run Tryd.prog w = .ok (.value (.agg #[.pointer (some ⟨2, 86, none⟩), .pointer (some ⟨w.heap.size, 0, none⟩), .int .u64 150])) (w.alloc (.cells #[.pointer (some a)] 86)) := by kernel_rfl
theorem rl_type (a : Addr) (w : World) : (callFunc 73 #[.agg #[.pointer (some ⟨2, 86, none⟩), .pointer (some a), .int .u64 150]]).run Tryd.prog w = .ok (.value (.iface 144 (.agg #[.pointer (some ⟨2, 86, none⟩)]))) w := by kernel_rfl
theorem rl_mKind (h : Value) (w : World) : (Go.method 289 144 (.agg #[h]) "Kind").run Tryd.prog w = .ok (105, h) w := by kernel_rfl
theorem rl_kind52 (w : World) : (callFunc 105 #[.pointer (some ⟨2, 86, none⟩)]).run Tryd.prog w = .ok (.value (.int .u8 22)) w := by kernel_rfl
theorem rl_kind38 (w : World) : (callFunc 105 #[.pointer (some ⟨2, 54, none⟩)]).run Tryd.prog w = .ok (.value (.int .u8 2)) w := by kernel_rfl
theorem rl_mElem (h : Value) (w : World) : (Go.method 289 144 (.agg #[h]) "Elem").run Tryd.prog w = .ok (118, .agg #[h]) w := by kernel_rfl
theorem rl_mImplements (h : Value) (w : World) : (Go.method 289 144 (.agg #[h]) "Implements").run Tryd.prog w = .ok (119, .agg #[h]) w := by kernel_rfl
theorem rl_mAssignable (h : Value) (w : World) : (Go.method 289 144 (.agg #[h]) "AssignableTo").run Tryd.prog w = .ok (116, .agg #[h]) w := by kernel_rfl
theorem rl_elem52 (w : World) : (callFunc 118 #[.agg #[.pointer (some ⟨2, 86, none⟩)]]).run Tryd.prog w = .ok (.value (.iface 144 (.agg #[.pointer (some ⟨2, 54, none⟩)]))) w := by kernel_rfl
theorem rl_implements38 (w : World) : (callFunc 119 #[.agg #[.pointer (some ⟨2, 54, none⟩)], .iface 144 (.agg #[.pointer (some ⟨2, 49, none⟩)])]).run Tryd.prog w = .ok (.value (.bool true)) w := by kernel_rfl
theorem rl_typeOf38 (v : Value) (w : World) : (callFunc 86 #[.iface 54 v]).run Tryd.prog w = .ok (.value (.iface 144 (.agg #[.pointer (some ⟨2, 54, none⟩)]))) w := by kernel_rfl
theorem rl_typeOf62 (v : Value) (w : World) : (callFunc 86 #[.iface 157 v]).run Tryd.prog w = .ok (.value (.iface 144 (.agg #[.pointer (some ⟨2, 157, none⟩)]))) w := by kernel_rfl
theorem rl_typeOf66 (v : Value) (w : World) : (callFunc 86 #[.iface 105 v]).run Tryd.prog w = .ok (.value (.iface 144 (.agg #[.pointer (some ⟨2, 105, none⟩)]))) w := by kernel_rfl
theorem rl_assign38 (w : World) : (callFunc 116 #[.agg #[.pointer (some ⟨2, 54, none⟩)], .iface 144 (.agg #[.pointer (some ⟨2, 54, none⟩)])]).run Tryd.prog w = .ok (.value (.bool true)) w := by kernel_rfl
theorem rl_assign62 (w : World) : (callFunc 116 #[.agg #[.pointer (some ⟨2, 157, none⟩)], .iface 144 (.agg #[.pointer (some ⟨2, 54, none⟩)])]).run Tryd.prog w = .ok (.value (.bool false)) w := by kernel_rfl
theorem rl_assign66 (w : World) : (callFunc 116 #[.agg #[.pointer (some ⟨2, 105, none⟩)], .iface 144 (.agg #[.pointer (some ⟨2, 54, none⟩)])]).run Tryd.prog w = .ok (.value (.bool false)) w := by kernel_rfl
theorem rl_valueOf38 (c : Int) (w : World) : (callFunc 72 #[.iface 54 (.int .i64 c)]).run Tryd.prog w = .ok (.value (.agg #[.pointer (some ⟨2, 54, none⟩), .pointer (some ⟨w.heap.size, 0, none⟩), .int .u64 130])) (w.alloc (.cells #[.int .i64 c] 54)) := by kernel_rfl

end Go.Proofs.YtohncolnnkmljaaDoor.Cs
