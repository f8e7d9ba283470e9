/- errors.As finds the topmost code of a trouble. -/
import Derived.Test.YtojlimpooeehhaaDoorCsKnown
namespace Go.Proofs.YtojlimpooeehhaaDoor.Cs
open Go.RowKit Go.Extern.Stop Go.Stop Go.Extern


theorem rl_valueOf (a : Addr) (w : World) : (callFunc 69 #[.iface 90 (.pointer (some a))]).run Tryd.prog w = .ok (.value (.agg #[.pointer (some ⟨1, 90, none⟩), .pointer (some ⟨w.heap.size, 0, none⟩), .int .u64 150])) (w.alloc (.cells #[.pointer (some a)] 90)) := by kernel_rfl
theorem rl_type (a : Addr) (w : World) : (callFunc 70 #[.agg #[.pointer (some ⟨1, 90, none⟩), .pointer (some a), .int .u64 150]]).run Tryd.prog w = .ok (.value (.iface 139 (.agg #[.pointer (some ⟨1, 90, none⟩)]))) w := by kernel_rfl
theorem rl_mKind (h : Value) (w : World) : (Go.method 293 139 (.agg #[h]) "Kind").run Tryd.prog w = .ok (120, h) w := by kernel_rfl
theorem rl_kind52 (w : World) : (callFunc 120 #[.pointer (some ⟨1, 90, none⟩)]).run Tryd.prog w = .ok (.value (.int .u8 22)) w := by kernel_rfl
theorem rl_kind38 (w : World) : (callFunc 120 #[.pointer (some ⟨1, 57, none⟩)]).run Tryd.prog w = .ok (.value (.int .u8 2)) w := by kernel_rfl
theorem rl_mElem (h : Value) (w : World) : (Go.method 293 139 (.agg #[h]) "Elem").run Tryd.prog w = .ok (130, .agg #[h]) w := by kernel_rfl
theorem rl_mImplements (h : Value) (w : World) : (Go.method 293 139 (.agg #[h]) "Implements").run Tryd.prog w = .ok (131, .agg #[h]) w := by kernel_rfl
theorem rl_mAssignable (h : Value) (w : World) : (Go.method 293 139 (.agg #[h]) "AssignableTo").run Tryd.prog w = .ok (128, .agg #[h]) w := by kernel_rfl
theorem rl_elem52 (w : World) : (callFunc 130 #[.agg #[.pointer (some ⟨1, 90, none⟩)]]).run Tryd.prog w = .ok (.value (.iface 139 (.agg #[.pointer (some ⟨1, 57, none⟩)]))) w := by kernel_rfl
theorem rl_implements38 (w : World) : (callFunc 131 #[.agg #[.pointer (some ⟨1, 57, none⟩)], .iface 139 (.agg #[.pointer (some ⟨1, 53, none⟩)])]).run Tryd.prog w = .ok (.value (.bool true)) w := by kernel_rfl
theorem rl_typeOf38 (v : Value) (w : World) : (callFunc 94 #[.iface 57 v]).run Tryd.prog w = .ok (.value (.iface 139 (.agg #[.pointer (some ⟨1, 57, none⟩)]))) w := by kernel_rfl
theorem rl_typeOf62 (v : Value) (w : World) : (callFunc 94 #[.iface 155 v]).run Tryd.prog w = .ok (.value (.iface 139 (.agg #[.pointer (some ⟨1, 155, none⟩)]))) w := by kernel_rfl
theorem rl_typeOf66 (v : Value) (w : World) : (callFunc 94 #[.iface 157 v]).run Tryd.prog w = .ok (.value (.iface 139 (.agg #[.pointer (some ⟨1, 157, none⟩)]))) w := by kernel_rfl
theorem rl_assign38 (w : World) : (callFunc 128 #[.agg #[.pointer (some ⟨1, 57, none⟩)], .iface 139 (.agg #[.pointer (some ⟨1, 57, none⟩)])]).run Tryd.prog w = .ok (.value (.bool true)) w := by kernel_rfl
theorem rl_assign62 (w : World) : (callFunc 128 #[.agg #[.pointer (some ⟨1, 155, none⟩)], .iface 139 (.agg #[.pointer (some ⟨1, 57, none⟩)])]).run Tryd.prog w = .ok (.value (.bool false)) w := by kernel_rfl
theorem rl_assign66 (w : World) : (callFunc 128 #[.agg #[.pointer (some ⟨1, 157, none⟩)], .iface 139 (.agg #[.pointer (some ⟨1, 57, none⟩)])]).run Tryd.prog w = .ok (.value (.bool false)) w := by kernel_rfl
theorem rl_valueOf38 (c : Int) (w : World) : (callFunc 69 #[.iface 57 (.int .i64 c)]).run Tryd.prog w = .ok (.value (.agg #[.pointer (some ⟨1, 57, none⟩), .pointer (some ⟨w.heap.size, 0, none⟩), .int .u64 130])) (w.alloc (.cells #[.int .i64 c] 57)) := by kernel_rfl

end Go.Proofs.YtojlimpooeehhaaDoor.Cs
