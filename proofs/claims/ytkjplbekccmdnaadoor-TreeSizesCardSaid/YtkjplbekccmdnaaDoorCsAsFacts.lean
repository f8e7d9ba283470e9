/- errors.As finds the topmost code of a trouble. -/
import Derived.Test.YtkjplbekccmdnaaDoorCsKnown
namespace Go.Proofs.YtkjplbekccmdnaaDoor.Cs
open Go.RowKit Go.Extern.Stop Go.Stop Go.Extern


theorem rl_valueOf (a : Addr) (w : World) : (callFunc 50 #[.iface 72 (.pointer (some a))]).run Tryd.prog w = .ok (.value (.agg #[.pointer (some ⟨1, 72, none⟩), .pointer (some ⟨w.heap.size, 0, none⟩), .int .u64 150])) (w.alloc (.cells #[.pointer (some a)] 72)) := by kernel_rfl
theorem rl_type (a : Addr) (w : World) : (callFunc 51 #[.agg #[.pointer (some ⟨1, 72, none⟩), .pointer (some a), .int .u64 150]]).run Tryd.prog w = .ok (.value (.iface 116 (.agg #[.pointer (some ⟨1, 72, none⟩)]))) w := by kernel_rfl
theorem rl_mKind (h : Value) (w : World) : (Go.method 270 116 (.agg #[h]) "Kind").run Tryd.prog w = .ok (96, h) w := by kernel_rfl
theorem rl_kind52 (w : World) : (callFunc 96 #[.pointer (some ⟨1, 72, none⟩)]).run Tryd.prog w = .ok (.value (.int .u8 22)) w := by kernel_rfl
theorem rl_kind38 (w : World) : (callFunc 96 #[.pointer (some ⟨1, 49, none⟩)]).run Tryd.prog w = .ok (.value (.int .u8 2)) w := by kernel_rfl
theorem rl_mElem (h : Value) (w : World) : (Go.method 270 116 (.agg #[h]) "Elem").run Tryd.prog w = .ok (106, .agg #[h]) w := by kernel_rfl
theorem rl_mImplements (h : Value) (w : World) : (Go.method 270 116 (.agg #[h]) "Implements").run Tryd.prog w = .ok (107, .agg #[h]) w := by kernel_rfl
theorem rl_mAssignable (h : Value) (w : World) : (Go.method 270 116 (.agg #[h]) "AssignableTo").run Tryd.prog w = .ok (104, .agg #[h]) w := by kernel_rfl
theorem rl_elem52 (w : World) : (callFunc 106 #[.agg #[.pointer (some ⟨1, 72, none⟩)]]).run Tryd.prog w = .ok (.value (.iface 116 (.agg #[.pointer (some ⟨1, 49, none⟩)]))) w := by kernel_rfl
theorem rl_implements38 (w : World) : (callFunc 107 #[.agg #[.pointer (some ⟨1, 49, none⟩)], .iface 116 (.agg #[.pointer (some ⟨1, 52, none⟩)])]).run Tryd.prog w = .ok (.value (.bool true)) w := by kernel_rfl
theorem rl_typeOf38 (v : Value) (w : World) : (callFunc 72 #[.iface 49 v]).run Tryd.prog w = .ok (.value (.iface 116 (.agg #[.pointer (some ⟨1, 49, none⟩)]))) w := by kernel_rfl
theorem rl_typeOf62 (v : Value) (w : World) : (callFunc 72 #[.iface 132 v]).run Tryd.prog w = .ok (.value (.iface 116 (.agg #[.pointer (some ⟨1, 132, none⟩)]))) w := by kernel_rfl
theorem rl_typeOf66 (v : Value) (w : World) : (callFunc 72 #[.iface 134 v]).run Tryd.prog w = .ok (.value (.iface 116 (.agg #[.pointer (some ⟨1, 134, none⟩)]))) w := by kernel_rfl
theorem rl_assign38 (w : World) : (callFunc 104 #[.agg #[.pointer (some ⟨1, 49, none⟩)], .iface 116 (.agg #[.pointer (some ⟨1, 49, none⟩)])]).run Tryd.prog w = .ok (.value (.bool true)) w := by kernel_rfl
theorem rl_assign62 (w : World) : (callFunc 104 #[.agg #[.pointer (some ⟨1, 132, none⟩)], .iface 116 (.agg #[.pointer (some ⟨1, 49, none⟩)])]).run Tryd.prog w = .ok (.value (.bool false)) w := by kernel_rfl
theorem rl_assign66 (w : World) : (callFunc 104 #[.agg #[.pointer (some ⟨1, 134, none⟩)], .iface 116 (.agg #[.pointer (some ⟨1, 49, none⟩)])]).run Tryd.prog w = .ok (.value (.bool false)) w := by kernel_rfl
theorem rl_valueOf38 (c : Int) (w : World) : (callFunc 50 #[.iface 49 (.int .i64 c)]).run Tryd.prog w = .ok (.value (.agg #[.pointer (some ⟨1, 49, none⟩), .pointer (some ⟨w.heap.size, 0, none⟩), .int .u64 130])) (w.alloc (.cells #[.int .i64 c] 49)) := by kernel_rfl

end Go.Proofs.YtkjplbekccmdnaaDoor.Cs
