/- errors.As finds the topmost code of a trouble. -/
import Derived.Test.YtplkeakkjkkfmaaDoorIs
namespace Go.Proofs.YtplkeakkjkkfmaaDoor
open Go.RowKit Go.Extern.Stop Go.Stop Go.Extern

theorem rl_valueOf (a : Addr) (w : World) : (callFunc 37 #[.iface 52 (.pointer (some a))]).run Tryd.prog w = .ok (.value (.agg #[.pointer (some ⟨4, 52, none⟩), .pointer (some ⟨w.heap.size, 0, none⟩), .int .u64 150])) (w.alloc (.cells #[.pointer (some a)] 52)) := by kernel_rfl
theorem rl_type (a : Addr) (w : World) : (callFunc 38 #[.agg #[.pointer (some ⟨4, 52, none⟩), .pointer (some a), .int .u64 150]]).run Tryd.prog w = .ok (.value (.iface 100 (.agg #[.pointer (some ⟨4, 52, none⟩)]))) w := by kernel_rfl
theorem rl_mKind (h : Value) (w : World) : (Go.method 260 100 (.agg #[h]) "Kind").run Tryd.prog w = .ok (81, h) w := by kernel_rfl
theorem rl_kind52 (w : World) : (callFunc 81 #[.pointer (some ⟨4, 52, none⟩)]).run Tryd.prog w = .ok (.value (.int .u8 22)) w := by kernel_rfl
theorem rl_kind38 (w : World) : (callFunc 81 #[.pointer (some ⟨4, 38, none⟩)]).run Tryd.prog w = .ok (.value (.int .u8 2)) w := by kernel_rfl
theorem rl_mElem (h : Value) (w : World) : (Go.method 260 100 (.agg #[h]) "Elem").run Tryd.prog w = .ok (97, .agg #[h]) w := by kernel_rfl
theorem rl_mImplements (h : Value) (w : World) : (Go.method 260 100 (.agg #[h]) "Implements").run Tryd.prog w = .ok (98, .agg #[h]) w := by kernel_rfl
theorem rl_mAssignable (h : Value) (w : World) : (Go.method 260 100 (.agg #[h]) "AssignableTo").run Tryd.prog w = .ok (95, .agg #[h]) w := by kernel_rfl
theorem rl_elem52 (w : World) : (callFunc 97 #[.agg #[.pointer (some ⟨4, 52, none⟩)]]).run Tryd.prog w = .ok (.value (.iface 100 (.agg #[.pointer (some ⟨4, 38, none⟩)]))) w := by kernel_rfl
theorem rl_implements38 (w : World) : (callFunc 98 #[.agg #[.pointer (some ⟨4, 38, none⟩)], .iface 100 (.agg #[.pointer (some ⟨4, 25, none⟩)])]).run Tryd.prog w = .ok (.value (.bool true)) w := by kernel_rfl
theorem rl_typeOf38 (v : Value) (w : World) : (callFunc 41 #[.iface 38 v]).run Tryd.prog w = .ok (.value (.iface 100 (.agg #[.pointer (some ⟨4, 38, none⟩)]))) w := by kernel_rfl
theorem rl_typeOf62 (v : Value) (w : World) : (callFunc 41 #[.iface 62 v]).run Tryd.prog w = .ok (.value (.iface 100 (.agg #[.pointer (some ⟨4, 62, none⟩)]))) w := by kernel_rfl
theorem rl_typeOf66 (v : Value) (w : World) : (callFunc 41 #[.iface 66 v]).run Tryd.prog w = .ok (.value (.iface 100 (.agg #[.pointer (some ⟨4, 66, none⟩)]))) w := by kernel_rfl
theorem rl_assign38 (w : World) : (callFunc 95 #[.agg #[.pointer (some ⟨4, 38, none⟩)], .iface 100 (.agg #[.pointer (some ⟨4, 38, none⟩)])]).run Tryd.prog w = .ok (.value (.bool true)) w := by kernel_rfl
theorem rl_assign62 (w : World) : (callFunc 95 #[.agg #[.pointer (some ⟨4, 62, none⟩)], .iface 100 (.agg #[.pointer (some ⟨4, 38, none⟩)])]).run Tryd.prog w = .ok (.value (.bool false)) w := by kernel_rfl
theorem rl_assign66 (w : World) : (callFunc 95 #[.agg #[.pointer (some ⟨4, 66, none⟩)], .iface 100 (.agg #[.pointer (some ⟨4, 38, none⟩)])]).run Tryd.prog w = .ok (.value (.bool false)) w := by kernel_rfl
theorem rl_valueOf38 (c : Int) (w : World) : (callFunc 37 #[.iface 38 (.int .i64 c)]).run Tryd.prog w = .ok (.value (.agg #[.pointer (some ⟨4, 38, none⟩), .pointer (some ⟨w.heap.size, 0, none⟩), .int .u64 130])) (w.alloc (.cells #[.int .i64 c] 38)) := by kernel_rfl

end Go.Proofs.YtplkeakkjkkfmaaDoor
