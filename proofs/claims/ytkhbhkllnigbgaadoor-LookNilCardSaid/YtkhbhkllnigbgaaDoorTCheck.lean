/- Which trouble a struct has: tree.Check. -/
import Derived.Test.YtkhbhkllnigbgaaDoorTRow
import Derived.Test.YtkhbhkllnigbgaaDoorQAll
import Derived.Laws.EntriesVeiled
import Derived.Deep.RegionHeld3
namespace Go.Proofs.YtkhbhkllnigbgaaDoor
open Go.RowKit
theorem mk_func (fn : Fn) (first cap : Array Value) (w : World) : (Instr.makeFunc fn first cap).run Tryd.prog w = .ok (.func fn first cap) w := rfl
/-- A trouble of a code alone. -/
def errV (c : Nat) : Value := if c = 0 then .nilIface else .iface 55 (.int .i64 (c : Int))
theorem errV_0 : errV 0 = .nilIface := rfl
theorem errV_16 : errV 16 = .iface 55 (.int .i64 16) := rfl
theorem errV_24 : errV 24 = .iface 55 (.int .i64 24) := rfl
theorem ret_err {a b : Nat} (h : a = b) : Ending.returned (errV a) = .returned (errV b) := by rw [h]

theorem cell4_box (w : World) (y : Tr) (A1 : Option Addr) (k1 : Nat) (A2 : Option Addr) (k2 : Nat) : Cell4 (w.alloc (.cells #[.int .u64 ((y).num : Nat), .string (y).bs, .slice A1 (y).nl k1, .slice A2 (y).kl k2] 41)) w.heap.size 0 y A1 k1 A2 k2 := by
  have r := World.rowIs_alloc w #[.int .u64 ((y).num : Nat), .string (y).bs, .slice A1 (y).nl k1, .slice A2 (y).kl k2] 41 (fun j => if j = 0 then .int .u64 (y.num : Nat) else if j = 1 then .string y.bs else if j = 2 then .slice A1 y.nl k1 else .slice A2 y.kl k2) (by intro j hj; match j, hj with | 0, _ => rfl | 1, _ => rfl | 2, _ => rfl | 3, _ => rfl)
  exact ⟨r.cell (i := 0) (by simp), r.cell (i := 1) (by simp), r.cell (i := 2) (by simp), r.cell (i := 3) (by simp)⟩
/-- What a schema tells of a right type's field. -/
theorem lenAt_nat {s : Sch} {t : Nat} (h : t < s.n) : lenAt s t = (s.len t : Int) := by
  rw [lenAt, if_pos (by unfold hasT; omega)]; rfl
theorem kAt_nat {s : Sch} {t i : Nat} (h : t < s.n) (hi : i < s.len t) : kAt s t i = s.k t i := by
  rw [kAt, if_pos ⟨by unfold hasT; omega, by omega, by simpa using hi⟩]; rfl
theorem tAt_nat {s : Sch} {t i : Nat} (hr : RightS s) (h : t < s.n) (hi : i < s.len t) : tAt s t i = (((s.t t i).toNat : Nat) : Int) := by
  rw [tAt, if_pos ⟨by unfold hasT; omega, by omega, by simpa using hi⟩]
  have := hr.field h hi
  show s.t t i = _
  omega
theorem RightS.tlt {s : Sch} (hr : RightS s) {t i : Nat} (h : t < s.n) (hi : i < s.len t) : (s.t t i).toNat < s.n := by
  obtain ⟨_, _, c, d, _⟩ := (hr.2.2 t h).2.2 i hi
  omega

theorem chk_ret {s : Sch} {d t m j : Nat} {x y : Tr} {τ E : Nat} {z : Tr} {w w' : World} (hst : structOk s t x) (hm : m < x.kl) (hf : fe (fun i => chkF s d t i (x.kf i)) m = 0) (hc : chkF s d t m (x.kf m) = chkF s d t m y) (hk : kindOk (s.k t m) y) (hj : j < y.kl) (hfj : fe (fun j => chk s d (s.t t m).toNat (y.kf j)) j = 0) (hz : chk s d (s.t t m).toNat (y.kf j) = chk s d τ z) (hE : chk s d τ z = E) (h0 : E ≠ 0) (hb : Below w.heap.size w w') :
    Ending.returned (errV E) = .returned (errV (chk s (d + 1) t x)) ∧ Below w.heap.size w w' := by
  refine ⟨ret_err ?_, hb⟩
  have e1 : chkF s d t m y = E := by rw [chkF, if_pos hk, fe_at hfj (by rw [hz, hE]; exact h0) hj, hz, hE]
  rw [chk_succ, if_pos hst, fe_at hf (by rw [hc, e1]; exact h0) hm, hc, e1]


end Go.Proofs.YtkhbhkllnigbgaaDoor
