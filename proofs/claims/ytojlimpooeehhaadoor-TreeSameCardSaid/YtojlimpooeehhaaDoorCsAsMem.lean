/- What the entries of reflectlite that read or write memory do, at a *Errno. -/
import Derived.Test.YtojlimpooeehhaaDoorCsKnown
namespace Go.Proofs.YtojlimpooeehhaaDoor.Cs
open Go.RowKit Go.Extern.Stop Go.Stop Go.Extern


/-- The Value of a *Errno, which lies at b. -/
abbrev val52 (b : Addr) : Value := .agg #[.pointer (some ⟨1, 90, none⟩), .pointer (some b), .int .u64 150]

theorem rl_parts52 (a : Addr) (w : World) : (ReflectliteValue.parts (val52 a)).run Tryd.prog w = .ok (some (90, a, 150)) w := by kernel_rfl
theorem rl_isNil_key (a p : Addr) (W : World) (ha : W.cell? a = some (.pointer (some p))) :
    ∃ f : Option (TypeId × Addr × Nat) → Sem Value, (∀ v, ReflectliteValue.method (ReflectliteValue.valueError "reflectlite.Value.IsNil" 0) ReflectliteValue.isNil #[v] = Bind.bind (ReflectliteValue.parts v) (fun p => f p)) ∧
      (f (some (90, a, 150))).run Tryd.prog W = .ok (.bool false) W := by
  refine ⟨_, fun v => rfl, ?_⟩
  simp [ReflectliteValue.isNil, loadVar, isAgg, underlying, Tryd.underlying90, ha, Result.andThen]
theorem rl_isNil (a p : Addr) (W : World) (ha : W.cell? a = some (.pointer (some p))) : (callFunc 71 #[val52 a]).run Tryd.prog W = .ok (.value (.bool false)) W := by
  rw [run_callFunc_extern Tryd.func71 (by kernel_rfl) (by kernel_rfl) (by kernel_rfl) (e := ReflectliteValue.method (ReflectliteValue.valueError "reflectlite.Value.IsNil" 0) ReflectliteValue.isNil) (by kernel_rfl)]
  obtain ⟨f, h1, h2⟩ := rl_isNil_key a p W ha
  rw [h1]
  simp only [Sem.run_bind, rl_parts52, Result.andThen, h2]
theorem rl_elemOf (w : World) : (Rtype.elem? 90).run Tryd.prog w = .ok (some 57) w := by kernel_rfl
theorem rl_mk (p : Addr) (w : World) : (ReflectliteValue.mk 57 p ReflectliteValue.flagAddr).run Tryd.prog w = .ok (.agg #[.pointer (some ⟨1, 57, none⟩), .pointer (some p), .int .u64 386]) w := by kernel_rfl
theorem rl_elem_key (a p : Addr) (W : World) (ha : W.cell? a = some (.pointer (some p))) :
    ∃ f : Option (TypeId × Addr × Nat) → Sem Value, (∀ v, ReflectliteValue.method (ReflectliteValue.valueError "reflectlite.Value.Elem" 0) ReflectliteValue.elem #[v] = Bind.bind (ReflectliteValue.parts v) (fun p => f p)) ∧
      (f (some (90, a, 150))).run Tryd.prog W = .ok (.agg #[.pointer (some ⟨1, 57, none⟩), .pointer (some p), .int .u64 386]) W := by
  refine ⟨_, fun v => rfl, ?_⟩
  simp [ReflectliteValue.elem, loadVar, isAgg, underlying, Tryd.underlying90, ha, Result.andThen, rl_elemOf, rl_mk]
theorem rl_elem (a p : Addr) (W : World) (ha : W.cell? a = some (.pointer (some p))) : (callFunc 95 #[val52 a]).run Tryd.prog W = .ok (.value (.agg #[.pointer (some ⟨1, 57, none⟩), .pointer (some p), .int .u64 386])) W := by
  rw [run_callFunc_extern Tryd.func95 (by kernel_rfl) (by kernel_rfl) (by kernel_rfl) (e := ReflectliteValue.method (ReflectliteValue.valueError "reflectlite.Value.Elem" 0) ReflectliteValue.elem) (by kernel_rfl)]
  obtain ⟨f, h1, h2⟩ := rl_elem_key a p W ha
  rw [h1]
  simp only [Sem.run_bind, rl_parts52, Result.andThen, h2]
theorem rl_parts38a (a : Addr) (w : World) : (ReflectliteValue.parts (.agg #[.pointer (some ⟨1, 57, none⟩), .pointer (some a), .int .u64 386])).run Tryd.prog w = .ok (some (57, a, 386)) w := by kernel_rfl
theorem rl_parts38 (a : Addr) (w : World) : (ReflectliteValue.parts (.agg #[.pointer (some ⟨1, 57, none⟩), .pointer (some a), .int .u64 130])).run Tryd.prog w = .ok (some (57, a, 130)) w := by kernel_rfl
theorem rl_direct (w : World) : (Rtype.directlyAssignable 57 57).run Tryd.prog w = .ok true w := by kernel_rfl
theorem rl_set_key (ta b : Addr) (c : Int) (old : Value) (W : World) (hb : W.cell? b = some (.int .i64 c)) (ht : W.cell? ta = some old) (hf : W.frozen? ta = false) :
    ∃ f : Option (TypeId × Addr × Nat) → Option (TypeId × Addr × Nat) → Sem Value,
      (∀ v x, ReflectliteValue.set #[v, x] = Bind.bind (ReflectliteValue.parts v) (fun p => Bind.bind (ReflectliteValue.parts x) (fun q => f p q))) ∧
      (f (some (57, ta, 386)) (some (57, b, 130))).run Tryd.prog W = .ok (.tuple #[]) (W.setCell ta (.int .i64 c)) := by
  refine ⟨_, fun v x => rfl, ?_⟩
  simp [ReflectliteValue.flagAddr, loadVar, isAgg, underlying, Tryd.underlying57, hb, Result.andThen, rl_direct, storeVar, Value.cells, storeCells, Addr.add]
  rw [run_store Tryd.prog W ta _ _ (by rfl)]
  simp [ht, hf]
theorem rl_set (ta b : Addr) (c : Int) (old : Value) (W : World) (hb : W.cell? b = some (.int .i64 c)) (ht : W.cell? ta = some old) (hf : W.frozen? ta = false) :
    (callFunc 96 #[.agg #[.pointer (some ⟨1, 57, none⟩), .pointer (some ta), .int .u64 386], .agg #[.pointer (some ⟨1, 57, none⟩), .pointer (some b), .int .u64 130]]).run Tryd.prog W = .ok (.value (.tuple #[])) (W.setCell ta (.int .i64 c)) := by
  rw [run_callFunc_extern Tryd.func96 (by kernel_rfl) (by kernel_rfl) (by kernel_rfl) (e := ReflectliteValue.set) (by kernel_rfl)]
  obtain ⟨f, h1, h2⟩ := rl_set_key ta b c old W hb ht hf
  rw [h1]
  simp only [Sem.run_bind, rl_parts38a, rl_parts38, Result.andThen, h2]

end Go.Proofs.YtojlimpooeehhaaDoor.Cs
