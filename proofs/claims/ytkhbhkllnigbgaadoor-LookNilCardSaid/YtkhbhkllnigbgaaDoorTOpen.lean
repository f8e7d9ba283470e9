/- Arguments: structs by numbers; errors.errorType, as it is laid. -/
import Derived.Test.YtkhbhkllnigbgaaDoorTMade2
import Derived.Test.YtkhbhkllnigbgaaDoorCsTwo
import Derived.Deep.Slices
import Derived.ProofKit
import Derived.OpenShut
import Derived.ShutString
import Derived.ChangeOld
import Derived.ChangeSlices
import Derived.ChangeSame
import Derived.Lib.SmallJoins
import Derived.LaidHandle
import Derived.LaidMore
namespace Go.Proofs.YtkhbhkllnigbgaaDoor
open Go.ChangeShapes Go.WideShapes Go.ChangeAt Go.RowKit Go.Deep Go.Joins
theorem u64_fits {a : Int} (h : (Lit.int .u64 a).wf = true) : 0 ≤ a ∧ a < 18446744073709551616 := by
  simp [Lit.wf, IntKind.min, IntKind.max, IntKind.bits, IntKind.signed] at h
  omega
theorem own : ownKnob Tryd.prog.godebug = none := by kernel_rfl
theorem laidOut : laidOutB Tryd.prog = true := by kernel_rfl
theorem cells_int : Tryd.prog.cellsOf 3 = 1 := by kernel_rfl
theorem block_lt {W : World} {b o : Nat} {v : Value} (h : W.cell? ⟨b, o, none⟩ = some v) : b < W.heap.size := World.block_lt_of_cell? W _ h
theorem nums_of_trod {H : Type} {enc : TypeId × Value → H} {W : World} {fuel : Nat} {v : Value} {x : DataW H × List MemPlace}
    (h : DataW.trod enc Tryd.prog W 0 (fun _ => true) true fuel 23 [v] = some x) : ∃ (A : Option Addr) (L c : Nat), v = .slice A L c ∧ NumsAt W A L c := by
  rcases open_ints Tryd.underlying23 Tryd.underlying3 cells_int h with ⟨hcs, _⟩ | ⟨a, len, cap, zs, hcs, _, hl, hm, hlen, _, hcell, hwf⟩
  · simp at hcs
    subst hcs
    exact ⟨none, 0, 0, rfl, fun h => absurd h (by omega), Nat.le_refl _, by omega⟩
  · simp at hcs
    subst hcs
    simp only [if_true] at hlen
    refine ⟨some a, len, cap, rfl, fun h0 => ?_, hl, by unfold maxLen at hm; omega⟩
    obtain ⟨b, off, spot⟩ := a
    have c0 := hcell 0 (by omega)
    have hsp : spot = none := by
      have := World.cell?_spot c0
      simpa [Addr.add] using this
    subst hsp
    refine ⟨b, off, rfl, ?_, fun j hj => ⟨zs.getD j 0, ?_⟩⟩
    · rw [addr_add] at c0
      exact block_lt c0
    · have := hcell j (by omega)
      rw [addr_add] at this
      exact this
theorem nums_of_trod' {H : Type} {enc : TypeId × Value → H} {W : World} {A : Option Addr} {L c : Nat} {d : DataW H} {p : List MemPlace} (h : DataW.Trod enc Tryd.prog W 0 (fun _ => true) true 23 (.slice A L c) d p) : NumsAt W A L c := by
  obtain ⟨fuel, hf⟩ := h
  have hf' : DataW.trod enc Tryd.prog W 0 (fun _ => true) true fuel 23 [.slice A L c] = some (d, p) := by simpa [Value.cells] using hf
  obtain ⟨A', L', c', e, hN⟩ := nums_of_trod hf'
  injection e with e1 e2 e3
  subst e1 e2 e3
  exact hN
theorem gErr : Tryd.prog.globalNamed "errors.errorType" = some 0 := by kernel_rfl
theorem rtErr : (Tryd.prog.cutTypes.find? (·.1 == "internal/reflectlite.rtype")).map (·.2) = some 205 := by kernel_rfl
theorem sizeT : Tryd.prog.types.size = 282 := by kernel_rfl
theorem oneRow : ((List.range 282).filter fun t => Tryd.prog.rowNamed t [101, 114, 114, 111, 114]) = [52] := by kernel_rfl
theorem err_of_handles {W : World} (h : handlesMet Tryd.prog [("errors.errorType", Rows.laid_errors_errorType)] W) : Cs.ErrT W := by
  obtain ⟨name, u, ty, e1, e2, e3, e4, e5⟩ := h ("errors.errorType", Rows.laid_errors_errorType) (List.mem_singleton.2 rfl)
  have en : name = [101, 114, 114, 111, 114] := (Option.some.inj e1).symm
  subst en
  obtain rfl := Option.some.inj (rtErr.symm.trans e2)
  have hm : ty ∈ (List.range 282).filter fun t => Tryd.prog.rowNamed t [101, 114, 114, 111, 114] := List.mem_filter.2 ⟨List.mem_range.2 (by rw [← sizeT]; exact e3), e4⟩
  rw [oneRow] at hm
  obtain rfl := List.mem_singleton.1 hm
  have hh : typeHandle Tryd.prog 52 = .pointer (some ⟨2, 52, none⟩) := by kernel_rfl
  rw [hh] at e5
  simpa [Cs.ErrT] using World.var?_cell gErr e5 0
theorem err_of_laid {W : World} (h : laidMet Tryd.prog [] W ∧ handlesMet Tryd.prog [("errors.errorType", Rows.laid_errors_errorType)] W) : Cs.ErrT W := err_of_handles h.2

end Go.Proofs.YtkhbhkllnigbgaaDoor
