/- errors.errorType, as it is laid. -/
import Derived.Test.YtkpffnihnhlghaaDoorPHandle
import Derived.Test.YtkpffnihnhlghaaDoorCsTwo
namespace Go.Proofs.YtkpffnihnhlghaaDoor
open Go.ChangeShapes Go.WideShapes Go.ChangeAt Go.RowKit
theorem gErr : Tryd.prog.globalNamed "errors.errorType" = some 0 := by kernel_rfl
theorem rtErr : (Tryd.prog.cutTypes.find? (·.1 == "internal/reflectlite.rtype")).map (·.2) = some 216 := by kernel_rfl
theorem sizeT : Tryd.prog.types.size = 283 := by kernel_rfl
theorem oneRow : ((List.range 283).filter fun t => Tryd.prog.rowNamed t [101, 114, 114, 111, 114]) = [43] := by kernel_rfl
theorem err_of_handles {W : World} (h : handlesMet Tryd.prog [("errors.errorType", Rows.laid_errors_errorType)] W) : Cs.ErrT W := by
  obtain ⟨name, u, ty, e1, e2, e3, e4, e5⟩ := h ("errors.errorType", Rows.laid_errors_errorType) (List.mem_singleton.2 rfl)
  have en : name = [101, 114, 114, 111, 114] := (Option.some.inj e1).symm
  subst en
  obtain rfl := Option.some.inj (rtErr.symm.trans e2)
  have hm : ty ∈ (List.range 283).filter fun t => Tryd.prog.rowNamed t [101, 114, 114, 111, 114] := List.mem_filter.2 ⟨List.mem_range.2 (by rw [← sizeT]; exact e3), e4⟩
  rw [oneRow] at hm
  obtain rfl := List.mem_singleton.1 hm
  have hh : typeHandle Tryd.prog 43 = .pointer (some ⟨2, 43, none⟩) := by kernel_rfl
  rw [hh] at e5
  simpa [Cs.ErrT] using World.var?_cell gErr e5 0
theorem err_lim_of_laid {W : World} (h : laidMet Tryd.prog [("intaglio/plan.limits", Rows.laid_intaglio_plan_limits)] W ∧ handlesMet Tryd.prog [("errors.errorType", Rows.laid_errors_errorType)] W) : Lim W ∧ Cs.ErrT W := ⟨lim_of_laid h.1, err_of_handles h.2⟩

end Go.Proofs.YtkpffnihnhlghaaDoor
