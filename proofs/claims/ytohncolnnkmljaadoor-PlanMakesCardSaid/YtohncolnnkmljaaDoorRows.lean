/-
  NARROWER THAN 'FOR EVERY INPUT', by the rows' own cells (each row's printed sentence says how): PlanTells: laid · PlanPlaces: laid · PlanApart: laid · PlanMakes: laid · PlanNil: laid · PlanOnce: laid.
  DERIVED. THE GIVEN ROWS OF THIS SEAT. 6 by the template 'for every input the law returns true; each argument reads behind the call as it read before'; 0 by the template 'total and deterministic' (their statements: YtohncolnnkmljaaDoorTotals.lean).
  GIVEN WITH THE SEED: the statements are not yours to turn. If you find one false, say at which input.
  Laid BY PROGRAM, IN A SANDBOX (cutbox-rows.mjs): the forced cells as the released guide's own fill.sh prints them over the translation 7f70aca4a8a9a40e… (all of the seat's roots in one cut). By AI agents, Wed Nov 11 2026. No macro, syntax, notation, axiom, sorry.
-/
import Derived.Test.YtohncolnnkmljaaDoorChecked
import GoSem.Claim
import GoSem.ClaimJoined
import GoSem.ClaimMapViews
import Derived.JoinedTies
import Derived.KernelRfl
namespace Go.Proofs.YtohncolnnkmljaaDoor
/- THE CELL 'sum', in the pinned program and in every row, IS THE sha256 OF THE DUMP (.gsa) THAT YtohncolnnkmljaaDoorProg.lean LOADS. Nothing in Lean hashes anything: it is a label: what it is worth is what the hold of that sum in a sandbox is worth. -/
noncomputable def Tryd.pinned : Pinned := { name := "ytohncolnnkmljaadoor", sum := "7f70aca4a8a9a40e491e5b1eae2f10b195988027aeb0219238080da6e041eea5", checked := Tryd.checked }
namespace Rows
def none {H : Type} : Left H := { results := [], args := [] }

/- WHAT THE LISTED PACKAGE-LEVEL VARIABLES READ AS WHEN THE CALL BEGINS. Each datum BY PROGRAM (the guide's laid-datum.mjs) off the statement by which the dump's own 'gosem.cut.vars' lays the variable. In a bare row this is a premise. The card (YtohncolnnkmljaaDoorCards.lean) ties it to the program's text. -/
def laid_errors_errorType {H : Type} : DataW H := .iface "internal/reflectlite.rtype" (.agg [.ptr (.lit (.string [101, 114, 114, 111, 114]))])
def laid_intaglio_plan_limits {H : Type} : DataW H := .agg [.agg [.lit (.int .i64 1), .lit (.int .i64 8)], .agg [.lit (.int .i64 4), .lit (.int .i64 32)], .agg [.lit (.int .i64 1), .lit (.int .i64 8)], .agg [.lit (.int .i64 1), .lit (.int .i64 8)], .agg [.lit (.int .i64 1), .lit (.int .i64 8)], .agg [.lit (.int .i64 4), .lit (.int .i64 96)], .agg [.lit (.int .i64 0), .lit (.int .i64 12)], .agg [.lit (.int .i64 4), .lit (.int .i64 96)], .agg [.lit (.int .i64 0), .lit (.int .i64 12)]]

/-- 'intagliolaw04.PlanTells': WHATEVER THE INPUT: true; the input reads as it did. -/
def planTellsSpec : ChangeSpec := { name := "planTells", fn := fun _ => fun
  | [d1, d2, d3] => { results := [.lit (.bool true)], args := [d1, d2, d3] }
  | _ => none }
def planTellsRow : OpenClaim := { program := "ytohncolnnkmljaadoor", sum := "7f70aca4a8a9a40e491e5b1eae2f10b195988027aeb0219238080da6e041eea5", func := "intaglio/intagliolaw04.PlanTells", spec := "planTells", inPlace := ["internal/reflectlite.ValueOf", "(internal/reflectlite.Value).Type", "(internal/reflectlite.Value).IsNil", "internal/reflectlite.TypeOf", "(internal/reflectlite.Value).Elem", "(internal/reflectlite.Value).Set"], unfollowed := true, recurses := true, named := ["intaglio/plan.limits", "errors.errorType"], apart := false, laid := [("errors.errorType", laid_errors_errorType), ("intaglio/plan.limits", laid_intaglio_plan_limits)] }
def PlanTellsSaid : Prop := planTellsRow.holds Tryd.pinned (OpenSpec.ofChange planTellsSpec)

/-- ITS FALSE NEIGHBOUR: 'it returns false'. Refute it at one input. -/
def planTellsWrong : ChangeSpec := { name := "planTells", fn := fun _ => fun
  | [d1, d2, d3] => { results := [.lit (.bool false)], args := [d1, d2, d3] }
  | _ => none }
def PlanTellsWrongFalsely : Prop := planTellsRow.holds Tryd.pinned (OpenSpec.ofChange planTellsWrong)

/-- 'intagliolaw04.PlanPlaces': WHATEVER THE INPUT: true; the input reads as it did. -/
def planPlacesSpec : ChangeSpec := { name := "planPlaces", fn := fun _ => fun
  | [d1, d2] => { results := [.lit (.bool true)], args := [d1, d2] }
  | _ => none }
def planPlacesRow : OpenClaim := { program := "ytohncolnnkmljaadoor", sum := "7f70aca4a8a9a40e491e5b1eae2f10b195988027aeb0219238080da6e041eea5", func := "intaglio/intagliolaw04.PlanPlaces", spec := "planPlaces", unfollowed := true, recurses := true, named := ["intaglio/plan.limits"], apart := false, laid := [("intaglio/plan.limits", laid_intaglio_plan_limits)] }
def PlanPlacesSaid : Prop := planPlacesRow.holds Tryd.pinned (OpenSpec.ofChange planPlacesSpec)

/-- ITS FALSE NEIGHBOUR: 'it returns false'. Refute it at one input. -/
def planPlacesWrong : ChangeSpec := { name := "planPlaces", fn := fun _ => fun
  | [d1, d2] => { results := [.lit (.bool false)], args := [d1, d2] }
  | _ => none }
def PlanPlacesWrongFalsely : Prop := planPlacesRow.holds Tryd.pinned (OpenSpec.ofChange planPlacesWrong)

/-- 'intagliolaw04.PlanApart': WHATEVER THE INPUT: true; the input reads as it did. -/
def planApartSpec : ChangeSpec := { name := "planApart", fn := fun _ => fun
  | [d] => { results := [.lit (.bool true)], args := [d] }
  | _ => none }
def planApartRow : OpenClaim := { program := "ytohncolnnkmljaadoor", sum := "7f70aca4a8a9a40e491e5b1eae2f10b195988027aeb0219238080da6e041eea5", func := "intaglio/intagliolaw04.PlanApart", spec := "planApart", unfollowed := true, recurses := true, named := ["intaglio/plan.limits"], apart := false, laid := [("intaglio/plan.limits", laid_intaglio_plan_limits)] }
def PlanApartSaid : Prop := planApartRow.holds Tryd.pinned (OpenSpec.ofChange planApartSpec)

/-- ITS FALSE NEIGHBOUR: 'it returns false'. Refute it at one input. -/
def planApartWrong : ChangeSpec := { name := "planApart", fn := fun _ => fun
  | [d] => { results := [.lit (.bool false)], args := [d] }
  | _ => none }
def PlanApartWrongFalsely : Prop := planApartRow.holds Tryd.pinned (OpenSpec.ofChange planApartWrong)

/-- 'intagliolaw04.PlanMakes': WHATEVER THE INPUT: true; the input reads as it did. -/
def planMakesSpec : ChangeSpec := { name := "planMakes", fn := fun _ => fun
  | [d1, d2, d3] => { results := [.lit (.bool true)], args := [d1, d2, d3] }
  | _ => none }
def planMakesRow : OpenClaim := { program := "ytohncolnnkmljaadoor", sum := "7f70aca4a8a9a40e491e5b1eae2f10b195988027aeb0219238080da6e041eea5", func := "intaglio/intagliolaw04.PlanMakes", spec := "planMakes", inPlace := ["sync/atomic.AddInt64", "internal/reflectlite.ValueOf", "(internal/reflectlite.Value).Type", "(internal/reflectlite.Value).IsNil", "internal/reflectlite.TypeOf", "(internal/reflectlite.Value).Elem", "(internal/reflectlite.Value).Set", "sync/atomic.LoadInt64"], unfollowed := true, recurses := true, named := ["intaglio/plan.limits", "errors.errorType"], apart := false, laid := [("errors.errorType", laid_errors_errorType), ("intaglio/plan.limits", laid_intaglio_plan_limits)] }
def PlanMakesSaid : Prop := planMakesRow.holds Tryd.pinned (OpenSpec.ofChange planMakesSpec)

/-- ITS FALSE NEIGHBOUR: 'it returns false'. Refute it at one input. -/
def planMakesWrong : ChangeSpec := { name := "planMakes", fn := fun _ => fun
  | [d1, d2, d3] => { results := [.lit (.bool false)], args := [d1, d2, d3] }
  | _ => none }
def PlanMakesWrongFalsely : Prop := planMakesRow.holds Tryd.pinned (OpenSpec.ofChange planMakesWrong)

/-- 'intagliolaw04.PlanNil': WHATEVER THE INPUT: true; the input reads as it did. -/
def planNilSpec : ChangeSpec := { name := "planNil", fn := fun _ => fun
  | [d] => { results := [.lit (.bool true)], args := [d] }
  | _ => none }
def planNilRow : OpenClaim := { program := "ytohncolnnkmljaadoor", sum := "7f70aca4a8a9a40e491e5b1eae2f10b195988027aeb0219238080da6e041eea5", func := "intaglio/intagliolaw04.PlanNil", spec := "planNil", inPlace := ["sync/atomic.AddInt64", "internal/reflectlite.ValueOf", "(internal/reflectlite.Value).Type", "(internal/reflectlite.Value).IsNil", "internal/reflectlite.TypeOf", "(internal/reflectlite.Value).Elem", "(internal/reflectlite.Value).Set"], unfollowed := true, recurses := true, named := ["intaglio/plan.limits", "errors.errorType"], apart := false, laid := [("errors.errorType", laid_errors_errorType), ("intaglio/plan.limits", laid_intaglio_plan_limits)] }
def PlanNilSaid : Prop := planNilRow.holds Tryd.pinned (OpenSpec.ofChange planNilSpec)

/-- ITS FALSE NEIGHBOUR: 'it returns false'. Refute it at one input. -/
def planNilWrong : ChangeSpec := { name := "planNil", fn := fun _ => fun
  | [d] => { results := [.lit (.bool false)], args := [d] }
  | _ => none }
def PlanNilWrongFalsely : Prop := planNilRow.holds Tryd.pinned (OpenSpec.ofChange planNilWrong)

/-- 'intagliolaw04.PlanOnce': WHATEVER THE INPUT: true; the input reads as it did. -/
def planOnceSpec : ChangeSpec := { name := "planOnce", fn := fun _ => fun
  | [d1, d2, d3] => { results := [.lit (.bool true)], args := [d1, d2, d3] }
  | _ => none }
def planOnceRow : OpenClaim := { program := "ytohncolnnkmljaadoor", sum := "7f70aca4a8a9a40e491e5b1eae2f10b195988027aeb0219238080da6e041eea5", func := "intaglio/intagliolaw04.PlanOnce", spec := "planOnce", inPlace := ["internal/reflectlite.ValueOf", "(internal/reflectlite.Value).Type", "(internal/reflectlite.Value).IsNil", "internal/reflectlite.TypeOf", "(internal/reflectlite.Value).Elem", "(internal/reflectlite.Value).Set"], unfollowed := true, recurses := true, named := ["intaglio/plan.limits", "errors.errorType"], apart := false, laid := [("errors.errorType", laid_errors_errorType), ("intaglio/plan.limits", laid_intaglio_plan_limits)] }
def PlanOnceSaid : Prop := planOnceRow.holds Tryd.pinned (OpenSpec.ofChange planOnceSpec)

/-- ITS FALSE NEIGHBOUR: 'it returns false'. Refute it at one input. -/
def planOnceWrong : ChangeSpec := { name := "planOnce", fn := fun _ => fun
  | [d1, d2, d3] => { results := [.lit (.bool false)], args := [d1, d2, d3] }
  | _ => none }
def PlanOnceWrongFalsely : Prop := planOnceRow.holds Tryd.pinned (OpenSpec.ofChange planOnceWrong)

/- THE SECOND FORM. 'bulk': how many values and letters a reading holds, each counted each time it is reached (what is shared counts as often as it is met; a slice's spare places count too). A statement '..UptoSaid' is the law's where the arguments, and the package variables that the reading takes, are together of bulk at most 1048576: NARROWER than '..Said'. Prove '..Said' where nothing that the law and all that it calls make is longer than what came in: it says more and counts as full. Else prove '..UptoSaid'. A law counts once. -/
mutual
def uptoBulk {H : Type} : DataW H → Nat
  | .lit (.string bytes) => bytes.length + 1
  | .lit _ => 1
  | .nil => 1
  | .ptr d => uptoBulk d + 1
  | .slice elems spare => uptoBulkAll elems + uptoBulkAll spare + 1
  | .agg parts => uptoBulkAll parts + 1
  | .iface _ d => uptoBulk d + 1
  | .map entries => uptoBulkEntries entries + 1
  | .held _ => 1
def uptoBulkAll {H : Type} : List (DataW H) → Nat
  | [] => 0
  | d :: r => uptoBulk d + uptoBulkAll r
def uptoBulkEntries {H : Type} : List (Lit × DataW H) → Nat
  | [] => 0
  | x :: r => uptoBulkEntry x + uptoBulkEntries r
def uptoBulkEntry {H : Type} : Lit × DataW H → Nat
  | (.string bytes, d) => bytes.length + uptoBulk d + 1
  | (_, d) => uptoBulk d + 1
 end
def uptoSmall : (H : Type) → List (DataW H) → Bool := fun _ ds => decide (uptoBulkAll ds ≤ 1048576)
def OpenSpec.upto (s : _root_.Go.ChangeSpec) : _root_.Go.OpenSpec := { _root_.Go.OpenSpec.ofChange s with cond := some uptoSmall }

/-- 'intagliolaw04.PlanTells', WHERE WHAT IT READS IS OF BULK AT MOST 1048576: true; the input reads as it did. -/
def planTellsUptoRow : OpenClaim := { program := "ytohncolnnkmljaadoor", sum := "7f70aca4a8a9a40e491e5b1eae2f10b195988027aeb0219238080da6e041eea5", func := "intaglio/intagliolaw04.PlanTells", spec := "planTells", inPlace := ["internal/reflectlite.ValueOf", "(internal/reflectlite.Value).Type", "(internal/reflectlite.Value).IsNil", "internal/reflectlite.TypeOf", "(internal/reflectlite.Value).Elem", "(internal/reflectlite.Value).Set"], unfollowed := true, recurses := true, named := ["intaglio/plan.limits", "errors.errorType"], apart := false, laid := [("errors.errorType", laid_errors_errorType), ("intaglio/plan.limits", laid_intaglio_plan_limits)], narrowed := true }
def PlanTellsUptoSaid : Prop := planTellsUptoRow.holds Tryd.pinned (OpenSpec.upto planTellsSpec)

/-- 'intagliolaw04.PlanPlaces', WHERE WHAT IT READS IS OF BULK AT MOST 1048576: true; the input reads as it did. -/
def planPlacesUptoRow : OpenClaim := { program := "ytohncolnnkmljaadoor", sum := "7f70aca4a8a9a40e491e5b1eae2f10b195988027aeb0219238080da6e041eea5", func := "intaglio/intagliolaw04.PlanPlaces", spec := "planPlaces", unfollowed := true, recurses := true, named := ["intaglio/plan.limits"], apart := false, laid := [("intaglio/plan.limits", laid_intaglio_plan_limits)], narrowed := true }
def PlanPlacesUptoSaid : Prop := planPlacesUptoRow.holds Tryd.pinned (OpenSpec.upto planPlacesSpec)

/-- 'intagliolaw04.PlanApart', WHERE WHAT IT READS IS OF BULK AT MOST 1048576: true; the input reads as it did. -/
def planApartUptoRow : OpenClaim := { program := "ytohncolnnkmljaadoor", sum := "7f70aca4a8a9a40e491e5b1eae2f10b195988027aeb0219238080da6e041eea5", func := "intaglio/intagliolaw04.PlanApart", spec := "planApart", unfollowed := true, recurses := true, named := ["intaglio/plan.limits"], apart := false, laid := [("intaglio/plan.limits", laid_intaglio_plan_limits)], narrowed := true }
def PlanApartUptoSaid : Prop := planApartUptoRow.holds Tryd.pinned (OpenSpec.upto planApartSpec)

/-- 'intagliolaw04.PlanMakes', WHERE WHAT IT READS IS OF BULK AT MOST 1048576: true; the input reads as it did. -/
def planMakesUptoRow : OpenClaim := { program := "ytohncolnnkmljaadoor", sum := "7f70aca4a8a9a40e491e5b1eae2f10b195988027aeb0219238080da6e041eea5", func := "intaglio/intagliolaw04.PlanMakes", spec := "planMakes", inPlace := ["sync/atomic.AddInt64", "internal/reflectlite.ValueOf", "(internal/reflectlite.Value).Type", "(internal/reflectlite.Value).IsNil", "internal/reflectlite.TypeOf", "(internal/reflectlite.Value).Elem", "(internal/reflectlite.Value).Set", "sync/atomic.LoadInt64"], unfollowed := true, recurses := true, named := ["intaglio/plan.limits", "errors.errorType"], apart := false, laid := [("errors.errorType", laid_errors_errorType), ("intaglio/plan.limits", laid_intaglio_plan_limits)], narrowed := true }
def PlanMakesUptoSaid : Prop := planMakesUptoRow.holds Tryd.pinned (OpenSpec.upto planMakesSpec)

/-- 'intagliolaw04.PlanNil', WHERE WHAT IT READS IS OF BULK AT MOST 1048576: true; the input reads as it did. -/
def planNilUptoRow : OpenClaim := { program := "ytohncolnnkmljaadoor", sum := "7f70aca4a8a9a40e491e5b1eae2f10b195988027aeb0219238080da6e041eea5", func := "intaglio/intagliolaw04.PlanNil", spec := "planNil", inPlace := ["sync/atomic.AddInt64", "internal/reflectlite.ValueOf", "(internal/reflectlite.Value).Type", "(internal/reflectlite.Value).IsNil", "internal/reflectlite.TypeOf", "(internal/reflectlite.Value).Elem", "(internal/reflectlite.Value).Set"], unfollowed := true, recurses := true, named := ["intaglio/plan.limits", "errors.errorType"], apart := false, laid := [("errors.errorType", laid_errors_errorType), ("intaglio/plan.limits", laid_intaglio_plan_limits)], narrowed := true }
def PlanNilUptoSaid : Prop := planNilUptoRow.holds Tryd.pinned (OpenSpec.upto planNilSpec)

/-- 'intagliolaw04.PlanOnce', WHERE WHAT IT READS IS OF BULK AT MOST 1048576: true; the input reads as it did. -/
def planOnceUptoRow : OpenClaim := { program := "ytohncolnnkmljaadoor", sum := "7f70aca4a8a9a40e491e5b1eae2f10b195988027aeb0219238080da6e041eea5", func := "intaglio/intagliolaw04.PlanOnce", spec := "planOnce", inPlace := ["internal/reflectlite.ValueOf", "(internal/reflectlite.Value).Type", "(internal/reflectlite.Value).IsNil", "internal/reflectlite.TypeOf", "(internal/reflectlite.Value).Elem", "(internal/reflectlite.Value).Set"], unfollowed := true, recurses := true, named := ["intaglio/plan.limits", "errors.errorType"], apart := false, laid := [("errors.errorType", laid_errors_errorType), ("intaglio/plan.limits", laid_intaglio_plan_limits)], narrowed := true }
def PlanOnceUptoSaid : Prop := planOnceUptoRow.holds Tryd.pinned (OpenSpec.upto planOnceSpec)

end Rows
end Go.Proofs.YtohncolnnkmljaaDoor
