/-
  NARROWER THAN 'FOR EVERY INPUT', by the rows' own cells (each row's printed sentence says how): LookWalks: laid · PoolPlays: laid · PoolApart: laid · PoolAlone: laid · PoolNil: laid · PoolStack: laid.
  DERIVED. THE GIVEN ROWS OF THIS SEAT. 6 by the template 'for every input the law returns true; each argument reads behind the call as it read before'; 0 by the template 'total and deterministic' (their statements: YtkpffnihnhlghaaDoorTotals.lean).
  GIVEN WITH THE SEED: the statements are not yours to turn. If you find one false, say at which input.
  Laid BY PROGRAM, IN A SANDBOX (cutbox-rows.mjs): the forced cells as the released guide's own fill.sh prints them over the translation 21aad1f9281bf93b… (all of the seat's roots in one cut). By AI agents, Wed Nov 11 2026. No macro, syntax, notation, axiom, sorry.
-/
import Derived.Test.YtkpffnihnhlghaaDoorChecked
import GoSem.Claim
import GoSem.ClaimJoined
import GoSem.ClaimMapViews
import Derived.JoinedTies
import Derived.KernelRfl
namespace Go.Proofs.YtkpffnihnhlghaaDoor
/- THE CELL 'sum', in the pinned program and in every row, IS THE sha256 OF THE DUMP (.gsa) THAT YtkpffnihnhlghaaDoorProg.lean LOADS. Nothing in Lean hashes anything: it is a label: what it is worth is what the hold of that sum in a sandbox is worth. -/
noncomputable def Tryd.pinned : Pinned := { name := "ytkpffnihnhlghaadoor", sum := "21aad1f9281bf93b3c2e52c5250b1a3ef4ad67b00295b11efd92319c1328d633", checked := Tryd.checked }
namespace Rows
def none {H : Type} : Left H := { results := [], args := [] }

/- WHAT THE LISTED PACKAGE-LEVEL VARIABLES READ AS WHEN THE CALL BEGINS. Each datum BY PROGRAM (the guide's laid-datum.mjs) off the statement by which the dump's own 'gosem.cut.vars' lays the variable. In a bare row this is a premise. The card (YtkpffnihnhlghaaDoorCards.lean) ties it to the program's text. -/
def laid_errors_errorType {H : Type} : DataW H := .iface "internal/reflectlite.rtype" (.agg [.ptr (.lit (.string [101, 114, 114, 111, 114]))])
def laid_intaglio_plan_limits {H : Type} : DataW H := .agg [.agg [.lit (.int .i64 1), .lit (.int .i64 8)], .agg [.lit (.int .i64 4), .lit (.int .i64 32)], .agg [.lit (.int .i64 1), .lit (.int .i64 8)], .agg [.lit (.int .i64 1), .lit (.int .i64 8)], .agg [.lit (.int .i64 1), .lit (.int .i64 8)], .agg [.lit (.int .i64 4), .lit (.int .i64 96)], .agg [.lit (.int .i64 0), .lit (.int .i64 12)], .agg [.lit (.int .i64 4), .lit (.int .i64 96)], .agg [.lit (.int .i64 0), .lit (.int .i64 12)]]

/-- 'intagliolaw09.LookWalks': WHATEVER THE INPUT: true; the input reads as it did. -/
def lookWalksSpec : ChangeSpec := { name := "lookWalks", fn := fun _ => fun
  | [d1, d2, d3] => { results := [.lit (.bool true)], args := [d1, d2, d3] }
  | _ => none }
def lookWalksRow : OpenClaim := { program := "ytkpffnihnhlghaadoor", sum := "21aad1f9281bf93b3c2e52c5250b1a3ef4ad67b00295b11efd92319c1328d633", func := "intaglio/intagliolaw09.LookWalks", spec := "lookWalks", inPlace := ["internal/reflectlite.ValueOf", "(internal/reflectlite.Value).Type", "(internal/reflectlite.Value).IsNil", "internal/reflectlite.TypeOf", "(internal/reflectlite.Value).Elem", "(internal/reflectlite.Value).Set"], unfollowed := true, recurses := true, named := ["errors.errorType"], apart := false, laid := [("errors.errorType", laid_errors_errorType)] }
def LookWalksSaid : Prop := lookWalksRow.holds Tryd.pinned (OpenSpec.ofChange lookWalksSpec)

/-- ITS FALSE NEIGHBOUR: 'it returns false'. Refute it at one input. -/
def lookWalksWrong : ChangeSpec := { name := "lookWalks", fn := fun _ => fun
  | [d1, d2, d3] => { results := [.lit (.bool false)], args := [d1, d2, d3] }
  | _ => none }
def LookWalksWrongFalsely : Prop := lookWalksRow.holds Tryd.pinned (OpenSpec.ofChange lookWalksWrong)

/-- 'intagliolaw11.PoolPlays': WHATEVER THE INPUT: true; the input reads as it did. -/
def poolPlaysSpec : ChangeSpec := { name := "poolPlays", fn := fun _ => fun
  | [d1, d2] => { results := [.lit (.bool true)], args := [d1, d2] }
  | _ => none }
def poolPlaysRow : OpenClaim := { program := "ytkpffnihnhlghaadoor", sum := "21aad1f9281bf93b3c2e52c5250b1a3ef4ad67b00295b11efd92319c1328d633", func := "intaglio/intagliolaw11.PoolPlays", spec := "poolPlays", inPlace := ["sync/atomic.AddInt64", "sync/atomic.LoadInt64"], unfollowed := true, recurses := true, named := ["intaglio/plan.limits"], apart := false, laid := [("intaglio/plan.limits", laid_intaglio_plan_limits)] }
def PoolPlaysSaid : Prop := poolPlaysRow.holds Tryd.pinned (OpenSpec.ofChange poolPlaysSpec)

/-- ITS FALSE NEIGHBOUR: 'it returns false'. Refute it at one input. -/
def poolPlaysWrong : ChangeSpec := { name := "poolPlays", fn := fun _ => fun
  | [d1, d2] => { results := [.lit (.bool false)], args := [d1, d2] }
  | _ => none }
def PoolPlaysWrongFalsely : Prop := poolPlaysRow.holds Tryd.pinned (OpenSpec.ofChange poolPlaysWrong)

/-- 'intagliolaw11.PoolApart': WHATEVER THE INPUT: true; the input reads as it did. -/
def poolApartSpec : ChangeSpec := { name := "poolApart", fn := fun _ => fun
  | [d1, d2] => { results := [.lit (.bool true)], args := [d1, d2] }
  | _ => none }
def poolApartRow : OpenClaim := { program := "ytkpffnihnhlghaadoor", sum := "21aad1f9281bf93b3c2e52c5250b1a3ef4ad67b00295b11efd92319c1328d633", func := "intaglio/intagliolaw11.PoolApart", spec := "poolApart", inPlace := ["sync/atomic.AddInt64"], unfollowed := true, recurses := true, named := ["intaglio/plan.limits"], apart := false, laid := [("intaglio/plan.limits", laid_intaglio_plan_limits)] }
def PoolApartSaid : Prop := poolApartRow.holds Tryd.pinned (OpenSpec.ofChange poolApartSpec)

/-- ITS FALSE NEIGHBOUR: 'it returns false'. Refute it at one input. -/
def poolApartWrong : ChangeSpec := { name := "poolApart", fn := fun _ => fun
  | [d1, d2] => { results := [.lit (.bool false)], args := [d1, d2] }
  | _ => none }
def PoolApartWrongFalsely : Prop := poolApartRow.holds Tryd.pinned (OpenSpec.ofChange poolApartWrong)

/-- 'intagliolaw11.PoolAlone': WHATEVER THE INPUT: true; the input reads as it did. -/
def poolAloneSpec : ChangeSpec := { name := "poolAlone", fn := fun _ => fun
  | [d1, d2, d3] => { results := [.lit (.bool true)], args := [d1, d2, d3] }
  | _ => none }
def poolAloneRow : OpenClaim := { program := "ytkpffnihnhlghaadoor", sum := "21aad1f9281bf93b3c2e52c5250b1a3ef4ad67b00295b11efd92319c1328d633", func := "intaglio/intagliolaw11.PoolAlone", spec := "poolAlone", inPlace := ["sync/atomic.AddInt64"], unfollowed := true, recurses := true, named := ["intaglio/plan.limits"], apart := false, laid := [("intaglio/plan.limits", laid_intaglio_plan_limits)] }
def PoolAloneSaid : Prop := poolAloneRow.holds Tryd.pinned (OpenSpec.ofChange poolAloneSpec)

/-- ITS FALSE NEIGHBOUR: 'it returns false'. Refute it at one input. -/
def poolAloneWrong : ChangeSpec := { name := "poolAlone", fn := fun _ => fun
  | [d1, d2, d3] => { results := [.lit (.bool false)], args := [d1, d2, d3] }
  | _ => none }
def PoolAloneWrongFalsely : Prop := poolAloneRow.holds Tryd.pinned (OpenSpec.ofChange poolAloneWrong)

/-- 'intagliolaw11.PoolNil': WHATEVER THE INPUT: true; the input reads as it did. -/
def poolNilSpec : ChangeSpec := { name := "poolNil", fn := fun _ => fun
  | [d1, d2, d3] => { results := [.lit (.bool true)], args := [d1, d2, d3] }
  | _ => none }
def poolNilRow : OpenClaim := { program := "ytkpffnihnhlghaadoor", sum := "21aad1f9281bf93b3c2e52c5250b1a3ef4ad67b00295b11efd92319c1328d633", func := "intaglio/intagliolaw11.PoolNil", spec := "poolNil", inPlace := ["sync/atomic.AddInt64", "sync/atomic.LoadInt64"], unfollowed := true, recurses := true, named := ["intaglio/plan.limits"], apart := false, laid := [("intaglio/plan.limits", laid_intaglio_plan_limits)] }
def PoolNilSaid : Prop := poolNilRow.holds Tryd.pinned (OpenSpec.ofChange poolNilSpec)

/-- ITS FALSE NEIGHBOUR: 'it returns false'. Refute it at one input. -/
def poolNilWrong : ChangeSpec := { name := "poolNil", fn := fun _ => fun
  | [d1, d2, d3] => { results := [.lit (.bool false)], args := [d1, d2, d3] }
  | _ => none }
def PoolNilWrongFalsely : Prop := poolNilRow.holds Tryd.pinned (OpenSpec.ofChange poolNilWrong)

/-- 'intagliolaw11.PoolStack': WHATEVER THE INPUT: true; the input reads as it did. -/
def poolStackSpec : ChangeSpec := { name := "poolStack", fn := fun _ => fun
  | [d1, d2, d3] => { results := [.lit (.bool true)], args := [d1, d2, d3] }
  | _ => none }
def poolStackRow : OpenClaim := { program := "ytkpffnihnhlghaadoor", sum := "21aad1f9281bf93b3c2e52c5250b1a3ef4ad67b00295b11efd92319c1328d633", func := "intaglio/intagliolaw11.PoolStack", spec := "poolStack", inPlace := ["sync/atomic.AddInt64"], unfollowed := true, recurses := true, named := ["intaglio/plan.limits"], apart := false, laid := [("intaglio/plan.limits", laid_intaglio_plan_limits)] }
def PoolStackSaid : Prop := poolStackRow.holds Tryd.pinned (OpenSpec.ofChange poolStackSpec)

/-- ITS FALSE NEIGHBOUR: 'it returns false'. Refute it at one input. -/
def poolStackWrong : ChangeSpec := { name := "poolStack", fn := fun _ => fun
  | [d1, d2, d3] => { results := [.lit (.bool false)], args := [d1, d2, d3] }
  | _ => none }
def PoolStackWrongFalsely : Prop := poolStackRow.holds Tryd.pinned (OpenSpec.ofChange poolStackWrong)

/- THE SECOND FORM. 'bulk': how many values and letters a reading holds, each counted each time it is reached (what is shared counts as often as it is met; a slice's spare places count too). A statement '..UptoSaid' is the law's where the arguments, and the package variables that the reading takes, are together of bulk at most 1048576: NARROWER than '..Said'. Prove '..Said' where nothing that the law and all that it calls make is longer than what came in: it says more and counts as full. Else prove '..UptoSaid'. A law counts once. -/
mutual
def uptoBulk {H : Type} : DataW H → Nat
  | .lit (.string bytes) => bytes.length + 1
  | .lit _ => 1
  | .nil => 1
  | .ptr d => uptoBulk d + 1
  | .slice elems spare => uptoBulkAll elems + uptoBulkAll spare + 1
  | .agg parts => uptoBulkAll parts + 1
  | .iface _ d => uptoBulk d + 1
  | .map entries => uptoBulkEntries entries + 1
  | .held _ => 1
def uptoBulkAll {H : Type} : List (DataW H) → Nat
  | [] => 0
  | d :: r => uptoBulk d + uptoBulkAll r
def uptoBulkEntries {H : Type} : List (Lit × DataW H) → Nat
  | [] => 0
  | x :: r => uptoBulkEntry x + uptoBulkEntries r
def uptoBulkEntry {H : Type} : Lit × DataW H → Nat
  | (.string bytes, d) => bytes.length + uptoBulk d + 1
  | (_, d) => uptoBulk d + 1
 end
def uptoSmall : (H : Type) → List (DataW H) → Bool := fun _ ds => decide (uptoBulkAll ds ≤ 1048576)
def OpenSpec.upto (s : _root_.Go.ChangeSpec) : _root_.Go.OpenSpec := { _root_.Go.OpenSpec.ofChange s with cond := some uptoSmall }

/-- 'intagliolaw09.LookWalks', WHERE WHAT IT READS IS OF BULK AT MOST 1048576: true; the input reads as it did. -/
def lookWalksUptoRow : OpenClaim := { program := "ytkpffnihnhlghaadoor", sum := "21aad1f9281bf93b3c2e52c5250b1a3ef4ad67b00295b11efd92319c1328d633", func := "intaglio/intagliolaw09.LookWalks", spec := "lookWalks", inPlace := ["internal/reflectlite.ValueOf", "(internal/reflectlite.Value).Type", "(internal/reflectlite.Value).IsNil", "internal/reflectlite.TypeOf", "(internal/reflectlite.Value).Elem", "(internal/reflectlite.Value).Set"], unfollowed := true, recurses := true, named := ["errors.errorType"], apart := false, laid := [("errors.errorType", laid_errors_errorType)], narrowed := true }
def LookWalksUptoSaid : Prop := lookWalksUptoRow.holds Tryd.pinned (OpenSpec.upto lookWalksSpec)

/-- 'intagliolaw11.PoolPlays', WHERE WHAT IT READS IS OF BULK AT MOST 1048576: true; the input reads as it did. -/
def poolPlaysUptoRow : OpenClaim := { program := "ytkpffnihnhlghaadoor", sum := "21aad1f9281bf93b3c2e52c5250b1a3ef4ad67b00295b11efd92319c1328d633", func := "intaglio/intagliolaw11.PoolPlays", spec := "poolPlays", inPlace := ["sync/atomic.AddInt64", "sync/atomic.LoadInt64"], unfollowed := true, recurses := true, named := ["intaglio/plan.limits"], apart := false, laid := [("intaglio/plan.limits", laid_intaglio_plan_limits)], narrowed := true }
def PoolPlaysUptoSaid : Prop := poolPlaysUptoRow.holds Tryd.pinned (OpenSpec.upto poolPlaysSpec)

/-- 'intagliolaw11.PoolApart', WHERE WHAT IT READS IS OF BULK AT MOST 1048576: true; the input reads as it did. -/
def poolApartUptoRow : OpenClaim := { program := "ytkpffnihnhlghaadoor", sum := "21aad1f9281bf93b3c2e52c5250b1a3ef4ad67b00295b11efd92319c1328d633", func := "intaglio/intagliolaw11.PoolApart", spec := "poolApart", inPlace := ["sync/atomic.AddInt64"], unfollowed := true, recurses := true, named := ["intaglio/plan.limits"], apart := false, laid := [("intaglio/plan.limits", laid_intaglio_plan_limits)], narrowed := true }
def PoolApartUptoSaid : Prop := poolApartUptoRow.holds Tryd.pinned (OpenSpec.upto poolApartSpec)

/-- 'intagliolaw11.PoolAlone', WHERE WHAT IT READS IS OF BULK AT MOST 1048576: true; the input reads as it did. -/
def poolAloneUptoRow : OpenClaim := { program := "ytkpffnihnhlghaadoor", sum := "21aad1f9281bf93b3c2e52c5250b1a3ef4ad67b00295b11efd92319c1328d633", func := "intaglio/intagliolaw11.PoolAlone", spec := "poolAlone", inPlace := ["sync/atomic.AddInt64"], unfollowed := true, recurses := true, named := ["intaglio/plan.limits"], apart := false, laid := [("intaglio/plan.limits", laid_intaglio_plan_limits)], narrowed := true }
def PoolAloneUptoSaid : Prop := poolAloneUptoRow.holds Tryd.pinned (OpenSpec.upto poolAloneSpec)

/-- 'intagliolaw11.PoolNil', WHERE WHAT IT READS IS OF BULK AT MOST 1048576: true; the input reads as it did. -/
def poolNilUptoRow : OpenClaim := { program := "ytkpffnihnhlghaadoor", sum := "21aad1f9281bf93b3c2e52c5250b1a3ef4ad67b00295b11efd92319c1328d633", func := "intaglio/intagliolaw11.PoolNil", spec := "poolNil", inPlace := ["sync/atomic.AddInt64", "sync/atomic.LoadInt64"], unfollowed := true, recurses := true, named := ["intaglio/plan.limits"], apart := false, laid := [("intaglio/plan.limits", laid_intaglio_plan_limits)], narrowed := true }
def PoolNilUptoSaid : Prop := poolNilUptoRow.holds Tryd.pinned (OpenSpec.upto poolNilSpec)

/-- 'intagliolaw11.PoolStack', WHERE WHAT IT READS IS OF BULK AT MOST 1048576: true; the input reads as it did. -/
def poolStackUptoRow : OpenClaim := { program := "ytkpffnihnhlghaadoor", sum := "21aad1f9281bf93b3c2e52c5250b1a3ef4ad67b00295b11efd92319c1328d633", func := "intaglio/intagliolaw11.PoolStack", spec := "poolStack", inPlace := ["sync/atomic.AddInt64"], unfollowed := true, recurses := true, named := ["intaglio/plan.limits"], apart := false, laid := [("intaglio/plan.limits", laid_intaglio_plan_limits)], narrowed := true }
def PoolStackUptoSaid : Prop := poolStackUptoRow.holds Tryd.pinned (OpenSpec.upto poolStackSpec)

end Rows
end Go.Proofs.YtkpffnihnhlghaaDoor
