/- What is laid: plan.limits; arguments that are configs, or arrays. -/
import Derived.Test.YtkpffnihnhlghaaDoorPPack
import Derived.ProofKit
import Derived.OpenShut
import Derived.ShutString
import Derived.ChangeOld
import Derived.ChangeSlices
import Derived.ChangeSame
import Derived.LaidHandle
import Derived.LaidMore
namespace Go.Proofs.YtkpffnihnhlghaaDoor
open Go.ChangeShapes Go.WideShapes Go.ChangeAt Go.RowKit
theorem own : ownKnob Tryd.prog.godebug = none := by kernel_rfl
theorem laidOut : laidOutB Tryd.prog = true := by kernel_rfl
theorem gLim : Tryd.prog.globalNamed "intaglio/plan.limits" = some 1 := by kernel_rfl
theorem tLim : (Tryd.prog.globals[1]?).map (·.type) = some 240 := by kernel_rfl
theorem cells_limit : Tryd.prog.cellsOf 239 = 2 := by kernel_rfl
theorem cells_int : Tryd.prog.cellsOf 3 = 1 := by kernel_rfl

set_option maxRecDepth 100000 in
theorem lim_pair {H : Type} {enc : TypeId × Value → H} {W : World} {held : Bool} {m : Nat} {cs : List Value} {a b : Int} {p : List MemPlace}
    (h : DataW.trod enc Tryd.prog W 0 (fun _ => true) held m 239 cs = some (.agg [.lit (.int .i64 a), .lit (.int .i64 b)], p)) : cs = [.int .i64 a, .int .i64 b] := by
  obtain ⟨xs, n', _, hd, hlen, hxl, hg⟩ := DataW.trod_struct Tryd.underlying239 h
  rw [cells_limit] at hlen
  match cs, hlen with
  | [v0, v1], _ =>
    match xs, hxl with
    | [x0, x1], _ =>
      have g0 := hg 0 _ rfl
      have g1 := hg 1 _ rfl
      simp only [List.getElem?_cons_zero, List.getElem?_cons_succ] at g0 g1
      obtain ⟨a0, e0, f0, _⟩ := DataW.trod_int Tryd.underlying3 g0
      obtain ⟨a1, e1, f1, _⟩ := DataW.trod_int Tryd.underlying3 g1
      injection e0 with e0
      injection e1 with e1
      subst e0 e1 f0 f1
      simp at hd
      rw [hd.1.1, hd.1.2]

set_option maxRecDepth 100000 in
theorem lim_of_laid {W : World} (h : laidMet Tryd.prog [("intaglio/plan.limits", Rows.laid_intaglio_plan_limits)] W) : Lim W := by
  obtain ⟨ps, hv, _⟩ := h
  obtain ⟨g, t, cs, fuel, p, q, hg, ht, hvar, htr, _⟩ := hv
  obtain rfl := Option.some.inj (gLim.symm.trans hg)
  obtain rfl := Option.some.inj (tLim.symm.trans ht)
  obtain ⟨xs, m, _, hd, hlen, hxl, hx⟩ := DataW.trod_array Tryd.underlying240 htr
  rw [cells_limit] at hx
  have hd' : xs.map (·.1) = (List.range 9).map fun k => (.agg [.lit (.int .i64 (lo k)), .lit (.int .i64 (hi k))] : DataW Unit) := by
    have := (Prod.mk.inj hd).1
    injection this with this
    exact this.symm
  intro k hk
  have h1 := hx k hk
  obtain ⟨y, hy⟩ : ∃ y, xs[k]? = some y := ⟨xs[k]'(by omega), List.getElem?_eq_getElem (by omega)⟩
  have h2 : y.1 = .agg [.lit (.int .i64 (lo k)), .lit (.int .i64 (hi k))] := by
    have e : (xs.map (·.1))[k]? = some y.1 := by simp [hy]
    rw [hd'] at e
    simp [hk] at e
    exact e.symm
  rw [hy] at h1
  have h3 := lim_pair (p := y.2) (a := lo k) (b := hi k) (by rw [h1, ← h2])
  have c0 : cs.toList[k * 2]? = some (.int .i64 (lo k)) := by
    have e : ((cs.toList.drop (k * 2)).take 2)[0]? = some (.int .i64 (lo k)) := by rw [h3]; rfl
    rw [List.getElem?_take_of_lt (by omega), List.getElem?_drop] at e
    simpa using e
  have c1 : cs.toList[k * 2 + 1]? = some (.int .i64 (hi k)) := by
    have e : ((cs.toList.drop (k * 2)).take 2)[1]? = some (.int .i64 (hi k)) := by rw [h3]; rfl
    rw [List.getElem?_take_of_lt (by omega), List.getElem?_drop] at e
    simpa using e
  have k0 := World.var?_cell gLim hvar (k * 2)
  have k1 := World.var?_cell gLim hvar (k * 2 + 1)
  exact ⟨by rw [k0]; simpa using c0, by rw [k1]; simpa using c1⟩

end Go.Proofs.YtkpffnihnhlghaaDoor
