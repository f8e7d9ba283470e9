/- The builder in memory; a field's own word is laid. -/
import Derived.Test.YtkhbhkllnigbgaaDoorBMath
import Derived.Test.YtkhbhkllnigbgaaDoorTSize
import Derived.Test.YtkhbhkllnigbgaaDoorQApp
import Derived.Deep.AppendLies
import Derived.Deep.RegionLaw
import Derived.Laws.OwnMore
import Derived.Test.YtkhbhkllnigbgaaDoorTCheck
import Derived.Test.YtkhbhkllnigbgaaDoorBMath2
import Derived.Deep.RegionHeld3
import Derived.Test.YtkhbhkllnigbgaaDoorTMade2
import Derived.Deep.Upon
import Derived.Test.YtkhbhkllnigbgaaDoorTSize2
import Derived.Test.YtkhbhkllnigbgaaDoorCsTwo
namespace Go.Proofs.YtkhbhkllnigbgaaDoor
open Go.ChangeShapes Go.WideShapes Go.ChangeAt Go.RowKit
def wcells (L : List Nat) : List Value := L.map fun x => Value.int .u64 (x : Nat)

end Go.Proofs.YtkhbhkllnigbgaaDoor

namespace Go.Proofs.YtkhbhkllnigbgaaDoor
open Go.ChangeShapes Go.WideShapes Go.ChangeAt Go.RowKit

end Go.Proofs.YtkhbhkllnigbgaaDoor

namespace Go.Proofs.YtkhbhkllnigbgaaDoor
open Go.ChangeShapes Go.WideShapes Go.ChangeAt Go.RowKit
def ownTo (x : Tr) (i : Nat) : List Nat := (List.range i).map fun i => (x.kf i).num
theorem ownTo_succ (x : Tr) (i : Nat) : ownTo x (i + 1) = ownTo x i ++ [(x.kf i).num] := by simp [ownTo, List.range_succ]

end Go.Proofs.YtkhbhkllnigbgaaDoor

namespace Go.Proofs.YtkhbhkllnigbgaaDoor
open Go.ChangeShapes Go.WideShapes Go.ChangeAt Go.RowKit
/-- A field as the builder gets it. -/
def boxF (p k τ : Int) (y : Tr) (A1 : Option Addr) (k1 : Nat) (A2 : Option Addr) (k2 : Nat) (j : Nat) : Value :=
  if j = 0 then .int .i64 p else if j = 1 then .int .i64 k else if j = 2 then .int .i64 τ else if j = 3 then .int .u64 (y.num : Nat) else if j = 4 then .string y.bs else if j = 5 then .slice A1 y.nl k1 else .slice A2 y.kl k2
def kidsX (y : Tr) : Tr := .mk 0 ⟨#[]⟩ 0 (fun _ => 0) y.kl y.kf
theorem TAt.kidsOf {W : World} {P : Nat → Prop} {y : Tr} {A1 A2 : Option Addr} (h : TAt W P y A1 A2) : TAt W P (kidsX y) none A2 := ⟨none_row _ _ _, ((TAt_eq _ _ _ _ _).1 h).2⟩
theorem NRow.below {w w' : World} {P : Nat → Prop} {A : Option Addr} {L : Nat} {f : Nat → Nat} (h : NRow w P A L f) (hb : Below w.heap.size w w') : NRow w' P A L f := ⟨h.1.below hb, h.2⟩
theorem NRow.butP {w w' : World} {Q P : Nat → Prop} {A : Option Addr} {L : Nat} {f : Nat → Nat} (h : NRow w P A L f) (hb : ButP Q w w') (hQ : ∀ b, P b → ¬ Q b) : NRow w' P A L f := ⟨h.1.of_block (fun h0 a e hl => hb.block _ hl (hQ _ (h.2 h0 a e))) hb.size, h.2⟩
theorem ButP.mono {Q Q' : Nat → Prop} {w w' : World} (h : ButP Q w w') (hq : ∀ b, Q b → Q' b) : ButP Q' w w' := ⟨h.os, h.tape, h.output, h.size, fun k hk hn => h.block k hk fun e => hn (hq _ e)⟩
theorem wcells_get (L : List Nat) (j : Nat) (u : Value) (h : (wcells L)[j]? = some u) : ∃ x, L[j]? = some x ∧ u = .int .u64 (x : Nat) := by
  simp only [wcells, List.getElem?_map] at h
  cases hx : L[j]? with
  | none => rw [hx] at h; cases h
  | some x => rw [hx] at h; exact ⟨x, rfl, (Option.some.inj h).symm⟩
theorem wcells_one (L : List Nat) : ∀ u ∈ wcells L, u.oneCell' = true := by
  intro u hu
  simp only [wcells, List.mem_map] at hu
  obtain ⟨x, _, rfl⟩ := hu
  rfl
theorem nrow_cells {W : World} {P : Nat → Prop} {A : Option Addr} {y : Tr} (h : NRow W P A y.nl y.nf) (h0 : 0 < y.nl) : ∃ a, A = some a ∧ P a.block ∧ ∀ j u, (wcells (numsL y))[j]? = some u → W.cell? (a.add j) = some u := by
  obtain ⟨b, o, hA, _, hc⟩ := h.1.2 h0
  refine ⟨⟨b, o, none⟩, hA, h.2 h0 _ hA, fun j u hu => ?_⟩
  obtain ⟨x, hx, rfl⟩ := wcells_get _ _ _ hu
  have hj : j < y.nl := by
    have := (List.getElem?_eq_some_iff.1 hx).1
    rw [numsL_length] at this
    exact this
  have e : x = y.nf j := by
    simp only [numsL, List.getElem?_map, List.getElem?_range hj, Option.map_some] at hx
    exact (Option.some.inj hx).symm
  rw [e, addr_add]
  exact hc j hj
theorem row_cells {W : World} {z : Nat} {bs : ByteArray} (h : W.rowIs z 26 (cnt bs.size) (fun j => .int .u64 (wordOf bs j : Nat))) : ∀ j u, (wcells (wordsB bs))[j]? = some u → W.cell? ((⟨z, 0, none⟩ : Addr).add j) = some u := fun j u hu => by
  obtain ⟨x, hx, rfl⟩ := wcells_get _ _ _ hu
  have hj : j < cnt bs.size := by
    have := (List.getElem?_eq_some_iff.1 hx).1
    rw [wordsB_length] at this
    exact this
  have e : x = wordOf bs j := by
    simp only [wordsB, List.getElem?_map, List.getElem?_range hj, Option.map_some] at hx
    exact (Option.some.inj hx).symm
  rw [e, addr_add, Nat.zero_add]
  exact h.cell hj

end Go.Proofs.YtkhbhkllnigbgaaDoor

namespace Go.Proofs.YtkhbhkllnigbgaaDoor
open Go.ChangeShapes Go.WideShapes Go.ChangeAt Go.RowKit
theorem wpList_append_none {P : Program} (w : World) {ops : Array Oper} {rest : List Oper} {o : Oper} {a : Act} {Q : Exit → Act → World → Prop} (hgd : o.guard = none) (s x : Operand) (t : TypeId) (ho : o.op = .call { callee := .builtin .append, args := #[s, x], argTypes := #[t, t] }) (e : TypeId) (i : TypeInfo) (ht : P.underlying t = some (.slice e)) (hi : P.info? e = some i) (base : Option Addr) (n c : Nat) (hle : n ≤ c) (hs : a.eval s = .slice base n c) (A : Option Addr) (cc : Nat) (hx : a.eval x = .slice A 0 cc) (h : wpList P ops Q rest (a.put o.dst (.slice base n c)) w) :
    wpList P ops Q (o :: rest) a w :=
  wpList_plain hgd fun _ hK => by
    have src : Src P i.size t (.slice A 0 cc) 0 [] w := ⟨.inl ⟨e, ht⟩, fun w' => rfl, by cases A <;> simp [Builtin.firstCells, loadCells, loadCellsFrom], by cases A <;> simp [Builtin.firstCells, loadCells, loadCellsFrom], by simp, fun _ h => by cases h⟩
    have hr := run_append_nothing w t t o.type e i ht hi base n c hle _ src
    unfold Oper.wp execOp
    simp only [ho, resolve, invoke, builtin, Sem.run_bind, Sem.run_pure, Result.andThen_ok, List.map_toArray, List.map_cons, List.map_nil, hs, hx, hr]
    exact hK _ _ h

end Go.Proofs.YtkhbhkllnigbgaaDoor

namespace Go.Proofs.YtkhbhkllnigbgaaDoor
open Go.ChangeShapes Go.WideShapes Go.ChangeAt Go.RowKit
theorem kt_in {s : Sch} (hR : RightS s) {t j : Nat} (ht : t < s.n) (hj : j < s.len t) : kAt s (t : Int) (j : Int) = s.k t j ∧ tAt s (t : Int) (j : Int) = (((s.t t j).toNat : Nat) : Int) := by
  have hc : hasT s (t : Int) ∧ (0 : Int) ≤ (j : Int) ∧ (j : Int) < s.len (t : Int).toNat := ⟨by unfold hasT; omega, by omega, by rw [Int.toNat_natCast]; omega⟩
  have hf := hR.field ht hj
  refine ⟨?_, ?_⟩
  · rw [kAt, if_pos hc, Int.toNat_natCast, Int.toNat_natCast]
  · rw [tAt, if_pos hc, Int.toNat_natCast, Int.toNat_natCast]
    omega

end Go.Proofs.YtkhbhkllnigbgaaDoor

namespace Go.Proofs.YtkhbhkllnigbgaaDoor
open Go.ChangeShapes Go.WideShapes Go.ChangeAt Go.RowKit

end Go.Proofs.YtkhbhkllnigbgaaDoor
