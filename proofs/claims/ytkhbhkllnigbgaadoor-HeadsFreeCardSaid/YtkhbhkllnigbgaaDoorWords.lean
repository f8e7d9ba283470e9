/- Words: a copy of an arena's words. -/
import Derived.Test.YtkhbhkllnigbgaaDoorSt
import Derived.Lib.SliceRun
import Derived.ChangeMaps5
namespace Go.Proofs.YtkhbhkllnigbgaaDoor
open Go.RowKit
def cellsI (f : Nat → Int) (n : Nat) : List Value := (List.range n).map fun j => .int .u64 (f j)
theorem cellsI_length (f : Nat → Int) (n : Nat) : (cellsI f n).length = n := by simp [cellsI]
theorem addr_add (g i j : Nat) : (⟨g, i, none⟩ : Addr).add j = ⟨g, i + j, none⟩ := by simp [Addr.add]
theorem cells_lie {W : World} {g n : Nat} {f : Nat → Int} (h : W.rowIs g 26 n (fun j => .int .u64 (f j))) : ∀ j u, (cellsI f n)[j]? = some u → W.cell? ((⟨g, 0, none⟩ : Addr).add j) = some u := by
  intro j u hj
  have hl : j < n := by
    have := (List.getElem?_eq_some_iff.1 hj).1
    simpa [cellsI] using this
  rw [addr_add, Nat.zero_add, h.cell hl]
  simp [cellsI, hl] at hj
  rw [hj]

/-- A copy of n words has been made; nothing else. -/
def Copied (w : World) (n : Nat) (f : Nat → Int) (e : Ending) (w' : World) : Prop :=
  ∃ (g cap : Nat) (F : Nat → Value), e = .returned (.slice (some ⟨g, 0, none⟩) n cap) ∧ w.heap.size ≤ g ∧ n ≤ cap ∧ w'.rowIs g 26 cap F ∧ (∀ j, j < n → F j = .int .u64 (f j)) ∧ Below w.heap.size w w'

theorem info_u64' : ∃ i : TypeInfo, Tryd.prog.info? 26 = some i ∧ i.zero = some (.int .u64 0) ∧ i.size = 1 ∧ i.bytes = 8 := by
  obtain ⟨i, h, h'⟩ := Option.map_eq_some_iff.1 info_u64
  simp only [Prod.mk.injEq] at h'
  exact ⟨i, h, h'⟩

theorem own_row {W : World} {B n : Nat} {v : Value} {f : Nat → Int} (h : W.ownsRow B 26 1 v n (cellsI f n)) (hn : 1 ≤ n) : ∃ (g cap : Nat) (F : Nat → Value), v = .slice (some ⟨g, 0, none⟩) n cap ∧ B ≤ g ∧ n ≤ cap ∧ W.rowIs g 26 cap F ∧ (∀ j, j < n → F j = .int .u64 (f j)) := by
  rcases h.2 with ⟨_, h2⟩ | ⟨g, cap, cur, h1, h2, h3, h4, _, h6, h7⟩
  · omega
  · refine ⟨g, cap, fun j => cur[j]?.getD default, h1, h2, h4, ⟨cur, h3, by omega, fun j hj => ?_⟩, fun j hj => ?_⟩
    · show cur[j]? = some (cur[j]?.getD default)
      rw [Array.getElem?_eq_getElem (by omega), Option.getD_some]
    · have e : (cur.toList.take (n * 1))[j]? = (cellsI f n)[j]? := by rw [h7]
      rw [List.getElem?_take_of_lt (by omega)] at e
      simp [cellsI, hj] at e
      simp [e]


end Go.Proofs.YtkhbhkllnigbgaaDoor
