/- Words: a copy of an arena's words. -/
import Derived.Test.YtkpffnihnhlghaaDoorSt
import Derived.Lib.SliceRun
import Derived.ChangeMaps5
namespace Go.Proofs.YtkpffnihnhlghaaDoor
open Go.RowKit
def cellsI (f : Nat → Int) (n : Nat) : List Value := (List.range n).map fun j => .int .u64 (f j)
theorem cellsI_length (f : Nat → Int) (n : Nat) : (cellsI f n).length = n := by simp [cellsI]
theorem addr_add (g i j : Nat) : (⟨g, i, none⟩ : Addr).add j = ⟨g, i + j, none⟩ := by simp [Addr.add]
theorem cells_lie {W : World} {g n : Nat} {f : Nat → Int} (h : W.rowIs g 29 n (fun j => .int .u64 (f j))) : ∀ j u, (cellsI f n)[j]? = some u → W.cell? ((⟨g, 0, none⟩ : Addr).add j) = some u := by
  intro j u hj
  have hl : j < n := by
    have := (List.getElem?_eq_some_iff.1 hj).1
    simpa [cellsI] using this
  rw [addr_add, Nat.zero_add, h.cell hl]
  simp [cellsI, hl] at hj
  rw [hj]

/-- A copy of n words has been made; nothing else. -/
def Copied (w : World) (n : Nat) (f : Nat → Int) (e : Ending) (w' : World) : Prop :=
  ∃ (g cap : Nat) (F : Nat → Value), e = .returned (.slice (some ⟨g, 0, none⟩) n cap) ∧ w.heap.size ≤ g ∧ n ≤ cap ∧ w'.rowIs g 29 cap F ∧ (∀ j, j < n → F j = .int .u64 (f j)) ∧ Below w.heap.size w w'

theorem info_u64' : ∃ i : TypeInfo, Tryd.prog.info? 29 = some i ∧ i.zero = some (.int .u64 0) ∧ i.size = 1 ∧ i.bytes = 8 := by
  obtain ⟨i, h, h'⟩ := Option.map_eq_some_iff.1 info_u64
  simp only [Prod.mk.injEq] at h'
  exact ⟨i, h, h'⟩

theorem own_row {W : World} {B n : Nat} {v : Value} {f : Nat → Int} (h : W.ownsRow B 29 1 v n (cellsI f n)) (hn : 1 ≤ n) : ∃ (g cap : Nat) (F : Nat → Value), v = .slice (some ⟨g, 0, none⟩) n cap ∧ B ≤ g ∧ n ≤ cap ∧ W.rowIs g 29 cap F ∧ (∀ j, j < n → F j = .int .u64 (f j)) := by
  rcases h.2 with ⟨_, h2⟩ | ⟨g, cap, cur, h1, h2, h3, h4, _, h6, h7⟩
  · omega
  · refine ⟨g, cap, fun j => cur[j]?.getD default, h1, h2, h4, ⟨cur, h3, by omega, fun j hj => ?_⟩, fun j hj => ?_⟩
    · show cur[j]? = some (cur[j]?.getD default)
      rw [Array.getElem?_eq_getElem (by omega), Option.getD_some]
    · have e : (cur.toList.take (n * 1))[j]? = (cellsI f n)[j]? := by rw [h7]
      rw [List.getElem?_take_of_lt (by omega)] at e
      simp [cellsI, hj] at e
      simp [e]

set_option maxHeartbeats 1000000 in
theorem clone_any (w : World) (c n : Nat) (f : Nat → Int) (h : w.rowIs c 29 n (fun j => .int .u64 (f j))) (h1 : 1 ≤ n) (h2 : n ≤ 4096) :
    Calls Tryd.prog 79 #[.slice (some ⟨c, 0, none⟩) n n] w (Copied w n f) := by
  obtain ⟨i0, hi, hz1, hz2, hz3⟩ := info_u64'
  have q : ∀ (w : World) (a : Option Addr) (n c n' c' : Nat), (binOp .eql 25 (.slice a n c) (.slice none n' c')).run Tryd.prog w = .ok (.bool a.isNone) w := fun w a n c n' c' => Lib.run_eql_slice_nil w _ _ a n c n' c' Tryd.underlying25
  have Hcl := Lib.hid (cells_lie (h.alloc (.cells #[] 29)))
  have hc := h.lt
  clear h
  go_enter Tryd.func79, Tryd.ntmps79
  go_wp2_with (at_builtin; refine wpList_append_own _ rfl (.tmp 5) (.tmp 6) 25 rfl w.heap.size 29 i0 (.int .u64 0) 1 8 Tryd.underlying25 hi hz1 hz2 hz3 rfl (by decide) _ 0 [] rfl (World.ownsRow_lit w #[] 0 (Nat.le_refl _) (by unfold maxLen; omega) rfl) ⟨c, 0, none⟩ n n (cellsI f n) rfl (by rw [cellsI_length]; omega) Hcl.out (by simp [cellsI, Value.oneCell']) (by unfold maxLen; omega) (by omega) (by simp) ?_; intro v4 w4 hown4 hgrow4 hnil4; simp only [Nat.zero_add, List.nil_append] at hown4 ⊢; have Hown4 := Lib.hid hown4; have Hgrow4 := Lib.hid hgrow4; have hlt4 := hgrow4.size; clear hown4 hgrow4 hnil4)
  obtain ⟨g, cap, F, rfl, k1, k2, k3, k4⟩ := own_row Hown4.out h1
  go_ret
  exact ⟨g, cap, F, rfl, k1, k2, k3, k4, ((Below.refl _ w).alloc (Nat.le_refl _) (.cells #[] 29)).grown Hgrow4.out (by simp) (fun k hk => by cases hk; exact Nat.le_refl _)⟩

set_option maxHeartbeats 400000 in
theorem words_any (w : World) (p c n : Nat) (x : St) (h : ArS w p c n x) (h1 : 1 ≤ n) (h2 : n ≤ 4096) :
    Calls Tryd.prog 35 #[.pointer (some ⟨p, 0, none⟩)] w (Copied w n x.f) := by
  have c0 := h.c0
  go_enter Tryd.func35, Tryd.ntmps35
  go_wp2_with fail
  refine (clone_any w c n x.f h.row h1 h2).mono ?_
  rintro e w' ⟨g, cap, F, rfl, k1, k2, k3, k4, k5⟩
  have H := Lib.hid k4
  have H5 := Lib.hid k5
  clear k4 k5 h c0
  go_wp2
  go_ret
  exact ⟨g, cap, F, rfl, k1, k2, k3, H.out, H5.out⟩


end Go.Proofs.YtkpffnihnhlghaaDoor
