/- Top is a trouble's first code, Has tells whether a code is one of its codes. -/
import Derived.Test.YtojlimpooeehhaaDoorCsAs
namespace Go.Proofs.YtojlimpooeehhaaDoor.Cs
open Go.RowKit Go.Extern.Stop Go.Stop Go.Extern


/-- errors.errorType, as it is laid. -/
def ErrT (w : World) : Prop := w.cell? ⟨0, 0, none⟩ = some (.iface 139 (.agg #[.pointer (some ⟨1, 53, none⟩)]))
theorem ErrT.below {w w' : World} (h : ErrT w) (hb : Below w.heap.size w w') : ErrT w' :=
  (hb.cell (p := ⟨0, 0, none⟩) (World.block_lt_of_cell? w _ h)).trans h

set_option maxRecDepth 100000 in
set_option maxHeartbeats 1000000 in
theorem errors_as_nil (v : Value) (w : World) : Calls Tryd.prog 49 #[.nilIface, v] w fun e w' => e = .returned (.bool false) ∧ w = w' := by
  go_enter Tryd.func49, Tryd.ntmps49
  go_wp2
  go_ret
  exact ⟨rfl, rfl⟩

set_option maxRecDepth 100000 in
set_option maxHeartbeats 2000000 in
theorem errors_as (a : Nat) (t : List (Int × Int)) (ht : t ≠ []) (hok : Ok t) (w : World) (hT : Target52 a w) (hE : ErrT w) :
    Calls Tryd.prog 49 #[enc t, .iface 90 (.pointer (some ⟨a, 0, none⟩))] w fun e w' => e = .returned (.bool true) ∧ Found a (topP t) w w' := by
  obtain ⟨x, r, rfl⟩ : ∃ x r, t = x :: r := by
    cases t with
    | nil => exact absurd rfl ht
    | cons x r => exact ⟨x, r, rfl⟩
  obtain ⟨T, u, hx⟩ := enc_cons x r
  have HL := Lib.hid (fun W b h1 h2 => as_loop a b (x :: r) ht hok W h1 h2)
  rw [hx] at HL ⊢
  clear ht hok hx
  have h1 := rl_valueOf ⟨a, 0, none⟩
  have h2 := rl_type
  have h3 := rl_mKind
  have h4 := rl_kind52
  have h5 := rl_kind38
  have h6 := rl_mElem
  have h7 := rl_elem52
  have h8 := rl_mImplements
  have h9 := rl_implements38
  obtain ⟨w1, hw1⟩ : ∃ w1, (w.alloc (.cells #[.pointer (some ⟨a, 0, none⟩)] 90)).alloc (.cells #[.pointer (some ⟨1, 90, none⟩), .pointer (some ⟨w.heap.size, 0, none⟩), .int .u64 150] 112) = w1 := ⟨_, rfl⟩
  have hbox : Boxed w1 w.heap.size 90 (.pointer (some ⟨a, 0, none⟩)) := by rw [← hw1]; exact (Boxed.new w 90 _).alloc _
  have hb1 : Below w.heap.size w w1 := by rw [← hw1]; exact ((Below.refl _ w).alloc (Nat.le_refl _) _).alloc (by simp) _
  have n1 := rl_isNil ⟨w.heap.size, 0, none⟩ ⟨a, 0, none⟩ w1 hbox.cell
  have hg : w1.cell? ⟨0, 0, none⟩ = some (.iface 139 (.agg #[.pointer (some ⟨1, 53, none⟩)])) := hE.below hb1
  have hv : w1.heap[w.heap.size + 1]? = some (.cells #[.pointer (some ⟨1, 90, none⟩), .pointer (some ⟨w.heap.size, 0, none⟩), .int .u64 150] 112 (0, 0)) := by
    rw [← hw1]
    have := heap_new (w.alloc (.cells #[.pointer (some ⟨a, 0, none⟩)] 90)) (.cells #[.pointer (some ⟨1, 90, none⟩), .pointer (some ⟨w.heap.size, 0, none⟩), .int .u64 150] 112)
    rwa [World.size_alloc] at this
  have c0 : w1.cell? ⟨w.heap.size + 1, 0, none⟩ = some (.pointer (some ⟨1, 90, none⟩)) := by simp [World.cell?, hv]
  have c1 : w1.cell? ⟨w.heap.size + 1, 1, none⟩ = some (.pointer (some ⟨w.heap.size, 0, none⟩)) := by simp [World.cell?, hv]
  have c2 : w1.cell? ⟨w.heap.size + 1, 2, none⟩ = some (.int .u64 150) := by simp [World.cell?, hv]
  have HC := Lib.hid (HL.out w1 w.heap.size (hT.below hb1) hbox)
  clear hv hbox hE hT HL
  go_enter Tryd.func49, Tryd.ntmps49
  go_wp2_with (go_at_call 72; refine HC.out.mono ?_; rintro e w2 ⟨rfl, hF⟩)
  go_ret
  exact ⟨rfl, hF.after hb1⟩

end Go.Proofs.YtojlimpooeehhaaDoor.Cs
