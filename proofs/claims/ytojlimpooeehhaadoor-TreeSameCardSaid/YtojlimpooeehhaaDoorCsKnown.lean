/- known of a trouble is that trouble; Root is its last code. -/
import Derived.Test.YtojlimpooeehhaaDoorCsWord
namespace Go.Proofs.YtojlimpooeehhaaDoor.Cs
open Go.RowKit Go.Shelf

attribute [local go_sem] Oper.semAt_some

structure KnownI (v : Value) (w : World) (W : World) : Prop where
  arg : Boxed W w.heap.size 53 v
  res : Boxed W (w.heap.size + 1) 53 .nilIface
  below : Below w.heap.size w W
theorem knownI_turn {v : Value} {w : World} {B : Nat} (hB : w.heap.size ≤ B) (X Y : World) (h : KnownI v w X) (hT : TurnC B X Y) : KnownI v w Y :=
  ⟨boxed_turn h.arg hT rfl, boxed_turn h.res hT rfl, h.below.trans (hT.below.mono hB)⟩

set_option maxRecDepth 100000 in
set_option maxHeartbeats 2000000 in
theorem known_any (t : List (Int × Int)) (hok : Ok t) (ht : t.length ≤ 1000) (w : World) :
    Calls Tryd.prog 50 #[enc t] w fun e w' => e = .returned (enc t) ∧ Below w.heap.size w w' := by
  obtain ⟨v, hv⟩ : ∃ v, enc t = v := ⟨_, rfl⟩
  have hform : v = .nilIface ∨ ∃ T u, v = .iface T u := by
    cases t with
    | nil => exact .inl hv.symm
    | cons x r =>
      obtain ⟨T, u, h⟩ := enc_cons x r
      exact .inr ⟨T, u, by rw [← hv, h]⟩
  rw [hv]
  have Hok := Lib.hid hok; clear hok
  rcases hform with rfl | ⟨T, u, rfl⟩
  all_goals
    have Hv := Lib.hid hv; clear hv
    have HL := Lib.hid (fun w => links_made t w)
    rw [Hv.out] at HL
    refine (callsIn_wide (n := 3)).1 ?_
    refine callsIn_of_wp_marks Tryd.func50 rfl trivial ?_ rfl
    simp only [Tryd.ntmps50, List.size_toArray, List.length_cons, List.length_nil, Nat.reduceAdd, Nat.reduceSub, Array.replicate_succ, Array.replicate_zero, List.push_toArray, List.append_toArray, List.nil_append, List.cons_append]
    gi_wp2_with fail
    refine ⟨trivial, ?_⟩
    refine (callsIn_wide.2 (HL.out _)).mono ?_
    rintro e w' ⟨rfl, rfl⟩
    gi_wp2_with fail
  · obtain ⟨W0, hW0⟩ : ∃ W0, ((w.alloc (.cells #[.nilIface] 53)).alloc (.cells #[.nilIface] 53)).alloc (.cells #[.nilIface] 53) = W0 := ⟨_, rfl⟩
    have hz0 : W0.heap.size = w.heap.size + 3 := by rw [← hW0]; simp
    have hbox1 : Boxed W0 w.heap.size 53 (.nilIface) := by rw [← hW0]; exact ((Boxed.new w 53 _).alloc _).alloc _
    have hbox2 : Boxed W0 (w.heap.size + 1) 53 .nilIface := by
      rw [← hW0]
      have := (Boxed.new (w.alloc (.cells #[.nilIface] 53)) 53 .nilIface).alloc (.cells #[.nilIface] 53)
      simpa using this
    have hBn : Boxed W0 (w.heap.size + 1 + 1) 53 (enc t) := by
      rw [← hW0, Hv.out]
      have := Boxed.new ((w.alloc (.cells #[.nilIface] 53)).alloc (.cells #[.nilIface] 53)) 53 (.nilIface)
      simpa using this
    have hbl : Below w.heap.size w W0 := by rw [← hW0]; exact (((Below.refl _ w).alloc (Nat.le_refl _) _).alloc (by simp) _).alloc (by simp; omega) _
    rw [hW0]
    have Hstart := Lib.hid (show KnownI (.nilIface) w W0 from ⟨hbox1, hbox2, hbl⟩)
    clear hbox1 hbox2 hW0
    have hB0 : w.heap.size ≤ W0.heap.size := by omega
    refine range_links (t := t) (Bn := w.heap.size + 1 + 1) rfl rfl (enters_of Tryd.func97 (by kernel_rfl) rfl)
      (fun l W hb => links_any _ t Hok.out (by omega) l _ W (boxed_below hBn hb))
      (fun _ => KnownI (.nilIface) w) (fun _ _ => False) (fun _ X Y h hT => knownI_turn hB0 X Y h hT) (fun _ _ _ h _ => h) Hstart.out
      (fun q => { tmps := #[.nilIface, .pointer (some ⟨w.heap.size, 0, none⟩), .pointer (some ⟨w.heap.size + 1, 0, none⟩), enc q, .nilIface, .func (.func 97) #[] #[.pointer (some ⟨w.heap.size + 1 + 1, 0, none⟩)], enc q, undef, undef, undef, undef, undef, undef], defers := [] }) ?assign ?body ?done ?stop
    case assign =>
      intro l q W K hK
      gi_wp2
      exact hK
    case body =>
      intro l pre q W hpre hq hI
      obtain ⟨x, r, rfl⟩ : ∃ x r, q = x :: r := by
        cases q with
        | nil => exact absurd rfl hq
        | cons x r => exact ⟨x, r, rfl⟩
      have HI := Lib.hid hI; clear hI hpre hq
      have Hst := Lib.hid (stranger_any x r W)
      gi_wp2_with fail
      refine ⟨trivial, ?_⟩
      refine (CallsIn.inRound l (callsIn_wide.2 Hst.out)).mono ?_
      rintro e w' ⟨rfl, rfl⟩
      gi_wp2
      exact ⟨Keep.refl _, HI.out⟩
    case done =>
      rintro D W hD hI hK
      have hcell1 := hI.arg.cell
      have hcell2 := hI.res.cell
      have hfz2 := hI.res.frozen
      have HI := Lib.hid hI; clear hI
      gi_wp2
      have hK4 := (KeepsOthers.setCell W ⟨w.heap.size + 1, 0, none⟩ (.nilIface)).same D _ hK rfl
      refine ⟨by simp, .inl ⟨_, _, rfl, run_takeDeferred hK4, ?_⟩⟩
      have hc5 := cell_kept (HI.out.res.set (.nilIface)).cell (grownBy_putObj' _ D (.deferred none)) (fun r e => by cases e; exact ⟨_, hK4, rfl⟩)
      refine ⟨.nilIface, ?_, rfl, (HI.out.below.setCell (p := ⟨w.heap.size + 1, 0, none⟩) (by simp) _).trans (belowK_b (w := W0) hB0 _ D _ _ hD hK4 rfl rfl)⟩
      simp [results, Tryd.f50, go_sem, hc5]
    case stop =>
      rintro D pre W _ _ h _
      exact h.elim
  · obtain ⟨W0, hW0⟩ : ∃ W0, ((w.alloc (.cells #[.iface T u] 53)).alloc (.cells #[.nilIface] 53)).alloc (.cells #[.iface T u] 53) = W0 := ⟨_, rfl⟩
    have hz0 : W0.heap.size = w.heap.size + 3 := by rw [← hW0]; simp
    have hbox1 : Boxed W0 w.heap.size 53 (.iface T u) := by rw [← hW0]; exact ((Boxed.new w 53 _).alloc _).alloc _
    have hbox2 : Boxed W0 (w.heap.size + 1) 53 .nilIface := by
      rw [← hW0]
      have := (Boxed.new (w.alloc (.cells #[.iface T u] 53)) 53 .nilIface).alloc (.cells #[.iface T u] 53)
      simpa using this
    have hBn : Boxed W0 (w.heap.size + 1 + 1) 53 (enc t) := by
      rw [← hW0, Hv.out]
      have := Boxed.new ((w.alloc (.cells #[.iface T u] 53)).alloc (.cells #[.nilIface] 53)) 53 (.iface T u)
      simpa using this
    have hbl : Below w.heap.size w W0 := by rw [← hW0]; exact (((Below.refl _ w).alloc (Nat.le_refl _) _).alloc (by simp) _).alloc (by simp; omega) _
    rw [hW0]
    have Hstart := Lib.hid (show KnownI (.iface T u) w W0 from ⟨hbox1, hbox2, hbl⟩)
    clear hbox1 hbox2 hW0
    have hB0 : w.heap.size ≤ W0.heap.size := by omega
    refine range_links (t := t) (Bn := w.heap.size + 1 + 1) rfl rfl (enters_of Tryd.func97 (by kernel_rfl) rfl)
      (fun l W hb => links_any _ t Hok.out (by omega) l _ W (boxed_below hBn hb))
      (fun _ => KnownI (.iface T u) w) (fun _ _ => False) (fun _ X Y h hT => knownI_turn hB0 X Y h hT) (fun _ _ _ h _ => h) Hstart.out
      (fun q => { tmps := #[.iface T u, .pointer (some ⟨w.heap.size, 0, none⟩), .pointer (some ⟨w.heap.size + 1, 0, none⟩), enc q, .iface T u, .func (.func 97) #[] #[.pointer (some ⟨w.heap.size + 1 + 1, 0, none⟩)], enc q, undef, undef, undef, undef, undef, undef], defers := [] }) ?assign ?body ?done ?stop
    case assign =>
      intro l q W K hK
      gi_wp2
      exact hK
    case body =>
      intro l pre q W hpre hq hI
      obtain ⟨x, r, rfl⟩ : ∃ x r, q = x :: r := by
        cases q with
        | nil => exact absurd rfl hq
        | cons x r => exact ⟨x, r, rfl⟩
      have HI := Lib.hid hI; clear hI hpre hq
      have Hst := Lib.hid (stranger_any x r W)
      gi_wp2_with fail
      refine ⟨trivial, ?_⟩
      refine (CallsIn.inRound l (callsIn_wide.2 Hst.out)).mono ?_
      rintro e w' ⟨rfl, rfl⟩
      gi_wp2
      exact ⟨Keep.refl _, HI.out⟩
    case done =>
      rintro D W hD hI hK
      have hcell1 := hI.arg.cell
      have hcell2 := hI.res.cell
      have hfz2 := hI.res.frozen
      have HI := Lib.hid hI; clear hI
      gi_wp2
      have hK4 := (KeepsOthers.setCell W ⟨w.heap.size + 1, 0, none⟩ (.iface T u)).same D _ hK rfl
      refine ⟨by simp, .inl ⟨_, _, rfl, run_takeDeferred hK4, ?_⟩⟩
      have hc5 := cell_kept (HI.out.res.set (.iface T u)).cell (grownBy_putObj' _ D (.deferred none)) (fun r e => by cases e; exact ⟨_, hK4, rfl⟩)
      refine ⟨.iface T u, ?_, rfl, (HI.out.below.setCell (p := ⟨w.heap.size + 1, 0, none⟩) (by simp) _).trans (belowK_b (w := W0) hB0 _ D _ _ hD hK4 rfl rfl)⟩
      simp [results, Tryd.f50, go_sem, hc5]
    case stop =>
      rintro D pre W _ _ h _
      exact h.elim

end Go.Proofs.YtojlimpooeehhaaDoor.Cs
