/- At most 9 types, of 7 fields each. -/
import Derived.Test.YtfafffeeembceaaDoorQApp
namespace Go.Proofs.YtfafffeeembceaaDoor
open Go.ChangeShapes Go.WideShapes Go.ChangeAt Go.RowKit
def cutS (s : Sch) : Sch := ⟨min s.n 9, fun i => min (s.len i) 7, s.k, s.t⟩
theorem FRow.cut {W : World} {A : Option Addr} {L L' : Nat} {k t : Nat → Int} (h : FRow W A L k t) (hL : L' ≤ L) : FRow W A L' k t :=
  ⟨fun h0 => by
    obtain ⟨b, off, hA, hlt, hc⟩ := h.some_ (by omega)
    exact ⟨b, off, hA, hlt, fun j hj => hc j (by omega)⟩⟩

/-- A schema's types, as they are handed in. -/
def RawAt (W : World) (A : Option Addr) (s : Sch) : Prop := 0 < s.n → ∃ b off, A = some ⟨b, off, none⟩ ∧ b < W.heap.size ∧ ∀ i, i < s.n → ∃ Ai ci, W.cell? ⟨b, off + i, none⟩ = some (.slice Ai (s.len i) ci) ∧ s.len i ≤ ci ∧ FRow W Ai (s.len i) (s.k i) (s.t i)
theorem RawAt.below {W W' : World} {A : Option Addr} {s : Sch} (h : RawAt W A s) (hb : Below W.heap.size W W') : RawAt W' A s := fun h0 => by
  obtain ⟨b, off, hA, hlt, hc⟩ := h h0
  refine ⟨b, off, hA, Nat.lt_of_lt_of_le hlt hb.size, fun i hi => ?_⟩
  obtain ⟨Ai, ci, h1, h2, h3⟩ := hc i hi
  exact ⟨Ai, ci, (hb.cell (p := ⟨b, off + i, none⟩) hlt).trans h1, h2, h3.below hb⟩

set_option maxRecDepth 100000 in
set_option maxHeartbeats 4000000 in
theorem few_any (s : Sch) (A : Option Addr) (c : Nat) (w : World) (hc : ∀ i, i < s.n → s.len i ≤ 9223372036854775807) (hr : RawAt w A s) :
    Calls Tryd.prog 10 #[.slice A s.n c] w fun e w' => ∃ (A' : Option Addr) (c' : Nat), e = .returned (.slice A' (cutS s).n c') ∧ SAt w' A' (cutS s) ∧ Below w.heap.size w w' := by
  obtain ⟨j0, hj0, hy1, hy2, hy3⟩ := info_parts info_fs
  have HS := Lib.hid hr
  have HC := Lib.hid hc
  clear hr hc
  obtain ⟨n, HN⟩ : ∃ n, Hid (s.n = n) := ⟨_, Lib.hid rfl⟩
  rw [HN.out]
  go_enter Tryd.func10, Tryd.ntmps10
  go_wp2
  go_loopw [3, 4] (fun sv tv wr => ∃ (m : Nat) (ad : Nat → Option Addr) (cp : Nat → Nat) (a : Option Addr) (cc : Nat), m ≤ n ∧ m ≤ 9 ∧ tv = .int .i64 m ∧ sv = .slice a m cc ∧ Hid (TypA w (cutS s) m ad cp (.slice a m cc) wr)) (fun _ tv _ => 9 - (intOf tv).toNat)
  case atStart => exact ⟨0, fun _ => none, fun _ => 0, none, 0, by omega, by omega, rfl, rfl, Lib.hid (TypA.nil _ _ _ _ _ (Below.refl _ _))⟩
  case round =>
    obtain ⟨m, ad, cp, a, cc, hm, hm9, rfl, rfl, HT⟩ := hrel
    by_cases hlt : m < n ∧ m < 9
    · obtain ⟨b, off, rfl, hb, hcl⟩ := HS.out (by rw [HN.out]; omega)
      obtain ⟨Ai, ci, hcell, hcap, hf⟩ := hcl m (by rw [HN.out]; omega)
      have c1 := (HT.out.below.cell (p := ⟨b, off + m, none⟩) hb).trans hcell
      have HF := Lib.hid hf
      have hLm := HC.out m (by rw [HN.out]; omega)
      obtain ⟨d1, d2⟩ := hlt
      have hzz := HT.out.below.size
      have HP : Hid (∀ (A' : Option Addr) (L' : Nat), A' = Ai → L' ≤ s.len m → (0 < L' → Tag w wr A')) := Lib.hid (fun A' L' e h1 h0 => by
        subst e
        obtain ⟨b2, off2, e2, h2, _⟩ := hf.some_ (by omega)
        exact fun a ha => .inl (by rw [e2] at ha; cases ha; exact h2))
      clear hcl hcell hf
      obtain ⟨Lm, HL⟩ : ∃ Lm, Hid (s.len m = Lm) := ⟨_, Lib.hid rfl⟩
      rw [HL.out] at HF HP c1 hLm hcap
      by_cases h7 : 7 < Lm
      · obtain ⟨b2, off2, rfl, hb2, _⟩ := HF.out.some_ (by omega)
        have HC7 : Hid ((cutS s).len m = 7) := Lib.hid (by show min (s.len m) 7 = 7; rw [HL.out]; omega)
        go_wp2_with (at_builtin; (refine wpList_append_own _ rfl _ _ 23 rfl w.heap.size 46 j0 (.slice none 0 0) 1 24 Tryd.underlying23 hj0 hy1 hy2 hy3 rfl (by decide) _ _ _ rfl (HT.out.own.alloc _) ⟨_, 0, none⟩ 1 1 [.slice (some ⟨b2, off2, none⟩) 7 ci] rfl rfl (cell_one_new _ _ _) (by simp [Value.oneCell']) (by unfold maxLen; omega) (by omega) (by simp; omega) ?_); intro v' w1 hown' hgrow _; obtain ⟨g', cap', rfl⟩ := ownsRow_succ hown'; have Hnt := Lib.hid ((HT.out.next (k := s.k m) (t := s.t m) ((HF.out.below HT.out.below).cut (by omega)) (HP.out _ 7 rfl (by omega)) rfl hown' hgrow).congr (put_same (s' := cutS s) (fun _ _ => ⟨rfl, rfl, rfl⟩) HC7.out.symm rfl rfl)); clear hown' hgrow)
        go_roundw
        case rel => exact ⟨m + 1, _, _, _, cap', by omega, by omega, by go_num, rfl, Hnt⟩
        case measure => simp [intOf]; omega
      · have HC7 : Hid ((cutS s).len m = Lm) := Lib.hid (by show min (s.len m) 7 = Lm; rw [HL.out]; omega)
        go_wp2_with (at_builtin; (refine wpList_append_own _ rfl _ _ 23 rfl w.heap.size 46 j0 (.slice none 0 0) 1 24 Tryd.underlying23 hj0 hy1 hy2 hy3 rfl (by decide) _ _ _ rfl (HT.out.own.alloc _) ⟨_, 0, none⟩ 1 1 [.slice Ai Lm ci] rfl rfl (cell_one_new _ _ _) (by simp [Value.oneCell']) (by unfold maxLen; omega) (by omega) (by simp; omega) ?_); intro v' w1 hown' hgrow _; obtain ⟨g', cap', rfl⟩ := ownsRow_succ hown'; have Hnt := Lib.hid ((HT.out.next (k := s.k m) (t := s.t m) (HF.out.below HT.out.below) (HP.out _ _ rfl (Nat.le_refl _)) rfl hown' hgrow).congr (put_same (s' := cutS s) (fun _ _ => ⟨rfl, rfl, rfl⟩) HC7.out.symm rfl rfl)); clear hown' hgrow)
        go_roundw
        case rel => exact ⟨m + 1, _, _, _, cap', by omega, by omega, by go_num, rfl, Hnt⟩
        case measure => simp [intOf]; omega
    · have e : m = (cutS s).n := by show m = min s.n 9; rw [HN.out]; omega
      have hsat := TypA.sat (s := cutS s) (by rw [← e]; exact HT.out)
      obtain ⟨A', c', hv, hsat⟩ := hsat
      rw [← e] at hv
      have HV := Lib.hid hv
      have HE := Lib.hid e
      clear hv e
      go_wp2
      all_goals
        go_ret
        exact ⟨A', c', by rw [← HE.out]; rw [HV.out]; rfl, hsat, HT.out.below⟩

end Go.Proofs.YtfafffeeembceaaDoor
