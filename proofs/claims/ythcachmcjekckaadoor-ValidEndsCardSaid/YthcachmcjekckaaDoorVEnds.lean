/- What follows of any words: the law's helper ends. -/
import Derived.Test.YthcachmcjekckaaDoorVSp8
namespace Go.Proofs.YthcachmcjekckaaDoor
open Go.ChangeShapes Go.WideShapes Go.ChangeAt Go.RowKit
/-- What is told of any words, under a right schema. -/
theorem lookP_ends {s : Sch} (hR : RightS s) (f : Nat → Nat) (N : Nat) : (lookP s f N).2 ≤ N + 240 ∧ (((lookP s f N).1 = [] ∧ (lookP s f N).2 < N) ∨ (lookP s f N).1 = [(21, 0)] ∨ ∃ p k : Nat, (lookP s f N).1 = [(0, (p : Int)), ((k : Int), 0)] ∧ (k = 10 ∨ k = 16 ∨ k = 23)) := by
  unfold lookP
  rw [if_neg (by rw [okS_true hR]; decide)]
  by_cases hN : N = 0 ∨ 200 < N
  · rw [if_pos hN]
    exact ⟨by simp, .inr (.inl rfl)⟩
  · rw [if_neg hN]
    by_cases hf : ¬ f 0 % 4294967296 = N ∨ s.n ≤ f 0 / 4294967296
    · rw [if_pos hf]
      exact ⟨by simp, .inr (.inr ⟨0, 10, rfl, .inl rfl⟩)⟩
    · rw [if_neg hf]
      have h := bodyV_in hR f N (by omega)
      rcases vr_cases (bodyV s f N) with ⟨c, e⟩ | ⟨k, p, c, e⟩
      · rw [e] at h ⊢
        have h1 : c ≤ N - 1 := h.ok rfl
        exact ⟨by show c ≤ N + 240; omega, .inl ⟨rfl, by show c < N; omega⟩⟩
      · rw [e] at h ⊢
        have h1 : c ≤ N - 1 + 72 := h.le
        exact ⟨by show c ≤ N + 240; omega, .inr (.inr ⟨p, k, rfl, h.code k p rfl⟩)⟩
set_option maxRecDepth 100000 in
set_option maxHeartbeats 2000000 in
theorem ends_any (s : Sch) (hR : RightS s) (A : Option Addr) (cs : Nat) (Aw : Option Addr) (N cw : Nat) (f : Nat → Nat) (w : World) (hE : Cs.ErrT w) (hs : SAt w A s) (hr : WRow w Aw N f) (hcw : N ≤ cw) (hN : N ≤ 1000) : Calls Tryd.prog 20 #[.slice A s.n cs, .slice Aw N cw] w fun e w' => e = .returned (.bool true) ∧ Below w.heap.size w w' := by
  obtain ⟨h1, h2⟩ := lookP_ends hR f N
  have hv := visits_any s A cs Aw N cw f w hs hr hcw
  have hc := fun w' (hb : Below w.heap.size w w') => vcheck_any s A cs Aw N cw f w' (hs.below hb) (hr.below hb) hcw
  obtain ⟨⟨P, n⟩, hP⟩ : ∃ x, lookP s f N = x := ⟨_, rfl⟩
  rw [hP] at h1 h2 hv hc
  have h1 : n ≤ N + 240 := h1
  have HV := Lib.hid hv
  have HC := Lib.hid hc
  have HE := Lib.hid hE
  clear hv hc hE hs hr hP
  have d1 : decide ((0 : Int) ≤ (n : Int)) = true := by simp
  have d2 : decide ((n : Int) ≤ (N : Int) + 240) = true := by simp; omega
  have d2' : decide (n ≤ N + 240) = true := by simp; omega
  rcases h2 with ⟨e, hlt⟩ | e | ⟨p, k, e, hk⟩
  · have e : P = [] := e
    subst e
    have hlt : n < N := hlt
    have d3 : decide ((n : Int) < (N : Int)) = true := by simp; omega
    have d3' : decide (n < N) = true := by simp; omega
    go_enter Tryd.func20, Tryd.ntmps20
    go_wp2_with fail
    refine HV.out.mono ?_
    rintro e w1 ⟨rfl, hb⟩
    have HB1 := Lib.hid hb
    clear hb
    go_wp2_with fail
    refine (HC.out _ HB1.out).mono ?_
    rintro e w2 ⟨rfl, hb⟩
    rw [show Cs.enc (([], n) : List (Int × Int) × Nat).1 = .nilIface from rfl]
    have HB2 := Lib.hid (Below.step HB1.out hb HB1.out.size)
    clear hb
    go_wp2_with fail
    refine (top_none _ (HE.out.below HB2.out)).mono ?_
    rintro e w3 ⟨rfl, hb⟩
    have HB3 := Lib.hid (Below.step HB2.out hb HB2.out.size)
    clear hb
    go_wp2
    go_ret
    exact ⟨rfl, HB3.out⟩
  · have e : P = [(21, 0)] := e
    subst e
    go_enter Tryd.func20, Tryd.ntmps20
    go_wp2_with fail
    refine HV.out.mono ?_
    rintro e w1 ⟨rfl, hb⟩
    have HB1 := Lib.hid hb
    clear hb
    go_wp2_with fail
    refine (HC.out _ HB1.out).mono ?_
    rintro e w2 ⟨rfl, hb⟩
    rw [enc_code1 21 (by decide)]
    have HB2 := Lib.hid (Below.step HB1.out hb HB1.out.size)
    clear hb
    go_wp2_with fail
    refine (top_one 21 (by decide) _ (HE.out.below HB2.out)).mono ?_
    rintro e w3 ⟨rfl, hb⟩
    have HB3 := Lib.hid (Below.step HB2.out hb HB2.out.size)
    clear hb
    go_wp2
    go_ret
    exact ⟨rfl, HB3.out⟩
  · have e : P = [(0, (p : Int)), ((k : Int), 0)] := e
    subst e
    have k0 : ¬ (k : Int) = 0 := by omega
    have k1 : ((k : Int) != 0) = true := by simp; omega
    have k2 : ((k : Int) != 1) = true := by simp; omega
    go_enter Tryd.func20, Tryd.ntmps20
    go_wp2_with fail
    refine HV.out.mono ?_
    rintro e w1 ⟨rfl, hb⟩
    have HB1 := Lib.hid hb
    clear hb
    go_wp2_with fail
    refine (HC.out _ HB1.out).mono ?_
    rintro e w2 ⟨rfl, hb⟩
    have HB2 := Lib.hid (Below.step HB1.out hb HB1.out.size)
    clear hb
    go_wp2_with fail
    refine (top_at p k k0 _ (HE.out.below HB2.out)).mono ?_
    rintro e w3 ⟨rfl, hb⟩
    have HB3 := Lib.hid (Below.step HB2.out hb HB2.out.size)
    clear hb
    go_wp2
    go_ret
    exact ⟨ret_bool (by first | rfl | exact k2 | simpa using k2), HB3.out⟩

end Go.Proofs.YthcachmcjekckaaDoor
