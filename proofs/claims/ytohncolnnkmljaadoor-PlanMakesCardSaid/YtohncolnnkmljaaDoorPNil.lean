/- PlanNil: the walk. -/
import Derived.Test.YtohncolnnkmljaaDoorPOpenA
import Derived.Test.YtohncolnnkmljaaDoorPOnce
namespace Go.Proofs.YtohncolnnkmljaaDoor
open Go.RowKit
theorem enc_form (i : Int) : Cs.enc [(0, i), (10, 0)] = formAt i := by simp [Cs.enc, formAt]
theorem top_form (i : Int) (w : World) (hE : Cs.ErrT w) : Calls Tryd.prog 28 #[formAt i] w fun r w' => r = .returned (.int .i64 10) ∧ Below w.heap.size w w' := by
  have h := Cs.top_any [(0, i), (10, 0)] (by simp [Cs.Ok]) (by simp) w hE
  rw [Cs.top_word, Cs.top_code _ _ (by omega), enc_form] at h
  exact h
theorem word_form (i : Int) (w : World) : Calls Tryd.prog 37 #[formAt i] w fun r w' => r = .returned (.tuple #[.int .i64 i, .bool true]) ∧ Below w.heap.size w w' := by
  have h := Cs.word_any [(0, i), (10, 0)] (by simp [Cs.Ok]) (by simp) w
  rw [enc_form, show Cs.wordFrom (0, false) [(0, i), (10, 0)] = (i, true) by simp [Cs.wordFrom]] at h
  exact h
theorem store_f0 (x : St) (n : Nat) (hn : 1 ≤ n) (y : Int) : (x.store n 0 y).f 0 = y := by
  have h : inB n 0 = true := by simp [inB]; omega
  rw [St.store, if_pos h, St.made]
  show put x.f 0 y 0 = y
  exact put_at _ _ _

/-- An arena at p, c; nothing old has changed. -/
structure AW (w0 : World) (p c n : Nat) (x : St) (W : World) : Prop where
  a : ArS W p c n x
  hp : w0.heap.size ≤ p
  hc : w0.heap.size ≤ c
  be : Below w0.heap.size w0 W
theorem AW.below {w0 : World} {p c n : Nat} {x : St} {W W' : World} (h : AW w0 p c n x W) (hb : Below W.heap.size W W') : AW w0 p c n x W' := ⟨Ar.below h.a hb h.a.obj.lt h.a.row.lt, h.hp, h.hc, h.be.trans (hb.mono h.be.size)⟩
theorem AW.only {w0 : World} {p c n : Nat} {x y : St} {W W' : World} (h : AW w0 p c n x W) (ha : ArS W' p c n y) (ho : Only p c W W') : AW w0 p c n y W' := ⟨ha, h.hp, h.hc, h.be.trans (ho.below h.be.size h.hp h.hc)⟩
theorem AW.alloc {w0 : World} {p c n : Nat} {x : St} {W : World} (h : AW w0 p c n x W) (o : Obj) : AW w0 p c n x (W.alloc o) := h.below ((Below.refl _ _).alloc (Nat.le_refl _) o)

set_option maxRecDepth 100000 in
set_option maxHeartbeats 4000000 in
theorem lawNil_any (u : Int) (w : World) (hL : Lim w) (hE : Cs.ErrT w) : Calls Tryd.prog 7 #[.int .u64 u] w fun e w' => e = .returned (.bool true) ∧ Below w.heap.size w w' := by
  have HL := Lib.hid hL
  have HE := Lib.hid hE
  clear hL hE
  go_enter Tryd.func7, Tryd.ntmps7
  go_wp2_with fail
  refine (open_nil _).mono ?_
  rintro e w1 ⟨rfl, hb⟩
  have H1 := Lib.hid hb
  clear hb
  have hzw := H1.out.size
  go_wp2_with fail
  refine (new_some 1 (by omega) (by omega) _).mono ?_
  rintro e w2 ⟨rfl, hA, hb⟩
  have A2 := Lib.hid (show AW w _ _ 1 St.zero w2 from ⟨hA, by simp; omega, by simp; omega, Below.step (B := w.heap.size) (a := w) (by (repeat (first | with_reducible exact Below.refl _ _ | with_reducible exact H1.out | with_reducible refine Below.drew ?_ | (with_reducible refine Below.setCell ?_ ?side _; case side => exact (by have := (H1.out).size; first | (simp; done) | (simp; omega) | omega)) | (with_reducible refine Below.alloc ?_ ?side _; case side => exact (by have := (H1.out).size; first | (simp; done) | (simp; omega) | omega))))) hb (by have := (H1.out).size; first | (simp; done) | (simp; omega) | omega)⟩)
  clear hA hb H1 hzw
  generalize (w1.alloc (.cells #[.int .i64 zeroC.t, .int .i64 zeroC.s, .int .i64 zeroC.l, .int .i64 zeroC.c, .int .i64 zeroC.s0, .int .i64 zeroC.n0, .int .i64 zeroC.s1, .int .i64 zeroC.n1, .int .i64 zeroC.r] 26)).heap.size + 1 = p at A2 ⊢
  generalize (w1.alloc (.cells #[.int .i64 zeroC.t, .int .i64 zeroC.s, .int .i64 zeroC.l, .int .i64 zeroC.c, .int .i64 zeroC.s0, .int .i64 zeroC.n0, .int .i64 zeroC.s1, .int .i64 zeroC.n1, .int .i64 zeroC.r] 26)).heap.size = c at A2 ⊢
  go_wp2_with fail
  refine (open_form _ p c 1 St.zero A2.out.a (by omega) (by omega) (by decide)).mono ?_
  rintro e w3 ⟨rfl, hb⟩
  have A3 := Lib.hid (A2.out.below hb)
  clear hb A2
  go_wp2_with fail
  refine (word_form 0 _).mono ?_
  rintro e w4 ⟨rfl, hb⟩
  have A4 := Lib.hid ((A3.out.alloc _).below hb)
  clear hb A3
  go_wp2_with fail
  refine (store_any _ p c 1 St.zero A4.out.a (by decide) (by decide) 0 7597137583116413295).mono ?_
  rintro e w5 ⟨rfl, hA, hO⟩
  have A5 := Lib.hid (A4.out.only hA hO)
  clear hA hO A4
  have hf1 := store_f0 St.zero 1 (by omega) 7597137583116413295
  have hs1 := St.store_s St.zero 1 0 7597137583116413295
  rw [show St.zero.s = 0 from rfl] at hs1
  generalize St.zero.store 1 0 7597137583116413295 = x1 at A5 hf1 hs1
  have HF1 := Lib.hid hf1
  have HS1 := Lib.hid hs1
  clear hf1 hs1
  go_wp2_with fail
  refine (open_one _ p c 1 x1 A5.out.a rfl (by rw [HF1.out]; rfl)).mono ?_
  rintro e w6 ⟨rfl, hb⟩
  have A6 := Lib.hid (A5.out.below hb)
  clear hb A5
  go_wp2_with fail
  refine (store_any _ p c 1 x1 (A6.out.alloc _).a (by rw [HS1.out]; decide) (by rw [HS1.out]; decide) 0 u).mono ?_
  rintro e w7 ⟨rfl, hA, hO⟩
  have A7 := Lib.hid ((A6.out.alloc _).only hA hO)
  clear hA hO A6
  have HF2 := Lib.hid (store_f0 x1 1 (by omega) u)
  generalize x1.store 1 0 u = x2 at A7 HF2
  by_cases hu : u = 7597137583116413295
  · have d1 : (u == 7597137583116413295) = true := by simpa using hu
    have HU := Lib.hid hu
    clear hu
    go_wp2_with fail
    refine (open_one _ p c 1 x2 A7.out.a rfl (by rw [HF2.out, HU.out]; rfl)).mono ?_
    rintro e w8 ⟨rfl, hb⟩
    have A8 := Lib.hid (A7.out.below hb)
    clear hb A7
    go_wp2_with fail
    refine (awake4_any _ (HL.out.below (A8.out.alloc _).be)).mono ?_
    rintro e w9 ⟨rfl, hb⟩
    have A9 := Lib.hid ((A8.out.alloc _).below hb)
    clear hb A8
    go_wp2_with fail
    refine (top_one 1 (by omega) _ (HE.out.below A9.out.be)).mono ?_
    rintro e w10 ⟨rfl, hb⟩
    have A10 := Lib.hid (A9.out.below hb)
    clear hb A9
    go_wp2_with fail
    refine (top_form 0 _ (HE.out.below A10.out.be)).mono ?_
    rintro e w11 ⟨rfl, hb⟩
    have A11 := Lib.hid (A10.out.below hb)
    clear hb A10
    go_wp2_with fail
    refine (top_one 23 (by omega) _ (HE.out.below A11.out.be)).mono ?_
    rintro e w12 ⟨rfl, hb⟩
    have A12 := Lib.hid (A11.out.below hb)
    clear hb A11
    go_wp2
    go_ret
    exact ⟨rfl, A12.out.be⟩
  · have d1 : (u == 7597137583116413295) = false := by simpa using hu
    have HU := Lib.hid hu
    clear hu
    go_wp2_with fail
    refine (open_form _ p c 1 x2 A7.out.a (by omega) (by omega) (by rw [HF2.out]; simpa using HU.out)).mono ?_
    rintro e w8 ⟨rfl, hb⟩
    have A8 := Lib.hid (A7.out.below hb)
    clear hb A7
    go_wp2_with fail
    refine (awake4_any _ (HL.out.below (A8.out.alloc _).be)).mono ?_
    rintro e w9 ⟨rfl, hb⟩
    have A9 := Lib.hid ((A8.out.alloc _).below hb)
    clear hb A8
    go_wp2_with fail
    refine (top_one 1 (by omega) _ (HE.out.below A9.out.be)).mono ?_
    rintro e w10 ⟨rfl, hb⟩
    have A10 := Lib.hid (A9.out.below hb)
    clear hb A9
    go_wp2_with fail
    refine (top_form 0 _ (HE.out.below A10.out.be)).mono ?_
    rintro e w11 ⟨rfl, hb⟩
    have A11 := Lib.hid (A10.out.below hb)
    clear hb A10
    go_wp2_with fail
    refine (top_one 23 (by omega) _ (HE.out.below A11.out.be)).mono ?_
    rintro e w12 ⟨rfl, hb⟩
    have A12 := Lib.hid (A11.out.below hb)
    clear hb A11
    go_wp2_with fail
    refine (top_form 0 _ (HE.out.below A12.out.be)).mono ?_
    rintro e w13 ⟨rfl, hb⟩
    have A13 := Lib.hid (A12.out.below hb)
    clear hb A12
    go_wp2
    go_ret
    exact ⟨rfl, A13.out.be⟩

end Go.Proofs.YtohncolnnkmljaaDoor
