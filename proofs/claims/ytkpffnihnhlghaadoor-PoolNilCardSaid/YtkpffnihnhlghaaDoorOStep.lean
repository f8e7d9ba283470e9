/- A step of a run that takes a block. -/
import Derived.Test.YtkpffnihnhlghaaDoorOTake
namespace Go.Proofs.YtkpffnihnhlghaaDoor
open Go.RowKit
/-- What a run that takes does next, and what becomes of the arena. -/
def tkNext (x : Cfg) (n : Nat) (t : TK) (y : St) : TK × St := match t.k with
  | 0 => (t, y)
  | 1 => ({ t with X := (y.loaded n (3 + t.C)).toNat, k := if classC x (((y.loaded n (3 + t.C)).toNat % 4294967296 : Nat) : Int) = t.C then 2 else 0 }, y.load n (3 + t.C))
  | 2 => ({ t with r := (((y.loaded n (blockC x ((t.X % 4294967296 : Nat) : Int))).toNat % 4294967296 : Nat) : Int), k := 3 }, y.load n (blockC x ((t.X % 4294967296 : Nat) : Int)))
  | _ => (if y.swapped n (3 + t.C) (t.X : Int) then { t with b := ((t.X % 4294967296 : Nat) : Int), k := 0 } else { t with k := 1 }, y.swap n (3 + t.C) (t.X : Int) (turnI t.X t.r))
set_option maxRecDepth 100000 in
theorem otstep_nil (P : Value) (W : World) : Calls Tryd.prog 24 #[.pointer none, P] W fun e W' => e = .returned (.bool true) ∧ W = W' := by
  go_enter Tryd.func24, Tryd.ntmps24
  go_wp2_with fail
  refine (otdone_nil _).mono ?_
  rintro e w1 ⟨rfl, rfl⟩
  go_wp2_with fail
  refine (otdone_nil _).mono ?_
  rintro e w1 ⟨rfl, rfl⟩
  go_wp2
  go_ret
  exact ⟨rfl, rfl⟩
set_option maxRecDepth 100000 in
set_option maxHeartbeats 2000000 in
theorem otstep_any (w : World) (q p c n : Nat) (x : Cfg) (hr : Right x) (t : TK) (y : St) (hk3 : t.k ≤ 3) (hC : 0 ≤ t.C ∧ t.C ≤ 1) (h0 : 0 ≤ y.s) (h1 : y.s < 1000000) (hX : t.X < 18446744073709551616) (hok : OkW y n) (W : World) (h : TH w q p c n x t y W) :
    Calls Tryd.prog 24 #[.pointer (some ⟨q, 0, none⟩), .pointer (some ⟨p, 0, none⟩)] W fun e W' => e = .returned (.bool (decide ((tkNext x n t y).1.k = 0))) ∧ TH w q p c n x (tkNext x n t y).1 (tkNext x n t y).2 W' := by
  have K0 := Lib.hid h
  have HR := Lib.hid hr
  have HOK := Lib.hid hok
  have c13 := World.rowIs.cell h.ta (i := 13) (by omega)
  replace c13 : W.cell? ⟨q, 13, none⟩ = some (nextV q t.k) := c13
  clear h hr hok
  rcases (show t.k = 0 ∨ t.k = 1 ∨ t.k = 2 ∨ t.k = 3 by omega) with hk | hk | hk | hk
  · rw [hk] at c13
    simp only [nextV] at c13
    have e1 : tkNext x n t y = (t, y) := by unfold tkNext; rw [hk]; rfl
    rw [e1]
    have HK := Lib.hid hk
    clear e1 hk
    go_enter Tryd.func24, Tryd.ntmps24
    go_wp2_with fail
    refine (otdone_none _ q c13).mono ?_
    rintro e w1 ⟨rfl, rfl⟩
    go_wp2_with fail
    refine (otdone_none _ q c13).mono ?_
    rintro e w1 ⟨rfl, rfl⟩
    go_wp2
    go_ret
    exact ⟨by rw [HK.out]; rfl, K0.out⟩
  · rw [hk] at c13
    have c13' : W.cell? ⟨q, 13, none⟩ = some (.func (.func 82) #[.pointer (some ⟨q, 0, none⟩)] #[]) := c13
    clear c13
    have e1 : tkNext x n t y = ({ t with X := (y.loaded n (3 + t.C)).toNat, k := if classC x (((y.loaded n (3 + t.C)).toNat % 4294967296 : Nat) : Int) = t.C then 2 else 0 }, y.load n (3 + t.C)) := by unfold tkNext; rw [hk]; rfl
    have HCALL := Lib.hid (ff_any w q p c n x HR.out t y hC h0 h1 (y.loaded n (3 + t.C)).toNat (by have := (HOK.out.loaded (n := n) (3 + t.C)).1; omega) _ rfl _ K0.out)
    obtain ⟨T, hT⟩ : ∃ T, tkNext x n t y = T := ⟨_, rfl⟩
    have hT1 := e1.symm.trans hT
    rw [hT]
    have HCALL2 : Hid (Calls Tryd.prog 82 #[.pointer (some ⟨q, 0, none⟩), .pointer (some ⟨p, 0, none⟩)] W fun e W' => e = .returned (.tuple #[]) ∧ Hid (TH w q p c n x T.1 T.2 W')) := Lib.hid (by rw [← hT1]; exact HCALL.out.mono fun _ _ ⟨a, b⟩ => ⟨a, Lib.hid b⟩)
    clear HCALL e1 hT hT1 hk hC h0 h1 hX HOK
    go_enter Tryd.func24, Tryd.ntmps24
    go_wp2_with fail
    refine (otdone_some _ q _ _ _ c13').mono ?_
    rintro e w1 ⟨rfl, rfl⟩
    go_wp2_with fail
    refine HCALL2.out.mono ?_
    rintro e w2 ⟨rfl, K2⟩
    have d13 := World.rowIs.cell K2.out.ta (i := 13) (by omega)
    clear c13'
    go_wp2_with fail
    refine (otdone_any _ q T.1.k d13).mono ?_
    rintro e w3 ⟨rfl, rfl⟩
    go_wp2
    go_ret
    exact ⟨rfl, K2.out⟩
  · rw [hk] at c13
    have c13' : W.cell? ⟨q, 13, none⟩ = some (.func (.func 122) #[.pointer (some ⟨q, 0, none⟩)] #[]) := c13
    clear c13
    have e1 : tkNext x n t y = ({ t with r := (((y.loaded n (blockC x ((t.X % 4294967296 : Nat) : Int))).toNat % 4294967296 : Nat) : Int), k := 3 }, y.load n (blockC x ((t.X % 4294967296 : Nat) : Int))) := by unfold tkNext; rw [hk]; rfl
    have HCALL := Lib.hid (fr_any w q p c n x HR.out t y h0 h1 _ rfl (y.loaded n (blockC x ((t.X % 4294967296 : Nat) : Int))).toNat (by have := (HOK.out.loaded (n := n) (blockC x ((t.X % 4294967296 : Nat) : Int))).1; omega) _ rfl _ K0.out)
    obtain ⟨T, hT⟩ : ∃ T, tkNext x n t y = T := ⟨_, rfl⟩
    have hT1 := e1.symm.trans hT
    rw [hT]
    have HCALL2 : Hid (Calls Tryd.prog 122 #[.pointer (some ⟨q, 0, none⟩), .pointer (some ⟨p, 0, none⟩)] W fun e W' => e = .returned (.tuple #[]) ∧ Hid (TH w q p c n x T.1 T.2 W')) := Lib.hid (by rw [← hT1]; exact HCALL.out.mono fun _ _ ⟨a, b⟩ => ⟨a, Lib.hid b⟩)
    clear HCALL e1 hT hT1 hk hC h0 h1 hX HOK
    go_enter Tryd.func24, Tryd.ntmps24
    go_wp2_with fail
    refine (otdone_some _ q _ _ _ c13').mono ?_
    rintro e w1 ⟨rfl, rfl⟩
    go_wp2_with fail
    refine HCALL2.out.mono ?_
    rintro e w2 ⟨rfl, K2⟩
    have d13 := World.rowIs.cell K2.out.ta (i := 13) (by omega)
    clear c13'
    go_wp2_with fail
    refine (otdone_any _ q T.1.k d13).mono ?_
    rintro e w3 ⟨rfl, rfl⟩
    go_wp2
    go_ret
    exact ⟨rfl, K2.out⟩
  · rw [hk] at c13
    have c13' : W.cell? ⟨q, 13, none⟩ = some (.func (.func 146) #[.pointer (some ⟨q, 0, none⟩)] #[]) := c13
    clear c13
    have e1 : tkNext x n t y = (if y.swapped n (3 + t.C) (t.X : Int) then { t with b := ((t.X % 4294967296 : Nat) : Int), k := 0 } else { t with k := 1 }, y.swap n (3 + t.C) (t.X : Int) (turnI t.X t.r)) := by unfold tkNext; rw [hk]; cases y.swapped n (3 + t.C) (t.X : Int) <;> rfl
    have HCALL := Lib.hid (tf_any w q p c n x t y hC h0 h1 hX _ rfl _ rfl _ rfl _ K0.out)
    obtain ⟨T, hT⟩ : ∃ T, tkNext x n t y = T := ⟨_, rfl⟩
    have hT1 := e1.symm.trans hT
    rw [hT]
    have HCALL2 : Hid (Calls Tryd.prog 146 #[.pointer (some ⟨q, 0, none⟩), .pointer (some ⟨p, 0, none⟩)] W fun e W' => e = .returned (.tuple #[]) ∧ Hid (TH w q p c n x T.1 T.2 W')) := Lib.hid (by rw [← hT1]; exact HCALL.out.mono fun _ _ ⟨a, b⟩ => ⟨a, Lib.hid b⟩)
    clear HCALL e1 hT hT1 hk hC h0 h1 hX HOK
    go_enter Tryd.func24, Tryd.ntmps24
    go_wp2_with fail
    refine (otdone_some _ q _ _ _ c13').mono ?_
    rintro e w1 ⟨rfl, rfl⟩
    go_wp2_with fail
    refine HCALL2.out.mono ?_
    rintro e w2 ⟨rfl, K2⟩
    have d13 := World.rowIs.cell K2.out.ta (i := 13) (by omega)
    clear c13'
    go_wp2_with fail
    refine (otdone_any _ q T.1.k d13).mono ?_
    rintro e w3 ⟨rfl, rfl⟩
    go_wp2
    go_ret
    exact ⟨rfl, K2.out⟩

end Go.Proofs.YtkpffnihnhlghaaDoor
