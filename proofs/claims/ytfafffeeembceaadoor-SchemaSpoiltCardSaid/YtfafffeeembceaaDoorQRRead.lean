/- The document's Read; are two schemas the same? -/
import Derived.Test.YtfafffeeembceaaDoorQRead
namespace Go.Proofs.YtfafffeeembceaaDoor
open Go.ChangeShapes Go.WideShapes Go.ChangeAt Go.RowKit
/-- v is a row of the first q fields of a word, made since W1. -/
structure FB (W1 : World) (x q : Nat) (v : Value) (W : World) : Prop where
  fld : FldA W1 (fun j => ((dig (x / 8) j % 8 : Nat) : Int)) (fun j => ((dig (x / 8) j / 8 : Nat) : Int)) q v W
  below : Below W1.heap.size W1 W
theorem FB.next {W1 : World} {x q : Nat} {v v' : Value} {W w1 : World} (h : FB W1 x q v W) {kk tt : Int} (hk : kk = ((dig (x / 8) q % 8 : Nat) : Int)) (ht : tt = ((dig (x / 8) q / 8 : Nat) : Int))
    (ho : w1.ownsRow W1.heap.size 48 2 v' (q + 1) (cellsF (fun j => ((dig (x / 8) j % 8 : Nat) : Int)) (fun j => ((dig (x / 8) j / 8 : Nat) : Int)) q ++ [.int .i64 kk, .int .i64 tt]))
    (hg : (W.alloc (.cells #[.int .i64 kk, .int .i64 tt] 48)).grownBy w1 v.ownBlock) : FB W1 x (q + 1) v' w1 := by
  subst hk ht
  refine ⟨ho, ?_⟩
  refine (h.below.alloc h.below.size _).trans ⟨hg.os, hg.tape, hg.output, hg.size, fun k hk => hg.block k ?_ ?_⟩
  · have := h.below.size; simp; omega
  · intro e
    have := (h.fld.lt k e.symm).1
    omega
theorem kind_of (x q : Nat) : x / 8 / 64 ^ q % 8 = dig (x / 8) q % 8 := by unfold dig; omega
theorem type_of (x q : Nat) : x / 8 / 64 ^ q / 8 % 8 = dig (x / 8) q / 8 := by unfold dig; omega
theorem rest_of (x q : Nat) : x / 8 / 64 ^ q / 64 = x / 8 / 64 ^ (q + 1) := by rw [Nat.pow_succ, Nat.div_div_eq_div_mul _ (64 ^ q)]

set_option maxRecDepth 100000 in
set_option maxHeartbeats 4000000 in
theorem r5Read_any (A : Option Addr) (L c : Nat) (f : Nat → Nat) (w : World) (hr : WRow w A L f) (h9 : L ≤ 9) : Calls Tryd.prog 28 #[.slice A L c] w fun e w' => ((readOk f L ∧ ∃ A' c', e = .returned (.tuple #[.slice A' L c', .bool true]) ∧ SAt w' A' (unS f L)) ∨ (¬ readOk f L ∧ e = .returned (.tuple #[.slice none 0 0, .bool false]))) ∧ Below w.heap.size w w' := by
  obtain ⟨i0, hi0, hz1, hz2, hz3⟩ := info_parts info_field
  obtain ⟨j0, hj0, hy1, hy2, hy3⟩ := info_parts info_fs
  have HW := Lib.hid hr
  clear hr
  go_enter Tryd.func28, Tryd.ntmps28
  go_wp2
  go_loopw [4, 5] (fun sv tv wr => ∃ (m : Nat) (ad : Nat → Option Addr) (cp : Nat → Nat) (a : Option Addr) (cc : Nat), m ≤ L ∧ tv = .int .i64 m ∧ sv = .slice a m cc ∧ Hid (TypA w (unS f L) m ad cp (.slice a m cc) wr) ∧ Hid (∀ i, i < m → f i / 8 / 64 ^ (f i % 8) = 0)) (fun _ tv _ => L - (intOf tv).toNat)
  case atStart => exact ⟨0, fun _ => none, fun _ => 0, none, 0, by omega, rfl, rfl, Lib.hid (TypA.nil _ _ _ _ _ (Below.refl _ _)), Lib.hid fun i hi => by omega⟩
  case round =>
    obtain ⟨m, ad, cp, a, cc, hm, rfl, rfl, HT, HZ⟩ := hrel
    by_cases hlt : m < L
    · obtain ⟨b, off, rfl, hb, hc⟩ := (HW.out.below HT.out.below).some_ (by omega)
      have c1 := hc m hlt
      have hfm := HW.out.lt m hlt
      clear hc
      obtain ⟨x, HX⟩ : ∃ x, Hid (f m = x) := ⟨_, Lib.hid rfl⟩
      rw [HX.out] at c1 hfm
      obtain ⟨n, HN⟩ : ∃ n, Hid (x % 8 = n) := ⟨_, Lib.hid rfl⟩
      have hn : n ≤ 7 := by have := HN.out; omega
      have e1 : (x : Int) % 8 = (n : Int) := by have := HN.out; omega
      obtain ⟨y0, HY0⟩ : ∃ y0, Hid (x / 8 = y0) := ⟨_, Lib.hid rfl⟩
      have e2 : (x : Int) / 8 = (y0 : Int) := by have := HY0.out; omega
      go_wp2
      clear e1 e2 c1 hb
      have hzz := HT.out.below.size
      generalize wr = W1 at HT hzz ⊢
      go_loopw [7, 8, 9] (fun wv lv iv wq => ∃ (q y : Nat) (al : Option Addr) (cl : Nat), q ≤ n ∧ iv = .int .i64 q ∧ wv = .int .u64 (y : Int) ∧ lv = .slice al q cl ∧ Hid (y = x / 8 / 64 ^ q) ∧ y < 18446744073709551616 ∧ Hid (FB W1 x q (.slice al q cl) wq)) (fun _ _ iv _ => n - (intOf iv).toNat)
      case atStart => exact ⟨0, y0, none, 0, by omega, rfl, rfl, rfl, Lib.hid (by rw [Nat.pow_zero, Nat.div_one]; exact HY0.out.symm), by have := HY0.out; omega, Lib.hid ⟨World.ownsRow_nil _ _ _ _, Below.refl _ _⟩⟩
      case round =>
        obtain ⟨q, y, al, cl, hq, rfl, rfl, rfl, HY, hy, HF⟩ := hrel
        by_cases hq1 : q < n
        · have e1 : (y : Int) % 8 = ((dig (x / 8) q % 8 : Nat) : Int) := by have := kind_of x q; rw [← HY.out] at this; omega
          have e2 : (y : Int) / 8 % 8 = ((dig (x / 8) q / 8 : Nat) : Int) := by have := type_of x q; rw [← HY.out] at this; omega
          obtain ⟨y', HY'⟩ : ∃ y', Hid (y / 64 = y') := ⟨_, Lib.hid rfl⟩
          have e3 : (y : Int) / 64 = (y' : Int) := by have := HY'.out; omega
          have hdl := dig_lt (x / 8) q
          have d1 : dig (x / 8) q % 8 < 8 := by omega
          have d2 : dig (x / 8) q / 8 < 8 := by omega
          have hzq := HF.out.below.size
          obtain ⟨kk, HKK⟩ : ∃ kk, Hid (kk = dig (x / 8) q % 8) := ⟨_, Lib.hid rfl⟩
          obtain ⟨tt, HTT⟩ : ∃ tt, Hid (tt = dig (x / 8) q / 8) := ⟨_, Lib.hid rfl⟩
          rw [← HKK.out] at e1 d1
          rw [← HTT.out] at e2 d2
          clear hdl
          go_wp2_with (at_builtin; (refine wpList_append_own _ rfl _ _ 46 rfl W1.heap.size 48 i0 (.agg #[.int .i64 0, .int .i64 0]) 2 16 Tryd.underlying46 hi0 hz1 hz2 hz3 rfl (by decide) _ _ _ rfl (HF.out.fld.alloc _) ⟨_, 0, none⟩ 1 1 [.int .i64 (kk : Int), .int .i64 (tt : Int)] rfl rfl (cell_two_at _ _ _ _ _ (by simp)) (by simp [Value.oneCell']) (by unfold maxLen; omega) (by omega) (by simp; omega) ?_); intro v' w1 hown' hgrow _; obtain ⟨g', cap', rfl⟩ := ownsRow_succ hown'; have Hnx := Lib.hid (HF.out.next (by rw [HKK.out]) (by rw [HTT.out]) hown' hgrow); clear hown' hgrow)
          go_roundw
          case rel => exact ⟨q + 1, y', _, cap', by omega, by go_num, rfl, rfl, Lib.hid (by rw [← HY'.out, HY.out, rest_of]), by have := HY'.out; omega, Hnx⟩
          case measure => simp [intOf]; omega
        · have e : q = n := by omega
          subst e
          by_cases hy0 : y = 0
          · have hne : ((y : Int) != 0) = false := by simp; omega
            have hne' : (y != 0) = false := by simp; omega
            obtain ⟨Al, cl', hvf, hrow, htag⟩ := HF.out.fld.row w
            injection hvf with e1 e2 e3
            subst e1 e3
            have HT2 := Lib.hid (HT.out.fresh HF.out.below)
            have HRW := Lib.hid hrow
            have HTG := Lib.hid htag
            have HLN : Hid (q = (unS f L).len m) := Lib.hid (by show q = f m % 8; rw [HX.out, HN.out])
            have HKN : Hid ((fun j => ((dig (x / 8) j % 8 : Nat) : Int)) = (unS f L).k m) := Lib.hid (by rw [← HX.out]; rfl)
            have HTN : Hid ((fun j => ((dig (x / 8) j / 8 : Nat) : Int)) = (unS f L).t m) := Lib.hid (by rw [← HX.out]; rfl)
            have HZ2 : Hid (∀ i, i < m + 1 → f i / 8 / 64 ^ (f i % 8) = 0) := Lib.hid fun i hi => by
              by_cases e : i = m
              · rw [e, HX.out, HN.out, ← HY.out]; exact hy0
              · exact HZ.out i (by omega)
            clear hrow htag e2
            have hz13 := HT2.out.below.size
            go_wp2_with (at_builtin; (refine wpList_append_own _ rfl _ _ 23 rfl w.heap.size 46 j0 (.slice none 0 0) 1 24 Tryd.underlying23 hj0 hy1 hy2 hy3 rfl (by decide) _ _ _ rfl (HT2.out.own.alloc _) ⟨_, 0, none⟩ 1 1 [.slice al q cl] rfl rfl (cell_one_at _ _ _ _ (by simp)) (by simp [Value.oneCell']) (by unfold maxLen; omega) (by omega) (by simp; omega) ?_); intro v' w1 hown' hgrow _; obtain ⟨g', cap', rfl⟩ := ownsRow_succ hown'; have Hnt := Lib.hid ((HT2.out.next HRW.out (fun _ => HTG.out) rfl hown' hgrow).congr (put_same (s' := unS f L) (fun _ _ => ⟨rfl, rfl, rfl⟩) HLN.out HKN.out HTN.out)); clear hown' hgrow)
            go_roundw
            case rel => exact ⟨m + 1, _, _, _, cap', by omega, by go_num, rfl, Hnt, HZ2⟩
            case measure => simp [intOf]; omega
          · have hne : ((y : Int) != 0) = true := by simp; omega
            have hne' : (y != 0) = true := by simp; omega
            have HNO : Hid (¬ readOk f L) := Lib.hid fun h => hy0 (by rw [HY.out, ← HN.out, ← HX.out]; exact h.2 m hlt)
            have HBE := Lib.hid (Below.step HT.out.below HF.out.below HT.out.below.size)
            go_wp2
            go_ret2
            exact ⟨.inr ⟨HNO.out, rfl⟩, HBE.out⟩
    · have e : m = L := by omega
      subst e
      obtain ⟨A', c', hv, hsat⟩ := TypA.sat (s := unS f m) HT.out
      injection hv with e1 e2 e3
      subst e1 e3
      have HS := Lib.hid hsat
      have HB := Lib.hid HT.out.below
      clear hsat e2
      have hk := r5Right_any (unS f m) a cc wr HS.out
      rw [show (unS f m).n = m from rfl] at hk
      by_cases ho : okS (unS f m) = true
      · rw [ho] at hk
        have HOK : Hid (readOk f m) := Lib.hid ⟨right_of_okS ho, HZ.out⟩
        go_wp2_with fail
        refine hk.mono ?_
        rintro e w1 ⟨rfl, hb⟩
        have HS1 := Lib.hid (HS.out.below hb)
        have HB1 := Lib.hid (Below.step HB.out hb HB.out.size)
        clear hb hk HS HB
        go_wp2
        go_ret2
        exact ⟨.inl ⟨HOK.out, a, cc, rfl, HS1.out⟩, HB1.out⟩
      · rw [show okS (unS f m) = false by simpa using ho] at hk
        have HNO : Hid (¬ readOk f m) := Lib.hid fun h => ho (okS_true h.1)
        go_wp2_with fail
        refine hk.mono ?_
        rintro e w1 ⟨rfl, hb⟩
        have HB1 := Lib.hid (Below.step HB.out hb HB.out.size)
        clear hb hk HS HB
        go_wp2
        go_ret2
        exact ⟨.inr ⟨HNO.out, rfl⟩, HB1.out⟩

end Go.Proofs.YtfafffeeembceaaDoor
