/- HeadsTurn: the law's walk. -/
import Derived.Test.YtkhbhkllnigbgaaDoorHLawTell
namespace Go.Proofs.YtkhbhkllnigbgaaDoor
open Go.RowKit
theorem still_call {P : Program} {F : FuncId} {args : Array Value} {r : Value} {B : Nat} {a W : World} (hc : ∀ W, Calls P F args W fun e W' => e = .returned r ∧ W = W') (H : Hid (Below B a W)) : Calls P F args W fun e W' => e = .returned r ∧ Hid (Below B a W') :=
  (hc W).mono fun _ _ ⟨he, hb⟩ => ⟨he, hb ▸ H⟩
theorem i_and_1 (i : Nat) (hi : i < 4611686018427387904) : bits .and .i64 (i : Int) 1 = ((i % 2 : Nat) : Int) := by
  show IntKind.i64.wrap ((BitVec.ofInt 64 (i : Int) &&& BitVec.ofInt 64 1).toNat : Int) = _
  have e : (BitVec.ofInt 64 (i : Int) &&& BitVec.ofInt 64 1).toNat = i % 2 := by
    rw [BitVec.toNat_and, BitVec.ofInt_natCast, BitVec.toNat_ofNat, Nat.mod_eq_of_lt (by omega)]
    exact Nat.and_two_pow_sub_one_eq_mod i 1
  rw [e]
  simp [IntKind.wrap, IntKind.bits, IntKind.signed]
  omega
set_option maxRecDepth 100000 in
set_option maxHeartbeats 4000000 in
theorem lawTurn_any (X : Nat) (hX : X < 18446744073709551616) (q0 q1 q2 : Int) (w : World) (hE : Cs.ErrT w) (hL : Lim w) : Calls Tryd.prog 7 #[.int .u64 (X : Int), .agg #[.int .i64 q0, .int .i64 q1, .int .i64 q2]] w fun e w' => e = .returned (.bool true) ∧ Below w.heap.size w w' := by
  have HE := Lib.hid hE
  have HL := Lib.hid hL
  obtain ⟨m, hm, hm'⟩ := rest q0 300 (by omega) (by omega)
  have hm0 : (wrap64 (q0.tmod 300 + 300)).tmod 300 = (m : Int) := hm'
  clear hE hL hm'
  go_enter Tryd.func7, Tryd.ntmps7
  go_wp2_with fail
  refine (awake10_any _ (HE.out.below (by (repeat (first | with_reducible exact Below.refl _ _ | with_reducible refine Below.drew ?_ | (with_reducible refine Below.setCell ?_ ?side _; case side => exact (by first | (simp; done) | (simp; omega) | omega)) | (with_reducible refine Below.alloc ?_ ?side _; case side => exact (by first | (simp; done) | (simp; omega) | omega)))))) (HL.out.below (by (repeat (first | with_reducible exact Below.refl _ _ | with_reducible refine Below.drew ?_ | (with_reducible refine Below.setCell ?_ ?side _; case side => exact (by first | (simp; done) | (simp; omega) | omega)) | (with_reducible refine Below.alloc ?_ ?side _; case side => exact (by first | (simp; done) | (simp; omega) | omega))))))).mono ?_
  rintro e w1 ⟨rfl, hb⟩
  have HB1 := Lib.hid (Below.step (B := w.heap.size) (a := w) (by (repeat (first | with_reducible exact Below.refl _ _ | with_reducible refine Below.drew ?_ | (with_reducible refine Below.setCell ?_ ?side _; case side => exact (by first | (simp; done) | (simp; omega) | omega)) | (with_reducible refine Below.alloc ?_ ?side _; case side => exact (by first | (simp; done) | (simp; omega) | omega))))) hb (by first | (simp; done) | (simp; omega) | omega))
  have hbx := (World.rowIs_alloc w #[.int .i64 q0, .int .i64 q1, .int .i64 q2] 70 (fun j => if j = 0 then .int .i64 q0 else if j = 1 then .int .i64 q1 else .int .i64 q2) (by intro j hj; match j, hj with | 0, _ => rfl | 1, _ => rfl | 2, _ => rfl)).of_block (hb.block _ (by simp))
  have HBX := Lib.hid hbx
  clear hbx hb
  go_wp2_with fail
  go_loopw [6, 7] (fun xv iv wr => ∃ i : Nat, i ≤ 1 + m ∧ iv = .int .i64 i ∧ (∃ Y : Nat, xv = .int .u64 (Y : Int) ∧ Y < 18446744073709551616 ∧ Y / 4294967296 = (X / 4294967296 + i) % 4294967296 ∧ (i = 0 → Y = X)) ∧ Hid (Below w1.heap.size w1 wr)) (fun _ iv _ => 1 + m - (intOf iv).toNat)
  case atStart => exact ⟨0, by omega, rfl, ⟨X, rfl, hX, by omega, fun _ => rfl⟩, Lib.hid (Below.refl _ _)⟩
  case round =>
    obtain ⟨i, hi, rfl, ⟨Y, rfl, hY, hYt, -⟩, HBW⟩ := hrel
    have hax := HBX.out.of_block (HBW.out.block _ HBX.out.lt)
    have x0 : wr.cell? ⟨w.heap.size, 0, none⟩ = some (.int .i64 q0) := hax.cell (i := 0) (by simp)
    have x1 : wr.cell? ⟨w.heap.size, 1, none⟩ = some (.int .i64 q1) := hax.cell (i := 1) (by simp)
    have x2 : wr.cell? ⟨w.heap.size, 2, none⟩ = some (.int .i64 q2) := hax.cell (i := 2) (by simp)
    clear hax
    by_cases hin : i < 1 + m
    · have d1 : decide ((i : Int) < 1 + (m : Int)) = true := by simp; omega
      have d2 : (i : Int) < 1 + (m : Int) := by omega
      rcases (show i % 2 = 0 ∨ i % 2 = 1 by omega) with hp | hp
      · have hand : bits .and .i64 (i : Int) 1 = 0 := by rw [i_and_1 i (by omega), hp]; rfl
        have hl := low32 q1
        obtain ⟨Q, hQ⟩ : ∃ Q : Nat, q1 % 4294967296 = (Q : Int) := ⟨(q1 % 4294967296).toNat, by omega⟩
        rw [hQ] at hl
        have hQ2 : Q < 4294967296 := by omega
        have ht := hturn_any Y hY q1 wr
        rw [hQ, hYt] at ht
        obtain ⟨Z, hZ⟩ : ∃ Z : Nat, (((X / 4294967296 + i) % 4294967296 + 1) % 4294967296 : Nat) * (4294967296 : Int) + (Q : Int) = (Z : Int) := ⟨((X / 4294967296 + i) % 4294967296 + 1) % 4294967296 * 4294967296 + Q, by omega⟩
        have hZ2 : Z < 18446744073709551616 := by omega
        have hZt : Z / 4294967296 = (X / 4294967296 + (i + 1)) % 4294967296 := by omega
        have hZb : Z % 4294967296 = Q := by omega
        have hne : ((Z : Int) == (X : Int)) = false := by simp; omega
        rw [hZ] at ht
        have hbl := fun w => hblock_any Z w
        simp only [hZb] at hbl
        have HT := Lib.hid ht
        have HBL := Lib.hid hbl
        have HZT := Lib.hid hZt
        clear ht hbl hZ hZt hZb hQ hQ2 hYt hp
        go_wp2_with fail
        refine HT.out.mono ?_
        rintro e w' ⟨rfl, rfl⟩
        have HS : Hid (∀ W', Below w1.heap.size w1 W' → W'.cell? ⟨w.heap.size, 1, none⟩ = some (.int .i64 q1)) := Lib.hid fun W' hb => (HBX.out.of_block (hb.block _ HBX.out.lt)).cell (i := 1) (by simp)
        have KD := Lib.hid (HBW.out.drew)
        go_wp2_with fail
        clear x0 x1 x2 HT
        have hwr : IntKind.i64.wrap 1 = 1 := rfl
        have hwr2 : IntKind.i64.wrap (1 + 0) = 1 := rfl
        go_region_held3 (fun w' => w'.cell? ⟨w.heap.size, 1, none⟩ = some (.int .i64 q1) ∧ Hid (Below w1.heap.size w1 w'))
          (first | exact ⟨HS.out _ (Hid.out (by assumption)), by assumption⟩)
          (first | (go_at_call 28; (with_reducible refine (still_call HBL.out (by assumption)).mono ?_); rintro e w5 ⟨rfl, K2⟩))
        all_goals
          go_wp2
          go_roundw
          case rel => first | exact ⟨i + 1, by omega, by go_num, ⟨Z, rfl, hZ2, HZT.out, fun h => by omega⟩, K2⟩ | ((repeat apply Exists.intro); exact ⟨⟨i + 1, by omega, by go_num, ⟨Z, rfl, hZ2, HZT.out, fun h => by omega⟩, K2⟩, rfl⟩)
          case measure => simp [intOf]; omega
      · have hand : bits .and .i64 (i : Int) 1 = 1 := by rw [i_and_1 i (by omega), hp]; rfl
        have hl := low32 q2
        obtain ⟨Q, hQ⟩ : ∃ Q : Nat, q2 % 4294967296 = (Q : Int) := ⟨(q2 % 4294967296).toNat, by omega⟩
        rw [hQ] at hl
        have hQ2 : Q < 4294967296 := by omega
        have ht := hturn_any Y hY q2 wr
        rw [hQ, hYt] at ht
        obtain ⟨Z, hZ⟩ : ∃ Z : Nat, (((X / 4294967296 + i) % 4294967296 + 1) % 4294967296 : Nat) * (4294967296 : Int) + (Q : Int) = (Z : Int) := ⟨((X / 4294967296 + i) % 4294967296 + 1) % 4294967296 * 4294967296 + Q, by omega⟩
        have hZ2 : Z < 18446744073709551616 := by omega
        have hZt : Z / 4294967296 = (X / 4294967296 + (i + 1)) % 4294967296 := by omega
        have hZb : Z % 4294967296 = Q := by omega
        have hne : ((Z : Int) == (X : Int)) = false := by simp; omega
        rw [hZ] at ht
        have hbl := fun w => hblock_any Z w
        simp only [hZb] at hbl
        have HT := Lib.hid ht
        have HBL := Lib.hid hbl
        have HZT := Lib.hid hZt
        clear ht hbl hZ hZt hZb hQ hQ2 hYt hp
        go_wp2_with fail
        refine HT.out.mono ?_
        rintro e w' ⟨rfl, rfl⟩
        have HS : Hid (∀ W', Below w1.heap.size w1 W' → W'.cell? ⟨w.heap.size, 2, none⟩ = some (.int .i64 q2)) := Lib.hid fun W' hb => (HBX.out.of_block (hb.block _ HBX.out.lt)).cell (i := 2) (by simp)
        have KD := Lib.hid (HBW.out.drew)
        go_wp2_with fail
        clear x0 x1 x2 HT
        have hwr : IntKind.i64.wrap 2 = 2 := rfl
        have hwr2 : IntKind.i64.wrap (1 + 1) = 2 := rfl
        go_region_held3 (fun w' => w'.cell? ⟨w.heap.size, 2, none⟩ = some (.int .i64 q2) ∧ Hid (Below w1.heap.size w1 w'))
          (first | exact ⟨HS.out _ (Hid.out (by assumption)), by assumption⟩)
          (first | (go_at_call 28; (with_reducible refine (still_call HBL.out (by assumption)).mono ?_); rintro e w5 ⟨rfl, K2⟩))
        all_goals
          go_wp2
          go_roundw
          case rel => first | exact ⟨i + 1, by omega, by go_num, ⟨Z, rfl, hZ2, HZT.out, fun h => by omega⟩, K2⟩ | ((repeat apply Exists.intro); exact ⟨⟨i + 1, by omega, by go_num, ⟨Z, rfl, hZ2, HZT.out, fun h => by omega⟩, K2⟩, rfl⟩)
          case measure => simp [intOf]; omega
    · have d1 : decide ((i : Int) < 1 + (m : Int)) = false := by simp; omega
      have d2 : ¬ (i : Int) < 1 + (m : Int) := by omega
      go_wp2
      go_ret
      exact ⟨rfl, Below.step HB1.out HBW.out HB1.out.size⟩

end Go.Proofs.YtkhbhkllnigbgaaDoor
