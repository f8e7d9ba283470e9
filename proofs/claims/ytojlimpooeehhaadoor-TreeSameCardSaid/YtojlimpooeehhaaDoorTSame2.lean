/- When two trees are the same: tree.Same, itself. -/
import Derived.Test.YtojlimpooeehhaaDoorTSame
namespace Go.Proofs.YtojlimpooeehhaaDoor
open Go.RowKit
theorem i64_v {a b : Int} (h : a = b) : Value.int .i64 a = Value.int .i64 b := by rw [h]
theorem bs_ne {a b : ByteArray} (h : a ≠ b) : (a.toList == b.toList) = false := by
  rw [beq_eq_false_iff_ne]
  intro e
  rw [ByteArray.toList_eq, ByteArray.toList_eq] at e
  exact h (by cases a; cases b; exact congrArg ByteArray.mk (Array.ext' e))
theorem bound_int (q2 : Nat) (D : Int) (c : Nat) (W : World) (hD : D ≤ 100) (hc : c + 1 ≤ 2147483647) (hr : W.rowIs q2 3 1 (fun _ => .int .i64 ((c : Nat) : Int))) : Calls Tryd.prog 61 #[.int .i64 D, .pointer (some ⟨q2, 0, none⟩)] W fun e W' => e = .returned (.bool true) ∧ W.setCell ⟨q2, 0, none⟩ (.int .i64 ((c : Int) + 1)) = W' := by
  have c0 := hr.cell (i := 0) (by omega)
  have cf := hr.frozen
  clear hr
  have d1 : decide (D ≤ 262144) = true := decide_eq_true (by omega)
  have d2 : decide ((c : Int) + 1 ≤ 2147483647) = true := decide_eq_true (by omega)
  go_enter Tryd.func61, Tryd.ntmps61
  go_wp2
  go_ret
  exact ⟨rfl, rfl⟩

/-- Within same: the two trees' boxes. -/
structure SW (W0 : World) (q1 q2 q3 q4 D c q : Nat) (x y : Tr) (An : Option Addr) (cn : Nat) (Ak : Option Addr) (ck : Nat) (Bn : Option Addr) (dn : Nat) (Bk : Option Addr) (dk : Nat) (W : World) : Prop where
  sv : SV q1 q2 q3 q4 D c W
  bx : Cell4 W q 0 x An cn Ak ck
  byy : Cell4 W (q + 1) 0 y Bn dn Bk dk
  lq : q + 1 < W.heap.size
  tx : TAt W (fun b => ¬ (b = q1 ∨ b = q2)) x An Ak
  ty : TAt W (fun b => ¬ (b = q1 ∨ b = q2)) y Bn Bk
  hq : ∀ b, b = q1 ∨ b = q2 → b < q
  be : ButP (fun b => b = q1 ∨ b = q2) W0 W
theorem SW.butP {W0 : World} {q1 q2 q3 q4 D c D' c' q : Nat} {x y : Tr} {An : Option Addr} {cn : Nat} {Ak : Option Addr} {ck : Nat} {Bn : Option Addr} {dn : Nat} {Bk : Option Addr} {dk : Nat} {W W' : World} (h : SW W0 q1 q2 q3 q4 D c q x y An cn Ak ck Bn dn Bk dk W) (hv : SV q1 q2 q3 q4 D' c' W') (hb : ButP (fun b => b = q1 ∨ b = q2) W W') : SW W0 q1 q2 q3 q4 D' c' q x y An cn Ak ck Bn dn Bk dk W' :=
  ⟨hv, h.bx.of_block (hb.block q (by have := h.lq; omega) (fun e => by have := h.hq q e; omega)), h.byy.of_block (hb.block (q + 1) h.lq (fun e => by have := h.hq _ e; omega)), Nat.lt_of_lt_of_le h.lq hb.size, h.tx.butP hb, h.ty.butP hb, h.hq, ButP.trans h.be hb⟩
theorem SW.below {W0 : World} {q1 q2 q3 q4 D c q : Nat} {x y : Tr} {An : Option Addr} {cn : Nat} {Ak : Option Addr} {ck : Nat} {Bn : Option Addr} {dn : Nat} {Bk : Option Addr} {dk : Nat} {W W' : World} (h : SW W0 q1 q2 q3 q4 D c q x y An cn Ak ck Bn dn Bk dk W) (hb : Below W.heap.size W W') : SW W0 q1 q2 q3 q4 D c q x y An cn Ak ck Bn dn Bk dk W' := h.butP (h.sv.below hb) (ButP.of_below hb)
theorem SW.all {W0 : World} {q1 q2 q3 q4 D c q : Nat} {x y : Tr} {An : Option Addr} {cn : Nat} {Ak : Option Addr} {ck : Nat} {Bn : Option Addr} {dn : Nat} {Bk : Option Addr} {dk : Nat} {W : World} (h : SW W0 q1 q2 q3 q4 D c q x y An cn Ak ck Bn dn Bk dk W) : W.cell? ⟨q, 0, none⟩ = some (.int .u64 (x.num : Nat)) ∧ W.cell? ⟨q, 1, none⟩ = some (.string x.bs) ∧ W.cell? ⟨q, 2, none⟩ = some (.slice An x.nl cn) ∧ W.cell? ⟨q, 3, none⟩ = some (.slice Ak x.kl ck) ∧ W.cell? ⟨q + 1, 0, none⟩ = some (.int .u64 (y.num : Nat)) ∧ W.cell? ⟨q + 1, 1, none⟩ = some (.string y.bs) ∧ W.cell? ⟨q + 1, 2, none⟩ = some (.slice Bn y.nl dn) ∧ W.cell? ⟨q + 1, 3, none⟩ = some (.slice Bk y.kl dk) ∧ W.cell? ⟨q1, 0, none⟩ = some (.int .i64 ((D : Nat) : Int)) ∧ (∀ o, W.frozen? ⟨q1, o, none⟩ = false) ∧ W.cell? ⟨q4, 0, none⟩ = some (.func (.func 42) #[] #[.pointer (some ⟨q1, 0, none⟩), .pointer (some ⟨q3, 0, none⟩), .pointer (some ⟨q4, 0, none⟩)]) :=
  ⟨h.bx.c0, h.bx.c1, h.bx.c2, h.bx.c3, h.byy.c0, h.byy.c1, h.byy.c2, h.byy.c3, h.sv.row.cell (i := 0) (by omega), h.sv.row.frozen, h.sv.c4⟩
theorem SW.done {W0 : World} {q1 q2 q3 q4 D c c0 q : Nat} {x y : Tr} {An : Option Addr} {cn : Nat} {Ak : Option Addr} {ck : Nat} {Bn : Option Addr} {dn : Nat} {Bk : Option Addr} {dk : Nat} {W : World} (h : SW W0 q1 q2 q3 q4 (D + 1) c q x y An cn Ak ck Bn dn Bk dk W) (hc : c ≤ c0 + cntT x) {v : Value} (hv : v = .int .i64 ((D : Nat) : Int)) {b : Bool} (hb : b = sameTB x y) : Ending.returned (.bool b) = .returned (.bool (sameTB x y)) ∧ (∃ c', c' ≤ c0 + cntT x ∧ SV q1 q2 q3 q4 D c' (W.setCell ⟨q1, 0, none⟩ v)) ∧ ButP (fun b => b = q1 ∨ b = q2) W0 (W.setCell ⟨q1, 0, none⟩ v) :=
  ⟨by rw [hb], ⟨c, hc, h.sv.level D v hv⟩, h.be.set (p := ⟨q1, 0, none⟩) (.inl rfl) v⟩
theorem SW.start {q1 q2 q3 q4 D c : Nat} {x y : Tr} {An : Option Addr} {cn : Nat} {Ak : Option Addr} {ck : Nat} {Bn : Option Addr} {dn : Nat} {Bk : Option Addr} {dk : Nat} {W : World} (hV : SV q1 q2 q3 q4 D c W) (hx : TAt W (fun b => ¬ (b = q1 ∨ b = q2)) x An Ak) (hy : TAt W (fun b => ¬ (b = q1 ∨ b = q2)) y Bn Bk) : SW W q1 q2 q3 q4 (D + 1) c W.heap.size x y An cn Ak ck Bn dn Bk dk (((W.setCell ⟨q1, 0, none⟩ (.int .i64 ((D : Int) + 1))).alloc (.cells #[.int .u64 ((x).num : Nat), .string (x).bs, .slice An (x).nl cn, .slice Ak (x).kl ck] 34)).alloc (.cells #[.int .u64 ((y).num : Nat), .string (y).bs, .slice Bn (y).nl dn, .slice Bk (y).kl dk] 34)) := by
  have hV1 := hV.level (D + 1) (.int .i64 ((D : Int) + 1)) (i64_v (by simp))
  have hP : ButP (fun b => b = q1 ∨ b = q2) W (W.setCell ⟨q1, 0, none⟩ (.int .i64 ((D : Int) + 1))) := ButP.set (Q := fun b => b = q1 ∨ b = q2) (ButP.refl _ _) (p := ⟨q1, 0, none⟩) (.inl rfl) _
  have hsz : (W.setCell ⟨q1, 0, none⟩ (.int .i64 ((D : Int) + 1))).heap.size = W.heap.size := by simp
  generalize W.setCell ⟨q1, 0, none⟩ (.int .i64 ((D : Int) + 1)) = W' at hV1 hP hsz ⊢
  have hB2 : Below W'.heap.size W' ((W'.alloc (.cells #[.int .u64 ((x).num : Nat), .string (x).bs, .slice An (x).nl cn, .slice Ak (x).kl ck] 34)).alloc (.cells #[.int .u64 ((y).num : Nat), .string (y).bs, .slice Bn (y).nl dn, .slice Bk (y).kl dk] 34)) := by (repeat (first | with_reducible exact Below.refl _ _ | with_reducible refine Below.drew ?_ | (with_reducible refine Below.setCell ?_ ?side _; case side => exact (by first | (simp; done) | (simp; omega) | omega)) | (with_reducible refine Below.alloc ?_ ?side _; case side => exact (by first | (simp; done) | (simp; omega) | omega))))
  have b2 := cell4_box (W'.alloc (.cells #[.int .u64 ((x).num : Nat), .string (x).bs, .slice An (x).nl cn, .slice Ak (x).kl ck] 34)) y Bn dn Bk dk
  simp only [World.size_alloc] at b2
  rw [← hsz]
  exact ⟨hV1.below hB2, (cell4_box W' x An cn Ak ck).of_block (((Below.refl _ _).alloc (Nat.le_refl _) _).block _ (by simp)), b2, by simp, (hx.butP hP).below hB2, (hy.butP hP).below hB2, fun b e => by have := hV.row.lt; have := hV.row2.lt; omega, ButP.trans hP (ButP.of_below hB2)⟩
theorem sameT_parts {x y : Tr} : sameT x y ↔ x.num = y.num ∧ x.bs = y.bs ∧ sameW x.nl y.nl x.nf y.nf ∧ sameK x y := by
  rw [sameT_eq]
  exact ⟨fun ⟨a, b, c, d⟩ => ⟨a, b, c, d⟩, fun ⟨a, b, c, d⟩ => ⟨a, b, c, d⟩⟩

set_option maxRecDepth 100000 in
set_option maxHeartbeats 4000000 in
theorem same1_step (q1 q2 q3 q4 n : Nat) (hih : Same1At q1 q2 q3 q4 n) : Same1At q1 q2 q3 q4 (n + 1) := by
  intro x y An Ak Bn Bk cn ck dn dk D c W hS hD hc hx hy hV
  have HIH := Lib.hid hih
  have HS := Lib.hid hS
  have hnl := hS.le.2.2.1
  have HCT := Lib.hid (cntT_eq x)
  have HC := Lib.hid hc
  have hc1 : c + 1 ≤ 2147483647 := by have := HCT.out; omega
  have HSW1 := Lib.hid (SW.start (cn := cn) (ck := ck) (dn := dn) (dk := dk) hV hx hy)
  have l1 := hV.row.lt
  have l3 := hV.lt3
  have l4 := hV.lt4
  have n12 := hV.n12
  have n13 := hV.n13
  have n14 := hV.n14
  have g1 := hV.row.cell (i := 0) (by omega)
  have g3 := hV.c3
  have gf := hV.row.frozen
  clear hih hS hc hx hy hV
  have e1 : q1 ≠ W.heap.size := by omega
  have e2 : q1 ≠ W.heap.size + 1 := by omega
  have e3 : q3 ≠ W.heap.size := by omega
  have e4 : q3 ≠ W.heap.size + 1 := by omega
  have e5 : q3 ≠ q1 := by omega
  go_enter Tryd.func42, Tryd.ntmps42
  go_wp2_with fail
  clear g1 g3 gf e1 e2 e3 e4 e5
  refine (bound_int q2 ((D : Int) + 1) c _ (by omega) hc1 HSW1.out.sv.row2).mono ?_
  rintro e W2 ⟨rfl, hW2⟩
  have HSW2 := Lib.hid (HSW1.out.butP (HSW1.out.sv.count (c + 1) (.int .i64 ((c : Int) + 1)) (i64_v (by simp))) (ButP.set (Q := fun b => b = q1 ∨ b = q2) (ButP.refl _ _) (p := ⟨q2, 0, none⟩) (.inr rfl) _))
  rw [hW2] at HSW2
  clear HSW1 hW2
  generalize W.heap.size = q at HSW2 l1 l3 l4 ⊢
  obtain ⟨x0, x1, x2, x3, y0, y1, y2, y3, z0, zf, z4⟩ := HSW2.out.all
  by_cases h1 : x.num = y.num
  · rw [← h1] at y0
    by_cases h2 : x.bs = y.bs
    · rw [← h2] at y1
      go_wp2_with fail
      clear x0 x1 x2 x3 y0 y1 y2 y3 z0 zf z4
      refine (equal_any _ An Bn x.nl y.nl cn dn x.nf y.nf (by omega) HSW2.out.tx.nums HSW2.out.ty.nums).mono ?_
      rintro e W3 ⟨rfl, hb⟩
      have HSW3 := Lib.hid (HSW2.out.below hb)
      clear hb HSW2
      obtain ⟨x0, x1, x2, x3, y0, y1, y2, y3, z0, zf, z4⟩ := HSW3.out.all
      by_cases h3 : sameW x.nl y.nl x.nf y.nf
      · rw [sameWB_true h3]
        have HT : Hid (sameKB x y = sameTB x y) := Lib.hid (by
          by_cases h4 : sameK x y
          · rw [sameKB_true h4, sameTB_true (sameT_parts.2 ⟨h1, h2, h3, h4⟩)]
          · rw [sameKB_false h4, sameTB_false fun h => h4 (sameT_parts.1 h).2.2.2])
        go_wp2_with fail
        clear x0 x1 x2 x3 y0 y1 y2 y3 z0 zf z4 h1 h2 h3
        refine (eqf_any q1 q2 q3 q4 n HIH.out x y Ak Bk An Bn ck dk (D + 1) (c + 1) _ HS.out (by omega) (by have := HCT.out; have := HC.out; omega) HSW3.out.tx HSW3.out.ty HSW3.out.sv).mono ?_
        rintro e W4 ⟨rfl, ⟨c4, hc4, hV4⟩, hB4⟩
        have HSW4 := Lib.hid (HSW3.out.butP hV4 hB4)
        clear hV4 hB4 HSW3
        obtain ⟨x0, x1, x2, x3, y0, y1, y2, y3, z0, zf, z4⟩ := HSW4.out.all
        go_wp2
        go_ret
        exact HSW4.out.done (by have := HCT.out; omega) (i64_v (by first | rfl | omega | simp)) HT.out
      · rw [sameWB_false h3]
        have HT : Hid (sameTB x y = false) := Lib.hid (sameTB_false fun h => h3 (sameT_parts.1 h).2.2.1)
        go_wp2
        go_ret
        exact HSW3.out.done (by have := HCT.out; omega) (i64_v (by first | rfl | omega | simp)) HT.out.symm
    · have HT : Hid (sameTB x y = false) := Lib.hid (sameTB_false fun h => h2 (sameT_parts.1 h).2.1)
      have t3 := bs_ne h2
      go_wp2
      go_ret
      exact HSW2.out.done (by have := HCT.out; omega) (i64_v (by first | rfl | omega | simp)) HT.out.symm
  · have HT : Hid (sameTB x y = false) := Lib.hid (sameTB_false fun h => h1 (sameT_parts.1 h).1)
    have t1 : ((x.num : Int) == (y.num : Int)) = false := by simp; omega
    have t2 : (x.num == y.num) = false := by simp; omega
    go_wp2
    go_ret
    exact HSW2.out.done (by have := HCT.out; omega) (i64_v (by first | rfl | omega | simp)) HT.out.symm
theorem same1_any (q1 q2 q3 q4 n : Nat) : Same1At q1 q2 q3 q4 n := by
  induction n with
  | zero => intro x y An Ak Bn Bk cn ck dn dk D c W h; exact absurd h (by simp [Sm])
  | succ n ih => exact same1_step q1 q2 q3 q4 n ih

set_option maxRecDepth 100000 in
set_option maxHeartbeats 2000000 in
theorem tsame_any (x y : Tr) (An Ak Bn Bk : Option Addr) (cn ck dn dk n : Nat) (w : World) (hS : Sm n x) (hn : n ≤ 12) (hx : TAt w (fun _ => True) x An Ak) (hy : TAt w (fun _ => True) y Bn Bk) :
    Calls Tryd.prog 19 #[(.agg #[.int .u64 ((x).num : Nat), .string (x).bs, .slice An (x).nl cn, .slice Ak (x).kl ck]), (.agg #[.int .u64 ((y).num : Nat), .string (y).bs, .slice Bn (y).nl dn, .slice Bk (y).kl dk])] w fun e w' => e = .returned (.bool (sameTB x y)) ∧ Below w.heap.size w w' := by
  have HS := Lib.hid hS
  have HX := Lib.hid hx
  have HY := Lib.hid hy
  have hmf := mk_func
  clear hS hx hy
  go_enter Tryd.func19, Tryd.ntmps19
  go_wp2_with fail
  refine (bounds_any _).mono ?_
  rintro e w' ⟨rfl, rfl⟩
  have hb5 : Below w.heap.size w ((((((w.alloc (.cells #[.int .u64 ((x).num : Nat), .string (x).bs, .slice An (x).nl cn, .slice Ak (x).kl ck] 34)).alloc (.cells #[.int .u64 ((y).num : Nat), .string (y).bs, .slice Bn (y).nl dn, .slice Bk (y).kl dk] 34)).alloc (.cells #[.int .i64 0] 3)).alloc (.cells #[.func (.func 61) #[] #[.pointer (some ⟨w.heap.size + 1 + 1, 0, none⟩)]] 73)).alloc (.cells #[.int .i64 0] 3)).alloc (.cells #[.func (.func 42) #[] #[.pointer (some ⟨w.heap.size + 1 + 1 + 1 + 1, 0, none⟩), .pointer (some ⟨w.heap.size + 1 + 1 + 1, 0, none⟩), .pointer (some ⟨w.heap.size + 1 + 1 + 1 + 1 + 1, 0, none⟩)]] 43)) := by (repeat (first | with_reducible exact Below.refl _ _ | with_reducible refine Below.drew ?_ | (with_reducible refine Below.setCell ?_ ?side _; case side => exact (by first | (simp; done) | (simp; omega) | omega)) | (with_reducible refine Below.alloc ?_ ?side _; case side => exact (by first | (simp; done) | (simp; omega) | omega))))
  have hV : SV (w.heap.size + 1 + 1 + 1 + 1) (w.heap.size + 1 + 1) (w.heap.size + 1 + 1 + 1) (w.heap.size + 1 + 1 + 1 + 1 + 1) 0 0 ((((((w.alloc (.cells #[.int .u64 ((x).num : Nat), .string (x).bs, .slice An (x).nl cn, .slice Ak (x).kl ck] 34)).alloc (.cells #[.int .u64 ((y).num : Nat), .string (y).bs, .slice Bn (y).nl dn, .slice Bk (y).kl dk] 34)).alloc (.cells #[.int .i64 0] 3)).alloc (.cells #[.func (.func 61) #[] #[.pointer (some ⟨w.heap.size + 1 + 1, 0, none⟩)]] 73)).alloc (.cells #[.int .i64 0] 3)).alloc (.cells #[.func (.func 42) #[] #[.pointer (some ⟨w.heap.size + 1 + 1 + 1 + 1, 0, none⟩), .pointer (some ⟨w.heap.size + 1 + 1 + 1, 0, none⟩), .pointer (some ⟨w.heap.size + 1 + 1 + 1 + 1 + 1, 0, none⟩)]] 43)) := by
    have r1 := (((int_row ((w.alloc (.cells #[.int .u64 ((x).num : Nat), .string (x).bs, .slice An (x).nl cn, .slice Ak (x).kl ck] 34)).alloc (.cells #[.int .u64 ((y).num : Nat), .string (y).bs, .slice Bn (y).nl dn, .slice Bk (y).kl dk] 34)) 0).alloc (.cells #[.func (.func 61) #[] #[.pointer (some ⟨w.heap.size + 1 + 1, 0, none⟩)]] 73)).alloc (.cells #[.int .i64 0] 3)).alloc (.cells #[.func (.func 42) #[] #[.pointer (some ⟨w.heap.size + 1 + 1 + 1 + 1, 0, none⟩), .pointer (some ⟨w.heap.size + 1 + 1 + 1, 0, none⟩), .pointer (some ⟨w.heap.size + 1 + 1 + 1 + 1 + 1, 0, none⟩)]] 43)
    have r2 := ((World.rowIs_alloc (((w.alloc (.cells #[.int .u64 ((x).num : Nat), .string (x).bs, .slice An (x).nl cn, .slice Ak (x).kl ck] 34)).alloc (.cells #[.int .u64 ((y).num : Nat), .string (y).bs, .slice Bn (y).nl dn, .slice Bk (y).kl dk] 34)).alloc (.cells #[.int .i64 0] 3)) #[.func (.func 61) #[] #[.pointer (some ⟨w.heap.size + 1 + 1, 0, none⟩)]] 73 (fun _ => .func (.func 61) #[] #[.pointer (some ⟨w.heap.size + 1 + 1, 0, none⟩)]) (by intro j hj; match j, hj with | 0, _ => rfl)).alloc (.cells #[.int .i64 0] 3)).alloc (.cells #[.func (.func 42) #[] #[.pointer (some ⟨w.heap.size + 1 + 1 + 1 + 1, 0, none⟩), .pointer (some ⟨w.heap.size + 1 + 1 + 1, 0, none⟩), .pointer (some ⟨w.heap.size + 1 + 1 + 1 + 1 + 1, 0, none⟩)]] 43)
    have r3 := (int_row ((((w.alloc (.cells #[.int .u64 ((x).num : Nat), .string (x).bs, .slice An (x).nl cn, .slice Ak (x).kl ck] 34)).alloc (.cells #[.int .u64 ((y).num : Nat), .string (y).bs, .slice Bn (y).nl dn, .slice Bk (y).kl dk] 34)).alloc (.cells #[.int .i64 0] 3)).alloc (.cells #[.func (.func 61) #[] #[.pointer (some ⟨w.heap.size + 1 + 1, 0, none⟩)]] 73)) 0).alloc (.cells #[.func (.func 42) #[] #[.pointer (some ⟨w.heap.size + 1 + 1 + 1 + 1, 0, none⟩), .pointer (some ⟨w.heap.size + 1 + 1 + 1, 0, none⟩), .pointer (some ⟨w.heap.size + 1 + 1 + 1 + 1 + 1, 0, none⟩)]] 43)
    have r4 := World.rowIs_alloc (((((w.alloc (.cells #[.int .u64 ((x).num : Nat), .string (x).bs, .slice An (x).nl cn, .slice Ak (x).kl ck] 34)).alloc (.cells #[.int .u64 ((y).num : Nat), .string (y).bs, .slice Bn (y).nl dn, .slice Bk (y).kl dk] 34)).alloc (.cells #[.int .i64 0] 3)).alloc (.cells #[.func (.func 61) #[] #[.pointer (some ⟨w.heap.size + 1 + 1, 0, none⟩)]] 73)).alloc (.cells #[.int .i64 0] 3)) #[.func (.func 42) #[] #[.pointer (some ⟨w.heap.size + 1 + 1 + 1 + 1, 0, none⟩), .pointer (some ⟨w.heap.size + 1 + 1 + 1, 0, none⟩), .pointer (some ⟨w.heap.size + 1 + 1 + 1 + 1 + 1, 0, none⟩)]] 43 (fun _ => .func (.func 42) #[] #[.pointer (some ⟨w.heap.size + 1 + 1 + 1 + 1, 0, none⟩), .pointer (some ⟨w.heap.size + 1 + 1 + 1, 0, none⟩), .pointer (some ⟨w.heap.size + 1 + 1 + 1 + 1 + 1, 0, none⟩)]) (by intro j hj; match j, hj with | 0, _ => rfl)
    simp only [World.size_alloc] at r1 r2 r3 r4
    exact ⟨r3, r1, r2.lt, r2.cell (i := 0) (by simp), r4.lt, r4.cell (i := 0) (by simp), by omega, by omega, by omega, by omega, by omega⟩
  have hcT : 0 + cntT x ≤ 2147483647 := by
    have h1 := cntT_le (HS.out.mono hn)
    have h2 : (5 : Nat) ^ 12 = 244140625 := by decide
    omega
  have HV := Lib.hid hV
  have HB5 := Lib.hid hb5
  clear hV hb5
  go_wp2_with fail
  refine (same1_any (w.heap.size + 1 + 1 + 1 + 1) (w.heap.size + 1 + 1) (w.heap.size + 1 + 1 + 1) (w.heap.size + 1 + 1 + 1 + 1 + 1) n x y An Ak Bn Bk cn ck dn dk 0 0 _ HS.out (by omega) hcT ((HX.out.lt.below HB5.out).mono fun b hb _ => by show ¬ (b = w.heap.size + 1 + 1 + 1 + 1 ∨ b = w.heap.size + 1 + 1); omega) ((HY.out.lt.below HB5.out).mono fun b hb _ => by show ¬ (b = w.heap.size + 1 + 1 + 1 + 1 ∨ b = w.heap.size + 1 + 1); omega) HV.out).mono ?_
  rintro e w2 ⟨rfl, -, hB2⟩
  have HB : Hid (Below w.heap.size w w2) := Lib.hid (HB5.out.trans (hB2.below (B := w.heap.size) (by simp; omega) (fun k hk e => by have e : k = w.heap.size + 1 + 1 + 1 + 1 ∨ k = w.heap.size + 1 + 1 := e; omega)))
  clear hB2 hmf HV HB5
  go_wp2
  go_ret
  exact ⟨rfl, HB.out⟩

end Go.Proofs.YtojlimpooeehhaaDoor
