/- tree.Check: whatever schema, type and tree. -/
import Derived.Test.YthcachmcjekckaaDoorTCheck
namespace Go.Proofs.YthcachmcjekckaaDoor
open Go.RowKit
set_option maxRecDepth 100000 in
set_option maxHeartbeats 1000000 in
theorem checker_any (s : Sch) (A : Option Addr) (c : Nat) (w : World) (hs : SAt w A s) : Calls Tryd.prog 57 #[.slice A s.n c] w fun e w' => ∃ bs bc, e = .returned (.func (.func 93) #[] #[.pointer (some ⟨bs, 0, none⟩), .pointer (some ⟨bc, 0, none⟩)]) ∧ CkW bs bc s A c w' ∧ Below w.heap.size w w' := by
  have HS := Lib.hid hs
  have hmf := mk_func
  clear hs
  go_enter Tryd.func57, Tryd.ntmps57
  go_wp2
  go_ret
  have hB : Below w.heap.size w ((w.alloc (.cells #[.slice A s.n c] 27)).alloc (.cells #[.func (.func 93) #[] #[.pointer (some ⟨w.heap.size, 0, none⟩), .pointer (some ⟨w.heap.size + 1, 0, none⟩)]] 116)) := by (repeat (first | with_reducible exact Below.refl _ _ | with_reducible refine Below.drew ?_ | (with_reducible refine Below.setCell ?_ ?side _; case side => exact (by first | (simp; done) | (simp; omega) | omega)) | (with_reducible refine Below.alloc ?_ ?side _; case side => exact (by first | (simp; done) | (simp; omega) | omega))))
  refine ⟨w.heap.size, w.heap.size + 1, rfl, ⟨?_, ?_, ?_, ?_, HS.out.below hB⟩, hB⟩
  · simp; omega
  · simp
  · simp
  · simp

/-- What Check tells: 0, 1, 16 or 24. -/
noncomputable def chkC (s : Sch) (t : Int) (x : Tr) : Nat := if okS s = true ∧ hasT s t then chk s 5 t.toNat x else 1
theorem chkC_ok {s : Sch} (h : RightS s) {t : Nat} (ht : t < s.n) (x : Tr) : chkC s t x = chk s 5 t x := by
  rw [chkC, if_pos ⟨okS_true h, by unfold hasT; omega⟩]; rfl
theorem chkC_vals (s : Sch) (t : Int) (x : Tr) : chkC s t x = 0 ∨ chkC s t x = 1 ∨ chkC s t x = 16 ∨ chkC s t x = 24 := by
  unfold chkC
  split
  · have := chk_vals s 5 t.toNat x; omega
  · exact .inr (.inl rfl)

/-- A tree's box, and what else Check needs. -/
structure CC (w : World) (s : Sch) (A : Option Addr) (x : Tr) (A1 : Option Addr) (k1 : Nat) (A2 : Option Addr) (k2 : Nat) (W : World) : Prop where
  sat : SAt W A s
  box : Cell4 W w.heap.size 0 x A1 k1 A2 k2
  lt : w.heap.size < W.heap.size
  tat : TAt W (fun _ => True) x A1 A2
  be : Below w.heap.size w W
theorem CC.below {w : World} {s : Sch} {A : Option Addr} {x : Tr} {A1 : Option Addr} {k1 : Nat} {A2 : Option Addr} {k2 : Nat} {W W' : World} (h : CC w s A x A1 k1 A2 k2 W) (hb : Below W.heap.size W W') : CC w s A x A1 k1 A2 k2 W' :=
  ⟨h.sat.below hb, h.box.of_block (hb.block _ h.lt), Nat.lt_of_lt_of_le h.lt hb.size, h.tat.below hb, Below.step h.be hb h.be.size⟩
theorem CC.drew {w : World} {s : Sch} {A : Option Addr} {x : Tr} {A1 : Option Addr} {k1 : Nat} {A2 : Option Addr} {k2 : Nat} {W : World} (h : CC w s A x A1 k1 A2 k2 W) : CC w s A x A1 k1 A2 k2 W.drew := h.below (Below.refl _ _).drew
theorem CC.all {w : World} {s : Sch} {A : Option Addr} {x : Tr} {A1 : Option Addr} {k1 : Nat} {A2 : Option Addr} {k2 : Nat} {W : World} (h : CC w s A x A1 k1 A2 k2 W) :
    W.cell? ⟨w.heap.size, 0, none⟩ = some (.int .u64 (x.num : Nat)) ∧ W.cell? ⟨w.heap.size, 1, none⟩ = some (.string x.bs) ∧ W.cell? ⟨w.heap.size, 2, none⟩ = some (.slice A1 x.nl k1) ∧ W.cell? ⟨w.heap.size, 3, none⟩ = some (.slice A2 x.kl k2) ∧ CC w s A x A1 k1 A2 k2 W :=
  ⟨h.box.c0, h.box.c1, h.box.c2, h.box.c3, h⟩
theorem CC.mk' {w : World} {s : Sch} {A : Option Addr} {x : Tr} {A1 : Option Addr} {k1 : Nat} {A2 : Option Addr} {k2 : Nat} (hs : SAt w A s) (ht : TAt w (fun _ => True) x A1 A2) : CC w s A x A1 k1 A2 k2 (w.alloc (.cells #[.int .u64 ((x).num : Nat), .string (x).bs, .slice A1 (x).nl k1, .slice A2 (x).kl k2] 32)) :=
  ⟨hs.below ((Below.refl _ _).alloc (Nat.le_refl _) _), cell4_box w x A1 k1 A2 k2, by simp, ht.below ((Below.refl _ _).alloc (Nat.le_refl _) _), by (repeat (first | with_reducible exact Below.refl _ _ | with_reducible refine Below.drew ?_ | (with_reducible refine Below.setCell ?_ ?side _; case side => exact (by first | (simp; done) | (simp; omega) | omega)) | (with_reducible refine Below.alloc ?_ ?side _; case side => exact (by first | (simp; done) | (simp; omega) | omega))))⟩

set_option maxRecDepth 100000 in
set_option maxHeartbeats 2000000 in
theorem tcheck_any (s : Sch) (A : Option Addr) (c : Nat) (t : Int) (x : Tr) (An Ak : Option Addr) (cn ck n : Nat) (w : World) (hs : SAt w A s) (hS : Sm n x) (hT : TAt w (fun _ => True) x An Ak) :
    Calls Tryd.prog 32 #[.slice A s.n c, .int .i64 t, (.agg #[.int .u64 ((x).num : Nat), .string (x).bs, .slice An (x).nl cn, .slice Ak (x).kl ck])] w fun e w' => e = .returned (errV (chkC s t x)) ∧ Below w.heap.size w w' := by
  have H0 := Lib.hid (CC.mk' (k1 := cn) (k2 := ck) hs hT)
  have HS := Lib.hid hS
  clear hs hT hS
  by_cases ho : okS s = true
  · have HO := Lib.hid ho
    have HR := Lib.hid (right_of_okS ho)
    clear ho
    by_cases ht : hasT s t
    · have HC : Hid (chkC s t x = chk s 5 t.toNat x) := Lib.hid (if_pos ⟨HO.out, ht⟩)
      unfold hasT at ht
      obtain ⟨t, rfl⟩ : ∃ m : Nat, t = m := ⟨t.toNat, by omega⟩
      have htn : t < s.n := by omega
      have HL := Lib.hid (lenAt_nat htn)
      have hl1 := (HR.out.2.2 t htn).1
      obtain ⟨L, hL⟩ : ∃ L, L = s.len t := ⟨_, rfl⟩
      rw [← hL] at HL hl1
      have hl2 : ((L : Int) == 0) = false := by simp; omega
      have hl3 : (L == 0) = false := by simp; omega
      have hl4 : ((L : Int) = 0) = False := by simp; omega
      clear hL ht
      go_enter Tryd.func32, Tryd.ntmps32
      go_wp2_with fail
      refine (check_yes s A c _ H0.out.sat HO.out).mono ?_
      rintro e w1 ⟨rfl, hb⟩
      have H1 := Lib.hid (H0.out.below hb)
      clear hb
      go_wp2_with fail
      refine (fields_any s A c t _ H1.out.sat).mono ?_
      rintro e w' ⟨rfl, rfl⟩
      rw [HL.out]
      go_wp2_with fail
      clear hl2 hl3 hl4
      go_region_held3 (fun w' => w'.cell? ⟨w.heap.size, 0, none⟩ = some (.int .u64 (x.num : Nat)) ∧ w'.cell? ⟨w.heap.size, 1, none⟩ = some (.string x.bs) ∧ w'.cell? ⟨w.heap.size, 2, none⟩ = some (.slice An x.nl cn) ∧ w'.cell? ⟨w.heap.size, 3, none⟩ = some (.slice Ak x.kl ck) ∧ CC w s A x An cn Ak ck w')
        (first | exact H1.out.drew.all | exact H2.out.all | exact H3.out.all | assumption)
        (first
          | (go_at_call 57; (with_reducible refine (checker_any s A c _ H1.out.drew.sat).mono ?_); rintro e w2 ⟨bs, bc, rfl, hck, hb⟩; have HCK := Lib.hid hck; have H2 := Lib.hid (H1.out.drew.below hb); clear hb hck)
          | (go_at_call 93; (with_reducible refine (check1_any s HR.out A c bs bc 5 t x An Ak cn ck n 1 _ htn (by omega) (by omega) HS.out HCK.out H2.out.tat).mono ?_); rintro e w3 ⟨rfl, hb⟩; have H3 := Lib.hid (H2.out.below hb); clear hb))
      all_goals
        go_wp2
        go_ret
        exact ⟨ret_err HC.out.symm, H3.out.be⟩
    · have HC : Hid (chkC s t x = 1) := Lib.hid (if_neg fun h => ht h.2)
      have HL : Hid (lenAt s t = 0) := Lib.hid (if_neg ht)
      clear ht
      go_enter Tryd.func32, Tryd.ntmps32
      go_wp2_with fail
      refine (check_yes s A c _ H0.out.sat HO.out).mono ?_
      rintro e w1 ⟨rfl, hb⟩
      have H1 := Lib.hid (H0.out.below hb)
      clear hb
      go_wp2_with fail
      refine (fields_any s A c t _ H1.out.sat).mono ?_
      rintro e w' ⟨rfl, rfl⟩
      rw [HL.out]
      go_wp2_with fail
      refine (Cs.new_code 1 _ rfl).mono ?_
      rintro e w' ⟨rfl, rfl⟩
      go_wp2
      go_ret
      exact ⟨ret_err (a := 1) HC.out.symm, H1.out.be⟩
  · have HC : Hid (chkC s t x = 1) := Lib.hid (if_neg fun h => ho h.1)
    have HO : Hid (okS s = false) := Lib.hid (by simpa using ho)
    clear ho
    go_enter Tryd.func32, Tryd.ntmps32
    go_wp2_with fail
    refine (check_no s A c _ H0.out.sat HO.out).mono ?_
    rintro e w1 ⟨rfl, hb⟩
    have H1 := Lib.hid (H0.out.below hb)
    clear hb
    go_wp2_with fail
    refine (Cs.new_code 1 _ rfl).mono ?_
    rintro e w' ⟨rfl, rfl⟩
    go_wp2
    go_ret
    exact ⟨ret_err (a := 1) HC.out.symm, H1.out.be⟩

end Go.Proofs.YthcachmcjekckaaDoor
