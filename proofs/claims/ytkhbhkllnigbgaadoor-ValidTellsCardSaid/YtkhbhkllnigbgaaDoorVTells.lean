/- The law's helper tells. -/
import Derived.Test.YtkhbhkllnigbgaaDoorVRefC
import Derived.Test.YtkhbhkllnigbgaaDoorCsOne
namespace Go.Proofs.YtkhbhkllnigbgaaDoor
open Go.ChangeShapes Go.WideShapes Go.ChangeAt Go.RowKit
/-- What the program tells is what the document tells. -/
theorem look_cases (s : Sch) (f : Nat → Nat) (N : Nat) :
    (∃ c, lookP s f N = ([], c) ∧ lookD s f N = (0, 0, false, c)) ∨
    (∃ k : Nat, (k = 1 ∨ k = 21) ∧ lookP s f N = ([((k : Int), 0)], 0) ∧ lookD s f N = (k, 0, false, 0)) ∨
    ∃ p k c : Nat, (k = 10 ∨ k = 16 ∨ k = 23) ∧ lookP s f N = ([(0, (p : Int)), ((k : Int), 0)], c) ∧ lookD s f N = (k, p, true, c) := by
  unfold lookP lookD
  by_cases h : okS s = false
  · rw [if_pos h, if_pos h]; exact .inr (.inl ⟨1, .inl rfl, rfl, rfl⟩)
  · rw [if_neg h, if_neg h]
    have hR : RightS s := right_of_okS (by simpa using h)
    by_cases hN : N = 0 ∨ 200 < N
    · rw [if_pos hN, if_pos hN]; exact .inr (.inl ⟨21, .inr rfl, rfl, rfl⟩)
    · rw [if_neg hN, if_neg hN]
      by_cases hf : ¬ f 0 % 4294967296 = N ∨ s.n ≤ f 0 / 4294967296
      · rw [if_pos hf, if_pos hf]; exact .inr (.inr ⟨0, 10, 0, .inl rfl, rfl, rfl⟩)
      · rw [if_neg hf, if_neg hf]
        have h1 := bodyV_in hR f N (by omega)
        rcases vr_cases (bodyV s f N) with ⟨c, e⟩ | ⟨k, p, c, e⟩
        · rw [e]; exact .inl ⟨c, rfl, rfl⟩
        · rw [e] at h1 ⊢
          exact .inr (.inr ⟨p, k, c, h1.code k p rfl, rfl, rfl⟩)
theorem word_none (w : World) : Calls Tryd.prog 46 #[.nilIface] w fun e w' => e = .returned (.tuple #[.int .i64 0, .bool false]) ∧ Below w.heap.size w w' := by
  have h := Cs.word_any [] (by simp [Cs.Ok]) (by simp) w
  exact h
theorem word_one (c : Int) (hc : ¬ c = 0) (w : World) : Calls Tryd.prog 46 #[.iface 55 (.int .i64 c)] w fun e w' => e = .returned (.tuple #[.int .i64 0, .bool false]) ∧ Below w.heap.size w w' := by
  have h := Cs.word_any [(c, 0)] (by simpa [Cs.Ok] using hc) (by simp) w
  rw [Cs.wordFrom_code _ _ _ hc, Cs.enc_code _ _ hc] at h
  exact h
theorem word_at (p k : Int) (hk : ¬ k = 0) (w : World) : Calls Tryd.prog 46 #[Cs.enc [(0, p), (k, 0)]] w fun e w' => e = .returned (.tuple #[.int .i64 p, .bool true]) ∧ Below w.heap.size w w' := by
  have h := Cs.word_any [(0, p), (k, 0)] (by simp [Cs.Ok, hk]) (by simp) w
  rw [Cs.wordFrom_word, Cs.wordFrom_code _ _ _ hk] at h
  exact h
theorem four_at {a b c d : Value} : ∀ (j : Nat), j < 4 → (#[a, b, c, d] : Array Value)[j]? = some (if j = 0 then a else if j = 1 then b else if j = 2 then c else d) := by
  intro j hj; match j, hj with | 0, _ => rfl | 1, _ => rfl | 2, _ => rfl | 3, _ => rfl
structure T8W (w : World) (q : Nat) (a b c d : Value) (W : World) : Prop where
  et : Cs.ErrT W
  box : W.rowIs q 106 4 (fun j => if j = 0 then a else if j = 1 then b else if j = 2 then c else d)
  be : Below w.heap.size w W
section
variable {w : World} {q : Nat} {a b c d : Value} {W W' : World}
theorem T8W.below (h : T8W w q a b c d W) (hb : Below W.heap.size W W') : T8W w q a b c d W' := ⟨h.et.below hb, h.box.of_block (hb.block _ h.box.lt), Below.step h.be hb h.be.size⟩
theorem T8W.all (H : Hid (T8W w q a b c d W)) : W.cell? ⟨q, 0, none⟩ = some a ∧ W.cell? ⟨q, 1, none⟩ = some b ∧ W.cell? ⟨q, 2, none⟩ = some c ∧ W.cell? ⟨q, 3, none⟩ = some d ∧ Hid (T8W w q a b c d W) :=
  ⟨H.out.box.cell (i := 0) (by omega), H.out.box.cell (i := 1) (by omega), H.out.box.cell (i := 2) (by omega), H.out.box.cell (i := 3) (by omega), H⟩
theorem T8W.drew (h : T8W w q a b c d W) : T8W w q a b c d W.drew := h.below (Below.refl _ _).drew
theorem T8W.call {F : FuncId} {args : Array Value} {r : Value} (hc : ∀ W, Cs.ErrT W → Below w.heap.size w W → Calls Tryd.prog F args W fun e W' => e = .returned r ∧ Below W.heap.size W W') (H : Hid (T8W w q a b c d W)) : Calls Tryd.prog F args W fun e W' => e = .returned r ∧ Hid (T8W w q a b c d W') :=
  (hc W H.out.et H.out.be).mono fun _ _ ⟨he, hb⟩ => ⟨he, Lib.hid (H.out.below hb)⟩
end
set_option maxRecDepth 100000 in
set_option maxHeartbeats 2000000 in
theorem tells8_any (s : Sch) (A : Option Addr) (cs n : Nat) (hn : s.n = n) (Aw : Option Addr) (N cw : Nat) (f : Nat → Nat) (w : World) (hE : Cs.ErrT w) (hs : SAt w A s) (hr : WRow w Aw N f) (hcw : N ≤ cw) : Calls Tryd.prog 13 #[.slice A n cs, .slice Aw N cw] w fun e w' => e = .returned (.bool true) ∧ Below w.heap.size w w' := by
  subst hn
  have hv := fun w' (hb : Below w.heap.size w w') => visits_any s A cs Aw N cw f w' (hs.below hb) (hr.below hb) hcw
  have hc := vcheck_any s A cs Aw N cw f w hs hr hcw
  have hd := fun w' (hb : Below w.heap.size w w') => r8check_any s A cs Aw N cw f w' (hs.below hb) (hr.below hb) hcw
  have hcs := look_cases s f N
  obtain ⟨⟨P, n⟩, hP⟩ : ∃ x, lookP s f N = x := ⟨_, rfl⟩
  obtain ⟨⟨k0, p0, b0, c0⟩, hD⟩ : ∃ x, lookD s f N = x := ⟨_, rfl⟩
  rw [hP, hD] at hcs
  rw [hP] at hc
  simp only [hP] at hv
  simp only [hD] at hd
  have HV := Lib.hid hv
  have HC := Lib.hid hc
  have HD := Lib.hid hd
  have HE := Lib.hid hE
  clear hv hc hd hE hs hr hP hD
  rcases hcs with ⟨c, e1, e2⟩ | ⟨k, hk, e1, e2⟩ | ⟨p, k, c, hk, e1, e2⟩
  · cases e1; cases e2
    go_enter Tryd.func13, Tryd.ntmps13
    go_wp2_with fail
    refine HC.out.mono ?_
    rintro e w1 ⟨rfl, hb⟩
    rw [show Cs.enc (([], n) : List (Int × Int) × Nat).1 = .nilIface from rfl]
    have HB1 := Lib.hid hb
    clear hb
    go_wp2_with fail
    refine (HD.out _ HB1.out).mono ?_
    rintro e w2 ⟨rfl, hb⟩
    have HB2 := Lib.hid (Below.step HB1.out hb HB1.out.size)
    clear hb
    unfold lookDV
    go_wp2_with fail
    refine (word_none _).mono ?_
    rintro e w3 ⟨rfl, hb⟩
    have K0 := Lib.hid (show T8W w w2.heap.size (.int .i64 ((0 : Nat) : Int)) (.int .i64 ((0 : Nat) : Int)) (.bool false) (.int .i64 (n : Nat)) w3 from ⟨(HE.out.below HB2.out).below ((Below.refl _ _).alloc (Nat.le_refl _) _) |>.below hb, (World.rowIs_alloc w2 #[.int .i64 ((0 : Nat) : Int), .int .i64 ((0 : Nat) : Int), .bool false, .int .i64 (n : Nat)] 106 _ four_at).of_block (hb.block _ (by simp)), Below.step (B := w.heap.size) (HB2.out.alloc HB2.out.size (.cells #[.int .i64 ((0 : Nat) : Int), .int .i64 ((0 : Nat) : Int), .bool false, .int .i64 (n : Nat)] 106)) hb (by have := HB2.out.size; simp; omega)⟩)
    have KD := Lib.hid K0.out.drew
    clear hb
    go_wp2_with fail
    clear K0
    refine wp_region_held_drew (S := (fun w' => w'.cell? ⟨w2.heap.size, 0, none⟩ = some (.int .i64 ((0 : Nat) : Int)) ∧ w'.cell? ⟨w2.heap.size, 1, none⟩ = some (.int .i64 ((0 : Nat) : Int)) ∧ w'.cell? ⟨w2.heap.size, 2, none⟩ = some (.bool false) ∧ w'.cell? ⟨w2.heap.size, 3, none⟩ = some (.int .i64 (n : Nat)) ∧ Hid (T8W w w2.heap.size (.int .i64 ((0 : Nat) : Int)) (.int .i64 ((0 : Nat) : Int)) (.bool false) (.int .i64 (n : Nat)) w'))) (by kernel_rfl) (T8W.all KD) (fun hHeld => ?_)
    refine wpAnyH_take (i := 0) (oi := ({ dst := Option.some 20, op := Go.Op.move (Go.Operand.tmp 5), type := 52, pos := "law.go:84", after := #[], guard := Option.none })) (v := ?_) rfl (by kernel_rfl) (by kernel_rfl) (by kernel_rfl) (fun _ _ _ h => h) (Or.inl ⟨by rfl, ?_⟩) (by assumption) ?_
    rotate_left
    · first | exact fun _ _ => rfl | (intro w hSw; (try dsimp only at hSw); go_simp; try with_reducible rfl)
    try simp only [Act.put, List.setIfInBounds_toArray, List.set_cons_zero, List.set_cons_succ]
    refine wpAnyH_take (i := 2) (oi := ({ dst := Option.some 22, op := Go.Op.fieldAddr 106 (Go.Operand.tmp 6) 0, type := 0, pos := "law.go:84", after := #[], guard := Option.none })) (v := ?_) rfl (by kernel_rfl) (by kernel_rfl) (by kernel_rfl) (fun _ _ _ h => h) (Or.inl ⟨by rfl, ?_⟩) (by assumption) ?_
    rotate_left
    · first | exact fun _ _ => rfl | (intro w hSw; (try dsimp only at hSw); go_simp; try with_reducible rfl)
    try simp only [Act.put, List.setIfInBounds_toArray, List.set_cons_zero, List.set_cons_succ]
    refine wpAnyH_take (i := 3) (oi := ({ dst := Option.some 23, op := Go.Op.load 55 (Go.Operand.tmp 22), type := 55, pos := "law.go:84", after := #[{ on := 2, ground := Go.Ground.data }], guard := Option.none })) (v := ?_) rfl (by kernel_rfl) (by kernel_rfl) (by kernel_rfl) (fun _ _ _ h => h) (Or.inl ⟨by rfl, ?_⟩) (by assumption) ?_
    rotate_left
    · first | exact fun _ _ => rfl | (intro w hSw; (try dsimp only at hSw); go_simp; try with_reducible rfl)
    try simp only [Act.put, List.setIfInBounds_toArray, List.set_cons_zero, List.set_cons_succ]
    refine wpAnyH_ready (rs := [1]) (by kernel_rfl) (by simp) ?_
    refine AllReadyH.cons (o := ({ dst := Option.some 21, op := Go.Op.call { callee := Go.Callee.value (Go.Operand.func 21), args := #[Go.Operand.tmp 20], argTypes := #[52] }, type := 55, pos := "law.go:84", after := #[{ on := 0, ground := Go.Ground.data }], guard := Option.none })) rfl (fun Kc hKc => ?_) AllReadyH.nil
    go_simp
    (go_at_call 21; (with_reducible refine (T8W.call (fun W hE _ => top_none W hE) (by assumption)).mono ?_); rintro e w5 ⟨rfl, K2⟩; clear KD)
    try go_wp2_with fail
    refine hKc.out _ _ (T8W.all (by assumption)) (fun hHeld => ?_)
    clear hKc Kc
    try simp only [Act.put, List.setIfInBounds_toArray, List.set_cons_zero, List.set_cons_succ]
    refine wpAnyH_take (i := 4) (oi := ({ dst := Option.some 24, op := Go.Op.binOp Go.BinOp.eql 55 (Go.Operand.tmp 21) (Go.Operand.tmp 23) 55, type := 4, pos := "law.go:84", after := #[{ on := 1, ground := Go.Ground.data }, { on := 3, ground := Go.Ground.data }], guard := Option.none })) (v := ?_) rfl (by kernel_rfl) (by kernel_rfl) (by kernel_rfl) (fun _ _ _ h => h) (Or.inl ⟨by rfl, ?_⟩) (by assumption) ?_
    rotate_left
    · first | exact fun _ _ => rfl | (intro w hSw; (try dsimp only at hSw); go_simp; try with_reducible rfl)
    try simp only [Act.put, List.setIfInBounds_toArray, List.set_cons_zero, List.set_cons_succ]
    refine wpAnyH_take (i := 5) (oi := ({ dst := Option.some 25, op := Go.Op.move (Go.Operand.tmp 24), type := 4, pos := "law.go:84", after := #[{ on := 4, ground := Go.Ground.data }, { on := 1, ground := Go.Ground.chain }], guard := Option.none })) (v := ?_) rfl (by kernel_rfl) (by kernel_rfl) (by kernel_rfl) (fun _ _ _ h => h) (Or.inl ⟨by rfl, ?_⟩) (by assumption) ?_
    rotate_left
    · first | exact fun _ _ => rfl | (intro w hSw; (try dsimp only at hSw); go_simp; try with_reducible rfl)
    try simp only [Act.put, List.setIfInBounds_toArray, List.set_cons_zero, List.set_cons_succ]
    refine wpAnyH_take (i := 6) (oi := ({ dst := Option.some 26, op := Go.Op.move (Go.Operand.tmp 8), type := 4, pos := "law.go:84", after := #[{ on := 5, ground := Go.Ground.guard }], guard := Option.some (5, Bool.true) })) (v := ?_) rfl (by kernel_rfl) (by kernel_rfl) (by kernel_rfl) (fun _ _ _ h => h) (Or.inl ⟨by rfl, ?_⟩) (by assumption) ?_
    rotate_left
    · first | exact fun _ _ => rfl | (intro w hSw; (try dsimp only at hSw); go_simp; try with_reducible rfl)
    try simp only [Act.put, List.setIfInBounds_toArray, List.set_cons_zero, List.set_cons_succ]
    refine wpAnyH_take (i := 7) (oi := ({ dst := Option.some 27, op := Go.Op.fieldAddr 106 (Go.Operand.tmp 6) 2, type := 0, pos := "law.go:84", after := #[{ on := 5, ground := Go.Ground.guard }], guard := Option.some (5, Bool.true) })) (v := ?_) rfl (by kernel_rfl) (by kernel_rfl) (by kernel_rfl) (fun _ _ _ h => h) (Or.inl ⟨by rfl, ?_⟩) (by assumption) ?_
    rotate_left
    · first | exact fun _ _ => rfl | (intro w hSw; (try dsimp only at hSw); go_simp; try with_reducible rfl)
    try simp only [Act.put, List.setIfInBounds_toArray, List.set_cons_zero, List.set_cons_succ]
    refine wpAnyH_take (i := 8) (oi := ({ dst := Option.some 28, op := Go.Op.load 4 (Go.Operand.tmp 27), type := 4, pos := "law.go:84", after := #[{ on := 7, ground := Go.Ground.data }, { on := 5, ground := Go.Ground.guard }], guard := Option.some (5, Bool.true) })) (v := ?_) rfl (by kernel_rfl) (by kernel_rfl) (by kernel_rfl) (fun _ _ _ h => h) (Or.inl ⟨by rfl, ?_⟩) (by assumption) ?_
    rotate_left
    · first | exact fun _ _ => rfl | (intro w hSw; (try dsimp only at hSw); go_simp; try with_reducible rfl)
    try simp only [Act.put, List.setIfInBounds_toArray, List.set_cons_zero, List.set_cons_succ]
    refine wpAnyH_take (i := 9) (oi := ({ dst := Option.some 29, op := Go.Op.binOp Go.BinOp.eql 4 (Go.Operand.tmp 26) (Go.Operand.tmp 28) 4, type := 4, pos := "law.go:84", after := #[{ on := 6, ground := Go.Ground.data }, { on := 8, ground := Go.Ground.data }, { on := 5, ground := Go.Ground.guard }], guard := Option.some (5, Bool.true) })) (v := ?_) rfl (by kernel_rfl) (by kernel_rfl) (by kernel_rfl) (fun _ _ _ h => h) (Or.inl ⟨by rfl, ?_⟩) (by assumption) ?_
    rotate_left
    · first | exact fun _ _ => rfl | (intro w hSw; (try dsimp only at hSw); go_simp; try with_reducible rfl)
    try simp only [Act.put, List.setIfInBounds_toArray, List.set_cons_zero, List.set_cons_succ]
    refine wpAnyH_take (i := 10) (oi := ({ dst := Option.some 30, op := Go.Op.pick (Go.Operand.tmp 25) (Go.Operand.tmp 29) (Go.Operand.const (Go.Value.bool Bool.false)), type := 4, pos := "law.go:84", after := #[{ on := 5, ground := Go.Ground.data }, { on := 9, ground := Go.Ground.data }], guard := Option.none })) (v := ?_) rfl (by kernel_rfl) (by kernel_rfl) (by kernel_rfl) (fun _ _ _ h => h) (Or.inl ⟨by rfl, ?_⟩) (by assumption) ?_
    rotate_left
    · first | exact fun _ _ => rfl | (intro w hSw; (try dsimp only at hSw); go_simp; try with_reducible rfl)
    try simp only [Act.put, List.setIfInBounds_toArray, List.set_cons_zero, List.set_cons_succ]
    refine wpAnyH_take (i := 11) (oi := ({ dst := Option.some 31, op := Go.Op.move (Go.Operand.tmp 30), type := 4, pos := "law.go:84", after := #[{ on := 10, ground := Go.Ground.data }, { on := 5, ground := Go.Ground.chain }], guard := Option.none })) (v := ?_) rfl (by kernel_rfl) (by kernel_rfl) (by kernel_rfl) (fun _ _ _ h => h) (Or.inl ⟨by rfl, ?_⟩) (by assumption) ?_
    rotate_left
    · first | exact fun _ _ => rfl | (intro w hSw; (try dsimp only at hSw); go_simp; try with_reducible rfl)
    try simp only [Act.put, List.setIfInBounds_toArray, List.set_cons_zero, List.set_cons_succ]
    refine wpAnyH_take (i := 12) (oi := ({ dst := Option.some 32, op := Go.Op.move (Go.Operand.tmp 8), type := 4, pos := "law.go:84", after := #[{ on := 11, ground := Go.Ground.guard }], guard := Option.some (11, Bool.true) })) (v := ?_) rfl (by kernel_rfl) (by kernel_rfl) (by kernel_rfl) (fun _ _ _ h => h) (Or.inl ⟨by rfl, ?_⟩) (by assumption) ?_
    rotate_left
    · first | exact fun _ _ => rfl | (intro w hSw; (try dsimp only at hSw); go_simp; try with_reducible rfl)
    try simp only [Act.put, List.setIfInBounds_toArray, List.set_cons_zero, List.set_cons_succ]
    refine wpAnyH_take (i := 13) (oi := ({ dst := Option.some 33, op := Go.Op.unOp Go.UnOp.not 4 (Go.Operand.tmp 32), type := 4, pos := "law.go:84", after := #[{ on := 12, ground := Go.Ground.data }, { on := 11, ground := Go.Ground.guard }], guard := Option.some (11, Bool.true) })) (v := ?_) rfl (by kernel_rfl) (by kernel_rfl) (by kernel_rfl) (fun _ _ _ h => h) (Or.inl ⟨by rfl, ?_⟩) (by assumption) ?_
    rotate_left
    · first | exact fun _ _ => rfl | (intro w hSw; (try dsimp only at hSw); go_simp; try with_reducible rfl)
    try simp only [Act.put, List.setIfInBounds_toArray, List.set_cons_zero, List.set_cons_succ]
    refine wpAnyH_take (i := 14) (oi := ({ dst := Option.some 34, op := Go.Op.move (Go.Operand.tmp 33), type := 4, pos := "law.go:84", after := #[{ on := 13, ground := Go.Ground.data }, { on := 11, ground := Go.Ground.chain }, { on := 11, ground := Go.Ground.guard }], guard := Option.some (11, Bool.true) })) (v := ?_) rfl (by kernel_rfl) (by kernel_rfl) (by kernel_rfl) (fun _ _ _ h => h) (Or.inl ⟨by rfl, ?_⟩) (by assumption) ?_
    rotate_left
    · first | exact fun _ _ => rfl | (intro w hSw; (try dsimp only at hSw); go_simp; try with_reducible rfl)
    try simp only [Act.put, List.setIfInBounds_toArray, List.set_cons_zero, List.set_cons_succ]
    refine wpAnyH_take (i := 15) (oi := ({ dst := Option.some 35, op := Go.Op.move (Go.Operand.tmp 7), type := 3, pos := "law.go:84", after := #[{ on := 14, ground := Go.Ground.guard }], guard := Option.some (14, Bool.false) })) (v := undef) rfl (by kernel_rfl) (by kernel_rfl) (by kernel_rfl) (fun _ _ _ h => h) (Or.inr ⟨by rfl, rfl⟩) (by assumption) ?_
    try simp only [Act.put, List.setIfInBounds_toArray, List.set_cons_zero, List.set_cons_succ]
    refine wpAnyH_take (i := 16) (oi := ({ dst := Option.some 36, op := Go.Op.fieldAddr 106 (Go.Operand.tmp 6) 1, type := 0, pos := "law.go:84", after := #[{ on := 14, ground := Go.Ground.guard }], guard := Option.some (14, Bool.false) })) (v := undef) rfl (by kernel_rfl) (by kernel_rfl) (by kernel_rfl) (fun _ _ _ h => h) (Or.inr ⟨by rfl, rfl⟩) (by assumption) ?_
    try simp only [Act.put, List.setIfInBounds_toArray, List.set_cons_zero, List.set_cons_succ]
    refine wpAnyH_take (i := 17) (oi := ({ dst := Option.some 37, op := Go.Op.load 3 (Go.Operand.tmp 36), type := 3, pos := "law.go:84", after := #[{ on := 16, ground := Go.Ground.data }, { on := 14, ground := Go.Ground.guard }], guard := Option.some (14, Bool.false) })) (v := undef) rfl (by kernel_rfl) (by kernel_rfl) (by kernel_rfl) (fun _ _ _ h => h) (Or.inr ⟨by rfl, rfl⟩) (by assumption) ?_
    try simp only [Act.put, List.setIfInBounds_toArray, List.set_cons_zero, List.set_cons_succ]
    refine wpAnyH_take (i := 18) (oi := ({ dst := Option.some 38, op := Go.Op.binOp Go.BinOp.eql 3 (Go.Operand.tmp 35) (Go.Operand.tmp 37) 3, type := 4, pos := "law.go:84", after := #[{ on := 15, ground := Go.Ground.data }, { on := 17, ground := Go.Ground.data }, { on := 14, ground := Go.Ground.guard }], guard := Option.some (14, Bool.false) })) (v := undef) rfl (by kernel_rfl) (by kernel_rfl) (by kernel_rfl) (fun _ _ _ h => h) (Or.inr ⟨by rfl, rfl⟩) (by assumption) ?_
    try simp only [Act.put, List.setIfInBounds_toArray, List.set_cons_zero, List.set_cons_succ]
    refine wpAnyH_take (i := 19) (oi := ({ dst := Option.some 39, op := Go.Op.pick (Go.Operand.tmp 34) (Go.Operand.const (Go.Value.bool Bool.true)) (Go.Operand.tmp 38), type := 4, pos := "law.go:84", after := #[{ on := 14, ground := Go.Ground.data }, { on := 18, ground := Go.Ground.data }, { on := 11, ground := Go.Ground.guard }], guard := Option.some (11, Bool.true) })) (v := ?_) rfl (by kernel_rfl) (by kernel_rfl) (by kernel_rfl) (fun _ _ _ h => h) (Or.inl ⟨by rfl, ?_⟩) (by assumption) ?_
    rotate_left
    · first | exact fun _ _ => rfl | (intro w hSw; (try dsimp only at hSw); go_simp; try with_reducible rfl)
    try simp only [Act.put, List.setIfInBounds_toArray, List.set_cons_zero, List.set_cons_succ]
    refine wpAnyH_take (i := 20) (oi := ({ dst := Option.some 40, op := Go.Op.pick (Go.Operand.tmp 31) (Go.Operand.tmp 39) (Go.Operand.const (Go.Value.bool Bool.false)), type := 4, pos := "law.go:84", after := #[{ on := 11, ground := Go.Ground.data }, { on := 19, ground := Go.Ground.data }], guard := Option.none })) (v := ?_) rfl (by kernel_rfl) (by kernel_rfl) (by kernel_rfl) (fun _ _ _ h => h) (Or.inl ⟨by rfl, ?_⟩) (by assumption) ?_
    rotate_left
    · first | exact fun _ _ => rfl | (intro w hSw; (try dsimp only at hSw); go_simp; try with_reducible rfl)
    try simp only [Act.put, List.setIfInBounds_toArray, List.set_cons_zero, List.set_cons_succ]
    refine wpAnyH_take (i := 21) (oi := ({ dst := Option.some 41, op := Go.Op.move (Go.Operand.tmp 40), type := 4, pos := "law.go:84", after := #[{ on := 20, ground := Go.Ground.data }, { on := 14, ground := Go.Ground.chain }], guard := Option.none })) (v := ?_) rfl (by kernel_rfl) (by kernel_rfl) (by kernel_rfl) (fun _ _ _ h => h) (Or.inl ⟨by rfl, ?_⟩) (by assumption) ?_
    rotate_left
    · first | exact fun _ _ => rfl | (intro w hSw; (try dsimp only at hSw); go_simp; try with_reducible rfl)
    try simp only [Act.put, List.setIfInBounds_toArray, List.set_cons_zero, List.set_cons_succ]
    refine wpAnyH_take (i := 22) (oi := ({ dst := Option.some 42, op := Go.Op.move (Go.Operand.tmp 0), type := 32, pos := "law.go:84", after := #[{ on := 21, ground := Go.Ground.guard }], guard := Option.some (21, Bool.true) })) (v := ?_) rfl (by kernel_rfl) (by kernel_rfl) (by kernel_rfl) (fun _ _ _ h => h) (Or.inl ⟨by rfl, ?_⟩) (by assumption) ?_
    rotate_left
    · first | exact fun _ _ => rfl | (intro w hSw; (try dsimp only at hSw); go_simp; try with_reducible rfl)
    try simp only [Act.put, List.setIfInBounds_toArray, List.set_cons_zero, List.set_cons_succ]
    refine wpAnyH_take (i := 23) (oi := ({ dst := Option.some 43, op := Go.Op.move (Go.Operand.tmp 1), type := 22, pos := "law.go:84", after := #[{ on := 21, ground := Go.Ground.guard }], guard := Option.some (21, Bool.true) })) (v := ?_) rfl (by kernel_rfl) (by kernel_rfl) (by kernel_rfl) (fun _ _ _ h => h) (Or.inl ⟨by rfl, ?_⟩) (by assumption) ?_
    rotate_left
    · first | exact fun _ _ => rfl | (intro w hSw; (try dsimp only at hSw); go_simp; try with_reducible rfl)
    try simp only [Act.put, List.setIfInBounds_toArray, List.set_cons_zero, List.set_cons_succ]
    refine wpAnyH_take (i := 25) (oi := ({ dst := Option.some 45, op := Go.Op.fieldAddr 106 (Go.Operand.tmp 6) 3, type := 0, pos := "law.go:84", after := #[{ on := 21, ground := Go.Ground.guard }], guard := Option.some (21, Bool.true) })) (v := ?_) rfl (by kernel_rfl) (by kernel_rfl) (by kernel_rfl) (fun _ _ _ h => h) (Or.inl ⟨by rfl, ?_⟩) (by assumption) ?_
    rotate_left
    · first | exact fun _ _ => rfl | (intro w hSw; (try dsimp only at hSw); go_simp; try with_reducible rfl)
    try simp only [Act.put, List.setIfInBounds_toArray, List.set_cons_zero, List.set_cons_succ]
    refine wpAnyH_take (i := 26) (oi := ({ dst := Option.some 46, op := Go.Op.load 3 (Go.Operand.tmp 45), type := 3, pos := "law.go:84", after := #[{ on := 25, ground := Go.Ground.data }, { on := 21, ground := Go.Ground.guard }], guard := Option.some (21, Bool.true) })) (v := ?_) rfl (by kernel_rfl) (by kernel_rfl) (by kernel_rfl) (fun _ _ _ h => h) (Or.inl ⟨by rfl, ?_⟩) (by assumption) ?_
    rotate_left
    · first | exact fun _ _ => rfl | (intro w hSw; (try dsimp only at hSw); go_simp; try with_reducible rfl)
    try simp only [Act.put, List.setIfInBounds_toArray, List.set_cons_zero, List.set_cons_succ]
    refine wpAnyH_ready (rs := [24]) (by kernel_rfl) (by simp) ?_
    refine AllReadyH.cons (o := ({ dst := Option.some 44, op := Go.Op.call { callee := Go.Callee.value (Go.Operand.func 40), args := #[Go.Operand.tmp 42, Go.Operand.tmp 43], argTypes := #[32, 22] }, type := 3, pos := "law.go:84", after := #[{ on := 22, ground := Go.Ground.data }, { on := 23, ground := Go.Ground.data }, { on := 21, ground := Go.Ground.chain }, { on := 21, ground := Go.Ground.guard }], guard := Option.some (21, Bool.true) })) rfl (fun Kc hKc => ?_) AllReadyH.nil
    go_simp
    (go_at_call 40; (with_reducible refine (T8W.call (fun W _ hB => HV.out W hB) (by assumption)).mono ?_); rintro e w5 ⟨rfl, K2⟩)
    try go_wp2_with fail
    refine hKc.out _ _ (T8W.all (by assumption)) (fun hHeld => ?_)
    clear hKc Kc
    try simp only [Act.put, List.setIfInBounds_toArray, List.set_cons_zero, List.set_cons_succ]
    refine wpAnyH_take (i := 27) (oi := ({ dst := Option.some 47, op := Go.Op.binOp Go.BinOp.eql 3 (Go.Operand.tmp 44) (Go.Operand.tmp 46) 3, type := 4, pos := "law.go:84", after := #[{ on := 24, ground := Go.Ground.data }, { on := 26, ground := Go.Ground.data }, { on := 21, ground := Go.Ground.guard }], guard := Option.some (21, Bool.true) })) (v := ?_) rfl (by kernel_rfl) (by kernel_rfl) (by kernel_rfl) (fun _ _ _ h => h) (Or.inl ⟨by rfl, ?_⟩) (by assumption) ?_
    rotate_left
    · first | exact fun _ _ => rfl | (intro w hSw; (try dsimp only at hSw); go_simp; try with_reducible rfl)
    try simp only [Act.put, List.setIfInBounds_toArray, List.set_cons_zero, List.set_cons_succ]
    refine wpAnyH_take (i := 28) (oi := ({ dst := Option.some 48, op := Go.Op.pick (Go.Operand.tmp 41) (Go.Operand.tmp 47) (Go.Operand.const (Go.Value.bool Bool.false)), type := 4, pos := "law.go:84", after := #[{ on := 21, ground := Go.Ground.data }, { on := 27, ground := Go.Ground.data }], guard := Option.none })) (v := ?_) rfl (by kernel_rfl) (by kernel_rfl) (by kernel_rfl) (fun _ _ _ h => h) (Or.inl ⟨by rfl, ?_⟩) (by assumption) ?_
    rotate_left
    · first | exact fun _ _ => rfl | (intro w hSw; (try dsimp only at hSw); go_simp; try with_reducible rfl)
    try simp only [Act.put, List.setIfInBounds_toArray, List.set_cons_zero, List.set_cons_succ]
    refine wpAnyH_take (i := 29) (oi := ({ dst := Option.some 4, op := Go.Op.assign (Go.Operand.tmp 48), type := 4, pos := "law.go:84", after := #[{ on := 28, ground := Go.Ground.data }, { on := 24, ground := Go.Ground.chain }, { on := 0, ground := Go.Ground.phase }, { on := 1, ground := Go.Ground.phase }, { on := 2, ground := Go.Ground.phase }, { on := 3, ground := Go.Ground.phase }, { on := 4, ground := Go.Ground.phase }, { on := 5, ground := Go.Ground.phase }, { on := 6, ground := Go.Ground.phase }, { on := 7, ground := Go.Ground.phase }, { on := 8, ground := Go.Ground.phase }, { on := 9, ground := Go.Ground.phase }, { on := 10, ground := Go.Ground.phase }, { on := 11, ground := Go.Ground.phase }, { on := 12, ground := Go.Ground.phase }, { on := 13, ground := Go.Ground.phase }, { on := 14, ground := Go.Ground.phase }, { on := 15, ground := Go.Ground.phase }, { on := 16, ground := Go.Ground.phase }, { on := 17, ground := Go.Ground.phase }, { on := 18, ground := Go.Ground.phase }, { on := 19, ground := Go.Ground.phase }, { on := 20, ground := Go.Ground.phase }, { on := 21, ground := Go.Ground.phase }, { on := 22, ground := Go.Ground.phase }, { on := 23, ground := Go.Ground.phase }, { on := 24, ground := Go.Ground.phase }, { on := 25, ground := Go.Ground.phase }, { on := 26, ground := Go.Ground.phase }, { on := 27, ground := Go.Ground.phase }, { on := 28, ground := Go.Ground.phase }], guard := Option.none })) (v := ?_) rfl (by kernel_rfl) (by kernel_rfl) (by kernel_rfl) (fun _ _ _ h => h) (Or.inl ⟨by rfl, ?_⟩) (by assumption) ?_
    rotate_left
    · first | exact fun _ _ => rfl | (intro w hSw; (try dsimp only at hSw); go_simp; try with_reducible rfl)
    try simp only [Act.put, List.setIfInBounds_toArray, List.set_cons_zero, List.set_cons_succ]
    refine wpAnyH_done (by kernel_rfl) ?_ _
    all_goals
      go_wp2
      go_ret
      exact ⟨by first | rfl | simp, K2.out.be⟩
  · cases e1; cases e2
    have k0' : ¬ (k0 : Int) = 0 := by omega
    go_enter Tryd.func13, Tryd.ntmps13
    go_wp2_with fail
    refine HC.out.mono ?_
    rintro e w1 ⟨rfl, hb⟩
    rw [enc_code1 (k0 : Int) k0']
    have HB1 := Lib.hid hb
    clear hb
    go_wp2_with fail
    refine (HD.out _ HB1.out).mono ?_
    rintro e w2 ⟨rfl, hb⟩
    have HB2 := Lib.hid (Below.step HB1.out hb HB1.out.size)
    clear hb
    unfold lookDV
    go_wp2_with fail
    refine (word_one (k0 : Int) k0' _).mono ?_
    rintro e w3 ⟨rfl, hb⟩
    have K0 := Lib.hid (show T8W w w2.heap.size (.int .i64 (k0 : Nat)) (.int .i64 ((0 : Nat) : Int)) (.bool false) (.int .i64 ((0 : Nat) : Int)) w3 from ⟨(HE.out.below HB2.out).below ((Below.refl _ _).alloc (Nat.le_refl _) _) |>.below hb, (World.rowIs_alloc w2 #[.int .i64 (k0 : Nat), .int .i64 ((0 : Nat) : Int), .bool false, .int .i64 ((0 : Nat) : Int)] 106 _ four_at).of_block (hb.block _ (by simp)), Below.step (B := w.heap.size) (HB2.out.alloc HB2.out.size (.cells #[.int .i64 (k0 : Nat), .int .i64 ((0 : Nat) : Int), .bool false, .int .i64 ((0 : Nat) : Int)] 106)) hb (by have := HB2.out.size; simp; omega)⟩)
    have KD := Lib.hid K0.out.drew
    clear hb
    go_wp2_with fail
    clear K0
    refine wp_region_held_drew (S := (fun w' => w'.cell? ⟨w2.heap.size, 0, none⟩ = some (.int .i64 (k0 : Nat)) ∧ w'.cell? ⟨w2.heap.size, 1, none⟩ = some (.int .i64 ((0 : Nat) : Int)) ∧ w'.cell? ⟨w2.heap.size, 2, none⟩ = some (.bool false) ∧ w'.cell? ⟨w2.heap.size, 3, none⟩ = some (.int .i64 ((0 : Nat) : Int)) ∧ Hid (T8W w w2.heap.size (.int .i64 (k0 : Nat)) (.int .i64 ((0 : Nat) : Int)) (.bool false) (.int .i64 ((0 : Nat) : Int)) w'))) (by kernel_rfl) (T8W.all KD) (fun hHeld => ?_)
    refine wpAnyH_take (i := 0) (oi := ({ dst := Option.some 20, op := Go.Op.move (Go.Operand.tmp 5), type := 52, pos := "law.go:84", after := #[], guard := Option.none })) (v := ?_) rfl (by kernel_rfl) (by kernel_rfl) (by kernel_rfl) (fun _ _ _ h => h) (Or.inl ⟨by rfl, ?_⟩) (by assumption) ?_
    rotate_left
    · first | exact fun _ _ => rfl | (intro w hSw; (try dsimp only at hSw); go_simp; try with_reducible rfl)
    try simp only [Act.put, List.setIfInBounds_toArray, List.set_cons_zero, List.set_cons_succ]
    refine wpAnyH_take (i := 2) (oi := ({ dst := Option.some 22, op := Go.Op.fieldAddr 106 (Go.Operand.tmp 6) 0, type := 0, pos := "law.go:84", after := #[], guard := Option.none })) (v := ?_) rfl (by kernel_rfl) (by kernel_rfl) (by kernel_rfl) (fun _ _ _ h => h) (Or.inl ⟨by rfl, ?_⟩) (by assumption) ?_
    rotate_left
    · first | exact fun _ _ => rfl | (intro w hSw; (try dsimp only at hSw); go_simp; try with_reducible rfl)
    try simp only [Act.put, List.setIfInBounds_toArray, List.set_cons_zero, List.set_cons_succ]
    refine wpAnyH_take (i := 3) (oi := ({ dst := Option.some 23, op := Go.Op.load 55 (Go.Operand.tmp 22), type := 55, pos := "law.go:84", after := #[{ on := 2, ground := Go.Ground.data }], guard := Option.none })) (v := ?_) rfl (by kernel_rfl) (by kernel_rfl) (by kernel_rfl) (fun _ _ _ h => h) (Or.inl ⟨by rfl, ?_⟩) (by assumption) ?_
    rotate_left
    · first | exact fun _ _ => rfl | (intro w hSw; (try dsimp only at hSw); go_simp; try with_reducible rfl)
    try simp only [Act.put, List.setIfInBounds_toArray, List.set_cons_zero, List.set_cons_succ]
    refine wpAnyH_ready (rs := [1]) (by kernel_rfl) (by simp) ?_
    refine AllReadyH.cons (o := ({ dst := Option.some 21, op := Go.Op.call { callee := Go.Callee.value (Go.Operand.func 21), args := #[Go.Operand.tmp 20], argTypes := #[52] }, type := 55, pos := "law.go:84", after := #[{ on := 0, ground := Go.Ground.data }], guard := Option.none })) rfl (fun Kc hKc => ?_) AllReadyH.nil
    go_simp
    (go_at_call 21; (with_reducible refine (T8W.call (fun W hE _ => top_one (k0 : Int) k0' W hE) (by assumption)).mono ?_); rintro e w5 ⟨rfl, K2⟩; clear KD)
    try go_wp2_with fail
    refine hKc.out _ _ (T8W.all (by assumption)) (fun hHeld => ?_)
    clear hKc Kc
    try simp only [Act.put, List.setIfInBounds_toArray, List.set_cons_zero, List.set_cons_succ]
    refine wpAnyH_take (i := 4) (oi := ({ dst := Option.some 24, op := Go.Op.binOp Go.BinOp.eql 55 (Go.Operand.tmp 21) (Go.Operand.tmp 23) 55, type := 4, pos := "law.go:84", after := #[{ on := 1, ground := Go.Ground.data }, { on := 3, ground := Go.Ground.data }], guard := Option.none })) (v := ?_) rfl (by kernel_rfl) (by kernel_rfl) (by kernel_rfl) (fun _ _ _ h => h) (Or.inl ⟨by rfl, ?_⟩) (by assumption) ?_
    rotate_left
    · first | exact fun _ _ => rfl | (intro w hSw; (try dsimp only at hSw); go_simp; try with_reducible rfl)
    try simp only [Act.put, List.setIfInBounds_toArray, List.set_cons_zero, List.set_cons_succ]
    refine wpAnyH_take (i := 5) (oi := ({ dst := Option.some 25, op := Go.Op.move (Go.Operand.tmp 24), type := 4, pos := "law.go:84", after := #[{ on := 4, ground := Go.Ground.data }, { on := 1, ground := Go.Ground.chain }], guard := Option.none })) (v := ?_) rfl (by kernel_rfl) (by kernel_rfl) (by kernel_rfl) (fun _ _ _ h => h) (Or.inl ⟨by rfl, ?_⟩) (by assumption) ?_
    rotate_left
    · first | exact fun _ _ => rfl | (intro w hSw; (try dsimp only at hSw); go_simp; try with_reducible rfl)
    try simp only [Act.put, List.setIfInBounds_toArray, List.set_cons_zero, List.set_cons_succ]
    refine wpAnyH_take (i := 6) (oi := ({ dst := Option.some 26, op := Go.Op.move (Go.Operand.tmp 8), type := 4, pos := "law.go:84", after := #[{ on := 5, ground := Go.Ground.guard }], guard := Option.some (5, Bool.true) })) (v := ?_) rfl (by kernel_rfl) (by kernel_rfl) (by kernel_rfl) (fun _ _ _ h => h) (Or.inl ⟨by rfl, ?_⟩) (by assumption) ?_
    rotate_left
    · first | exact fun _ _ => rfl | (intro w hSw; (try dsimp only at hSw); go_simp; try with_reducible rfl)
    try simp only [Act.put, List.setIfInBounds_toArray, List.set_cons_zero, List.set_cons_succ]
    refine wpAnyH_take (i := 7) (oi := ({ dst := Option.some 27, op := Go.Op.fieldAddr 106 (Go.Operand.tmp 6) 2, type := 0, pos := "law.go:84", after := #[{ on := 5, ground := Go.Ground.guard }], guard := Option.some (5, Bool.true) })) (v := ?_) rfl (by kernel_rfl) (by kernel_rfl) (by kernel_rfl) (fun _ _ _ h => h) (Or.inl ⟨by rfl, ?_⟩) (by assumption) ?_
    rotate_left
    · first | exact fun _ _ => rfl | (intro w hSw; (try dsimp only at hSw); go_simp; try with_reducible rfl)
    try simp only [Act.put, List.setIfInBounds_toArray, List.set_cons_zero, List.set_cons_succ]
    refine wpAnyH_take (i := 8) (oi := ({ dst := Option.some 28, op := Go.Op.load 4 (Go.Operand.tmp 27), type := 4, pos := "law.go:84", after := #[{ on := 7, ground := Go.Ground.data }, { on := 5, ground := Go.Ground.guard }], guard := Option.some (5, Bool.true) })) (v := ?_) rfl (by kernel_rfl) (by kernel_rfl) (by kernel_rfl) (fun _ _ _ h => h) (Or.inl ⟨by rfl, ?_⟩) (by assumption) ?_
    rotate_left
    · first | exact fun _ _ => rfl | (intro w hSw; (try dsimp only at hSw); go_simp; try with_reducible rfl)
    try simp only [Act.put, List.setIfInBounds_toArray, List.set_cons_zero, List.set_cons_succ]
    refine wpAnyH_take (i := 9) (oi := ({ dst := Option.some 29, op := Go.Op.binOp Go.BinOp.eql 4 (Go.Operand.tmp 26) (Go.Operand.tmp 28) 4, type := 4, pos := "law.go:84", after := #[{ on := 6, ground := Go.Ground.data }, { on := 8, ground := Go.Ground.data }, { on := 5, ground := Go.Ground.guard }], guard := Option.some (5, Bool.true) })) (v := ?_) rfl (by kernel_rfl) (by kernel_rfl) (by kernel_rfl) (fun _ _ _ h => h) (Or.inl ⟨by rfl, ?_⟩) (by assumption) ?_
    rotate_left
    · first | exact fun _ _ => rfl | (intro w hSw; (try dsimp only at hSw); go_simp; try with_reducible rfl)
    try simp only [Act.put, List.setIfInBounds_toArray, List.set_cons_zero, List.set_cons_succ]
    refine wpAnyH_take (i := 10) (oi := ({ dst := Option.some 30, op := Go.Op.pick (Go.Operand.tmp 25) (Go.Operand.tmp 29) (Go.Operand.const (Go.Value.bool Bool.false)), type := 4, pos := "law.go:84", after := #[{ on := 5, ground := Go.Ground.data }, { on := 9, ground := Go.Ground.data }], guard := Option.none })) (v := ?_) rfl (by kernel_rfl) (by kernel_rfl) (by kernel_rfl) (fun _ _ _ h => h) (Or.inl ⟨by rfl, ?_⟩) (by assumption) ?_
    rotate_left
    · first | exact fun _ _ => rfl | (intro w hSw; (try dsimp only at hSw); go_simp; try with_reducible rfl)
    try simp only [Act.put, List.setIfInBounds_toArray, List.set_cons_zero, List.set_cons_succ]
    refine wpAnyH_take (i := 11) (oi := ({ dst := Option.some 31, op := Go.Op.move (Go.Operand.tmp 30), type := 4, pos := "law.go:84", after := #[{ on := 10, ground := Go.Ground.data }, { on := 5, ground := Go.Ground.chain }], guard := Option.none })) (v := ?_) rfl (by kernel_rfl) (by kernel_rfl) (by kernel_rfl) (fun _ _ _ h => h) (Or.inl ⟨by rfl, ?_⟩) (by assumption) ?_
    rotate_left
    · first | exact fun _ _ => rfl | (intro w hSw; (try dsimp only at hSw); go_simp; try with_reducible rfl)
    try simp only [Act.put, List.setIfInBounds_toArray, List.set_cons_zero, List.set_cons_succ]
    refine wpAnyH_take (i := 12) (oi := ({ dst := Option.some 32, op := Go.Op.move (Go.Operand.tmp 8), type := 4, pos := "law.go:84", after := #[{ on := 11, ground := Go.Ground.guard }], guard := Option.some (11, Bool.true) })) (v := ?_) rfl (by kernel_rfl) (by kernel_rfl) (by kernel_rfl) (fun _ _ _ h => h) (Or.inl ⟨by rfl, ?_⟩) (by assumption) ?_
    rotate_left
    · first | exact fun _ _ => rfl | (intro w hSw; (try dsimp only at hSw); go_simp; try with_reducible rfl)
    try simp only [Act.put, List.setIfInBounds_toArray, List.set_cons_zero, List.set_cons_succ]
    refine wpAnyH_take (i := 13) (oi := ({ dst := Option.some 33, op := Go.Op.unOp Go.UnOp.not 4 (Go.Operand.tmp 32), type := 4, pos := "law.go:84", after := #[{ on := 12, ground := Go.Ground.data }, { on := 11, ground := Go.Ground.guard }], guard := Option.some (11, Bool.true) })) (v := ?_) rfl (by kernel_rfl) (by kernel_rfl) (by kernel_rfl) (fun _ _ _ h => h) (Or.inl ⟨by rfl, ?_⟩) (by assumption) ?_
    rotate_left
    · first | exact fun _ _ => rfl | (intro w hSw; (try dsimp only at hSw); go_simp; try with_reducible rfl)
    try simp only [Act.put, List.setIfInBounds_toArray, List.set_cons_zero, List.set_cons_succ]
    refine wpAnyH_take (i := 14) (oi := ({ dst := Option.some 34, op := Go.Op.move (Go.Operand.tmp 33), type := 4, pos := "law.go:84", after := #[{ on := 13, ground := Go.Ground.data }, { on := 11, ground := Go.Ground.chain }, { on := 11, ground := Go.Ground.guard }], guard := Option.some (11, Bool.true) })) (v := ?_) rfl (by kernel_rfl) (by kernel_rfl) (by kernel_rfl) (fun _ _ _ h => h) (Or.inl ⟨by rfl, ?_⟩) (by assumption) ?_
    rotate_left
    · first | exact fun _ _ => rfl | (intro w hSw; (try dsimp only at hSw); go_simp; try with_reducible rfl)
    try simp only [Act.put, List.setIfInBounds_toArray, List.set_cons_zero, List.set_cons_succ]
    refine wpAnyH_take (i := 15) (oi := ({ dst := Option.some 35, op := Go.Op.move (Go.Operand.tmp 7), type := 3, pos := "law.go:84", after := #[{ on := 14, ground := Go.Ground.guard }], guard := Option.some (14, Bool.false) })) (v := undef) rfl (by kernel_rfl) (by kernel_rfl) (by kernel_rfl) (fun _ _ _ h => h) (Or.inr ⟨by rfl, rfl⟩) (by assumption) ?_
    try simp only [Act.put, List.setIfInBounds_toArray, List.set_cons_zero, List.set_cons_succ]
    refine wpAnyH_take (i := 16) (oi := ({ dst := Option.some 36, op := Go.Op.fieldAddr 106 (Go.Operand.tmp 6) 1, type := 0, pos := "law.go:84", after := #[{ on := 14, ground := Go.Ground.guard }], guard := Option.some (14, Bool.false) })) (v := undef) rfl (by kernel_rfl) (by kernel_rfl) (by kernel_rfl) (fun _ _ _ h => h) (Or.inr ⟨by rfl, rfl⟩) (by assumption) ?_
    try simp only [Act.put, List.setIfInBounds_toArray, List.set_cons_zero, List.set_cons_succ]
    refine wpAnyH_take (i := 17) (oi := ({ dst := Option.some 37, op := Go.Op.load 3 (Go.Operand.tmp 36), type := 3, pos := "law.go:84", after := #[{ on := 16, ground := Go.Ground.data }, { on := 14, ground := Go.Ground.guard }], guard := Option.some (14, Bool.false) })) (v := undef) rfl (by kernel_rfl) (by kernel_rfl) (by kernel_rfl) (fun _ _ _ h => h) (Or.inr ⟨by rfl, rfl⟩) (by assumption) ?_
    try simp only [Act.put, List.setIfInBounds_toArray, List.set_cons_zero, List.set_cons_succ]
    refine wpAnyH_take (i := 18) (oi := ({ dst := Option.some 38, op := Go.Op.binOp Go.BinOp.eql 3 (Go.Operand.tmp 35) (Go.Operand.tmp 37) 3, type := 4, pos := "law.go:84", after := #[{ on := 15, ground := Go.Ground.data }, { on := 17, ground := Go.Ground.data }, { on := 14, ground := Go.Ground.guard }], guard := Option.some (14, Bool.false) })) (v := undef) rfl (by kernel_rfl) (by kernel_rfl) (by kernel_rfl) (fun _ _ _ h => h) (Or.inr ⟨by rfl, rfl⟩) (by assumption) ?_
    try simp only [Act.put, List.setIfInBounds_toArray, List.set_cons_zero, List.set_cons_succ]
    refine wpAnyH_take (i := 19) (oi := ({ dst := Option.some 39, op := Go.Op.pick (Go.Operand.tmp 34) (Go.Operand.const (Go.Value.bool Bool.true)) (Go.Operand.tmp 38), type := 4, pos := "law.go:84", after := #[{ on := 14, ground := Go.Ground.data }, { on := 18, ground := Go.Ground.data }, { on := 11, ground := Go.Ground.guard }], guard := Option.some (11, Bool.true) })) (v := ?_) rfl (by kernel_rfl) (by kernel_rfl) (by kernel_rfl) (fun _ _ _ h => h) (Or.inl ⟨by rfl, ?_⟩) (by assumption) ?_
    rotate_left
    · first | exact fun _ _ => rfl | (intro w hSw; (try dsimp only at hSw); go_simp; try with_reducible rfl)
    try simp only [Act.put, List.setIfInBounds_toArray, List.set_cons_zero, List.set_cons_succ]
    refine wpAnyH_take (i := 20) (oi := ({ dst := Option.some 40, op := Go.Op.pick (Go.Operand.tmp 31) (Go.Operand.tmp 39) (Go.Operand.const (Go.Value.bool Bool.false)), type := 4, pos := "law.go:84", after := #[{ on := 11, ground := Go.Ground.data }, { on := 19, ground := Go.Ground.data }], guard := Option.none })) (v := ?_) rfl (by kernel_rfl) (by kernel_rfl) (by kernel_rfl) (fun _ _ _ h => h) (Or.inl ⟨by rfl, ?_⟩) (by assumption) ?_
    rotate_left
    · first | exact fun _ _ => rfl | (intro w hSw; (try dsimp only at hSw); go_simp; try with_reducible rfl)
    try simp only [Act.put, List.setIfInBounds_toArray, List.set_cons_zero, List.set_cons_succ]
    refine wpAnyH_take (i := 21) (oi := ({ dst := Option.some 41, op := Go.Op.move (Go.Operand.tmp 40), type := 4, pos := "law.go:84", after := #[{ on := 20, ground := Go.Ground.data }, { on := 14, ground := Go.Ground.chain }], guard := Option.none })) (v := ?_) rfl (by kernel_rfl) (by kernel_rfl) (by kernel_rfl) (fun _ _ _ h => h) (Or.inl ⟨by rfl, ?_⟩) (by assumption) ?_
    rotate_left
    · first | exact fun _ _ => rfl | (intro w hSw; (try dsimp only at hSw); go_simp; try with_reducible rfl)
    try simp only [Act.put, List.setIfInBounds_toArray, List.set_cons_zero, List.set_cons_succ]
    refine wpAnyH_take (i := 22) (oi := ({ dst := Option.some 42, op := Go.Op.move (Go.Operand.tmp 0), type := 32, pos := "law.go:84", after := #[{ on := 21, ground := Go.Ground.guard }], guard := Option.some (21, Bool.true) })) (v := ?_) rfl (by kernel_rfl) (by kernel_rfl) (by kernel_rfl) (fun _ _ _ h => h) (Or.inl ⟨by rfl, ?_⟩) (by assumption) ?_
    rotate_left
    · first | exact fun _ _ => rfl | (intro w hSw; (try dsimp only at hSw); go_simp; try with_reducible rfl)
    try simp only [Act.put, List.setIfInBounds_toArray, List.set_cons_zero, List.set_cons_succ]
    refine wpAnyH_take (i := 23) (oi := ({ dst := Option.some 43, op := Go.Op.move (Go.Operand.tmp 1), type := 22, pos := "law.go:84", after := #[{ on := 21, ground := Go.Ground.guard }], guard := Option.some (21, Bool.true) })) (v := ?_) rfl (by kernel_rfl) (by kernel_rfl) (by kernel_rfl) (fun _ _ _ h => h) (Or.inl ⟨by rfl, ?_⟩) (by assumption) ?_
    rotate_left
    · first | exact fun _ _ => rfl | (intro w hSw; (try dsimp only at hSw); go_simp; try with_reducible rfl)
    try simp only [Act.put, List.setIfInBounds_toArray, List.set_cons_zero, List.set_cons_succ]
    refine wpAnyH_take (i := 25) (oi := ({ dst := Option.some 45, op := Go.Op.fieldAddr 106 (Go.Operand.tmp 6) 3, type := 0, pos := "law.go:84", after := #[{ on := 21, ground := Go.Ground.guard }], guard := Option.some (21, Bool.true) })) (v := ?_) rfl (by kernel_rfl) (by kernel_rfl) (by kernel_rfl) (fun _ _ _ h => h) (Or.inl ⟨by rfl, ?_⟩) (by assumption) ?_
    rotate_left
    · first | exact fun _ _ => rfl | (intro w hSw; (try dsimp only at hSw); go_simp; try with_reducible rfl)
    try simp only [Act.put, List.setIfInBounds_toArray, List.set_cons_zero, List.set_cons_succ]
    refine wpAnyH_take (i := 26) (oi := ({ dst := Option.some 46, op := Go.Op.load 3 (Go.Operand.tmp 45), type := 3, pos := "law.go:84", after := #[{ on := 25, ground := Go.Ground.data }, { on := 21, ground := Go.Ground.guard }], guard := Option.some (21, Bool.true) })) (v := ?_) rfl (by kernel_rfl) (by kernel_rfl) (by kernel_rfl) (fun _ _ _ h => h) (Or.inl ⟨by rfl, ?_⟩) (by assumption) ?_
    rotate_left
    · first | exact fun _ _ => rfl | (intro w hSw; (try dsimp only at hSw); go_simp; try with_reducible rfl)
    try simp only [Act.put, List.setIfInBounds_toArray, List.set_cons_zero, List.set_cons_succ]
    refine wpAnyH_ready (rs := [24]) (by kernel_rfl) (by simp) ?_
    refine AllReadyH.cons (o := ({ dst := Option.some 44, op := Go.Op.call { callee := Go.Callee.value (Go.Operand.func 40), args := #[Go.Operand.tmp 42, Go.Operand.tmp 43], argTypes := #[32, 22] }, type := 3, pos := "law.go:84", after := #[{ on := 22, ground := Go.Ground.data }, { on := 23, ground := Go.Ground.data }, { on := 21, ground := Go.Ground.chain }, { on := 21, ground := Go.Ground.guard }], guard := Option.some (21, Bool.true) })) rfl (fun Kc hKc => ?_) AllReadyH.nil
    go_simp
    (go_at_call 40; (with_reducible refine (T8W.call (fun W _ hB => HV.out W hB) (by assumption)).mono ?_); rintro e w5 ⟨rfl, K2⟩)
    try go_wp2_with fail
    refine hKc.out _ _ (T8W.all (by assumption)) (fun hHeld => ?_)
    clear hKc Kc
    try simp only [Act.put, List.setIfInBounds_toArray, List.set_cons_zero, List.set_cons_succ]
    refine wpAnyH_take (i := 27) (oi := ({ dst := Option.some 47, op := Go.Op.binOp Go.BinOp.eql 3 (Go.Operand.tmp 44) (Go.Operand.tmp 46) 3, type := 4, pos := "law.go:84", after := #[{ on := 24, ground := Go.Ground.data }, { on := 26, ground := Go.Ground.data }, { on := 21, ground := Go.Ground.guard }], guard := Option.some (21, Bool.true) })) (v := ?_) rfl (by kernel_rfl) (by kernel_rfl) (by kernel_rfl) (fun _ _ _ h => h) (Or.inl ⟨by rfl, ?_⟩) (by assumption) ?_
    rotate_left
    · first | exact fun _ _ => rfl | (intro w hSw; (try dsimp only at hSw); go_simp; try with_reducible rfl)
    try simp only [Act.put, List.setIfInBounds_toArray, List.set_cons_zero, List.set_cons_succ]
    refine wpAnyH_take (i := 28) (oi := ({ dst := Option.some 48, op := Go.Op.pick (Go.Operand.tmp 41) (Go.Operand.tmp 47) (Go.Operand.const (Go.Value.bool Bool.false)), type := 4, pos := "law.go:84", after := #[{ on := 21, ground := Go.Ground.data }, { on := 27, ground := Go.Ground.data }], guard := Option.none })) (v := ?_) rfl (by kernel_rfl) (by kernel_rfl) (by kernel_rfl) (fun _ _ _ h => h) (Or.inl ⟨by rfl, ?_⟩) (by assumption) ?_
    rotate_left
    · first | exact fun _ _ => rfl | (intro w hSw; (try dsimp only at hSw); go_simp; try with_reducible rfl)
    try simp only [Act.put, List.setIfInBounds_toArray, List.set_cons_zero, List.set_cons_succ]
    refine wpAnyH_take (i := 29) (oi := ({ dst := Option.some 4, op := Go.Op.assign (Go.Operand.tmp 48), type := 4, pos := "law.go:84", after := #[{ on := 28, ground := Go.Ground.data }, { on := 24, ground := Go.Ground.chain }, { on := 0, ground := Go.Ground.phase }, { on := 1, ground := Go.Ground.phase }, { on := 2, ground := Go.Ground.phase }, { on := 3, ground := Go.Ground.phase }, { on := 4, ground := Go.Ground.phase }, { on := 5, ground := Go.Ground.phase }, { on := 6, ground := Go.Ground.phase }, { on := 7, ground := Go.Ground.phase }, { on := 8, ground := Go.Ground.phase }, { on := 9, ground := Go.Ground.phase }, { on := 10, ground := Go.Ground.phase }, { on := 11, ground := Go.Ground.phase }, { on := 12, ground := Go.Ground.phase }, { on := 13, ground := Go.Ground.phase }, { on := 14, ground := Go.Ground.phase }, { on := 15, ground := Go.Ground.phase }, { on := 16, ground := Go.Ground.phase }, { on := 17, ground := Go.Ground.phase }, { on := 18, ground := Go.Ground.phase }, { on := 19, ground := Go.Ground.phase }, { on := 20, ground := Go.Ground.phase }, { on := 21, ground := Go.Ground.phase }, { on := 22, ground := Go.Ground.phase }, { on := 23, ground := Go.Ground.phase }, { on := 24, ground := Go.Ground.phase }, { on := 25, ground := Go.Ground.phase }, { on := 26, ground := Go.Ground.phase }, { on := 27, ground := Go.Ground.phase }, { on := 28, ground := Go.Ground.phase }], guard := Option.none })) (v := ?_) rfl (by kernel_rfl) (by kernel_rfl) (by kernel_rfl) (fun _ _ _ h => h) (Or.inl ⟨by rfl, ?_⟩) (by assumption) ?_
    rotate_left
    · first | exact fun _ _ => rfl | (intro w hSw; (try dsimp only at hSw); go_simp; try with_reducible rfl)
    try simp only [Act.put, List.setIfInBounds_toArray, List.set_cons_zero, List.set_cons_succ]
    refine wpAnyH_done (by kernel_rfl) ?_ _
    all_goals
      go_wp2
      go_ret
      exact ⟨by first | rfl | simp, K2.out.be⟩
  · cases e1; cases e2
    have k0' : ¬ (k0 : Int) = 0 := by omega
    go_enter Tryd.func13, Tryd.ntmps13
    go_wp2_with fail
    refine HC.out.mono ?_
    rintro e w1 ⟨rfl, hb⟩
    have HB1 := Lib.hid hb
    clear hb
    go_wp2_with fail
    refine (HD.out _ HB1.out).mono ?_
    rintro e w2 ⟨rfl, hb⟩
    have HB2 := Lib.hid (Below.step HB1.out hb HB1.out.size)
    clear hb
    unfold lookDV
    go_wp2_with fail
    refine (word_at (p0 : Int) (k0 : Int) k0' _).mono ?_
    rintro e w3 ⟨rfl, hb⟩
    have K0 := Lib.hid (show T8W w w2.heap.size (.int .i64 (k0 : Nat)) (.int .i64 (p0 : Nat)) (.bool true) (.int .i64 (n : Nat)) w3 from ⟨(HE.out.below HB2.out).below ((Below.refl _ _).alloc (Nat.le_refl _) _) |>.below hb, (World.rowIs_alloc w2 #[.int .i64 (k0 : Nat), .int .i64 (p0 : Nat), .bool true, .int .i64 (n : Nat)] 106 _ four_at).of_block (hb.block _ (by simp)), Below.step (B := w.heap.size) (HB2.out.alloc HB2.out.size (.cells #[.int .i64 (k0 : Nat), .int .i64 (p0 : Nat), .bool true, .int .i64 (n : Nat)] 106)) hb (by have := HB2.out.size; simp; omega)⟩)
    have KD := Lib.hid K0.out.drew
    clear hb
    go_wp2_with fail
    go_region_held3 (fun w' => w'.cell? ⟨w2.heap.size, 0, none⟩ = some (.int .i64 (k0 : Nat)) ∧ w'.cell? ⟨w2.heap.size, 1, none⟩ = some (.int .i64 (p0 : Nat)) ∧ w'.cell? ⟨w2.heap.size, 2, none⟩ = some (.bool true) ∧ w'.cell? ⟨w2.heap.size, 3, none⟩ = some (.int .i64 (n : Nat)) ∧ Hid (T8W w w2.heap.size (.int .i64 (k0 : Nat)) (.int .i64 (p0 : Nat)) (.bool true) (.int .i64 (n : Nat)) w'))
      (first | exact T8W.all (by assumption))
      (first
        | (go_at_call 21; (with_reducible refine (T8W.call (fun W hE _ => top_at (p0 : Int) (k0 : Int) k0' W hE) (by assumption)).mono ?_); rintro e w5 ⟨rfl, K2⟩)
        | (go_at_call 40; (with_reducible refine (T8W.call (fun W _ hB => HV.out W hB) (by assumption)).mono ?_); rintro e w5 ⟨rfl, K2⟩))
    all_goals
      go_wp2
      go_ret
      exact ⟨by first | rfl | simp, K2.out.be⟩

end Go.Proofs.YtkhbhkllnigbgaaDoor
