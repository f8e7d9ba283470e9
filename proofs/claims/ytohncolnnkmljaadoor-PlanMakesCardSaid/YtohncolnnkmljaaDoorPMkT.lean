/- PlanMakes: what its walk needs besides. -/
import Derived.Test.YtohncolnnkmljaaDoorPMkRe
import Derived.Test.YtohncolnnkmljaaDoorPOpenB
import Derived.Test.YtohncolnnkmljaaDoorPNil
import Derived.Test.YtohncolnnkmljaaDoorPTells
namespace Go.Proofs.YtohncolnnkmljaaDoor
open Go.RowKit
set_option maxRecDepth 100000 in
set_option maxHeartbeats 1000000 in
theorem same_any (w : World) (g c n cap1 cap2 : Nat) (f : Nat → Int) (hn : n ≤ 4096) (h1 : ∀ j, j < n → w.cell? ⟨g, j, none⟩ = some (.int .u64 (f j))) (h2 : ∀ j, j < n → w.cell? ⟨c, j, none⟩ = some (.int .u64 (f j))) :
    Calls Tryd.prog 29 #[.slice (some ⟨g, 0, none⟩) n cap1, .slice (some ⟨c, 0, none⟩) n cap2] w fun e w' => e = .returned (.bool true) ∧ Below w.heap.size w w' := by
  have H1 := Lib.hid h1
  have H2 := Lib.hid h2
  clear h1 h2
  go_enter Tryd.func29, Tryd.ntmps29
  go_wp2_with fail
  go_loopw [5] (fun i wr => ∃ j : Nat, j ≤ n ∧ i = .int .i64 j ∧ ∃ m, wr = w.drewN m) (fun i _ => n - (intOf i).toNat)
  case atStart => exact ⟨0, by omega, rfl, 0, rfl⟩
  case round =>
    obtain ⟨j, hj, rfl, m, rfl⟩ := hrel
    by_cases hlt : j < n
    · have cg := H1.out j hlt
      have cc := H2.out j hlt
      have hj1 : (0 : Int) ≤ (j : Int) := by omega
      have hj2 : (j : Int) < (n : Int) := by omega
      have cg' : (w.drewN m).cell? ⟨g, j, none⟩ = some (.int .u64 (f j)) := cg
      have cc' : (w.drewN m).cell? ⟨c, j, none⟩ = some (.int .u64 (f j)) := cc
      clear cg cc
      have hb : ∃ W, W = w.drewN m := ⟨_, rfl⟩
      obtain ⟨W, hW⟩ := hb
      have HW := Lib.hid hW
      rw [← hW] at cg' cc' ⊢
      clear hW
      go_wp2_with fail
      go_quiet (fail)
      go_wp2_with fail
      go_roundw
      case rel =>
        refine ⟨j + 1, by omega, by go_num, ?_⟩
        rw [HW.out]
        exact ⟨_, World.drewN_drewN _ _ _⟩
      case measure => simp [intOf]; omega
    · go_wp2
      go_ret
      exact ⟨rfl, below_drewN (Below.refl _ _) _⟩

set_option maxRecDepth 100000 in
theorem neq_config (x : Cfg) (w : World) : (binOp .neq 26 (.agg #[.int .i64 x.t, .int .i64 x.s, .int .i64 x.l, .int .i64 x.c, .int .i64 x.s0, .int .i64 x.n0, .int .i64 x.s1, .int .i64 x.n1, .int .i64 x.r]) (.agg #[.int .i64 x.t, .int .i64 x.s, .int .i64 x.l, .int .i64 x.c, .int .i64 x.s0, .int .i64 x.n0, .int .i64 x.s1, .int .i64 x.n1, .int .i64 x.r])).run Tryd.prog w = .ok (.bool false) w := by
  rw [run_neq_struct, run_equalIn_struct w 9999 26 _ _ under_config held_config]
  simp only [Program.fieldsOf, Tryd.underlying26]
  simp [Op.eqFields, cp_0, cp_1, cp_2, cp_3, cp_4, cp_8, run_equalIn_int w _ _ _ _ _ _ Tryd.underlying3, eq_classes 9996]

theorem word_nil (w : World) : Calls Tryd.prog 37 #[.nilIface] w fun r w' => r = .returned (.tuple #[.int .i64 0, .bool false]) ∧ Below w.heap.size w w' := by
  have h := Cs.word_any [] (by simp [Cs.Ok]) (by simp) w
  exact h
theorem word_code (k : Int) (hk : ¬ k = 0) (w : World) : Calls Tryd.prog 37 #[.iface 54 (.int .i64 k)] w fun r w' => r = .returned (.tuple #[.int .i64 0, .bool false]) ∧ Below w.heap.size w w' := by
  have h := Cs.word_any [(k, 0)] (by simpa [Cs.Ok] using hk) (by simp) w
  rw [Cs.enc_code _ _ hk, show Cs.wordFrom (0, false) [(k, 0)] = (0, false) by simp [Cs.wordFrom, hk]] at h
  exact h

/-- Make, of any config: is there an arena just if it is right? -/
theorem make_any (x : Cfg) (w : World) (hL : Lim w) : Calls Tryd.prog 26 #[(.agg #[.int .i64 x.t, .int .i64 x.s, .int .i64 x.l, .int .i64 x.c, .int .i64 x.s0, .int .i64 x.n0, .int .i64 x.s1, .int .i64 x.n1, .int .i64 x.r])] w fun e w' => ∃ (o : Option Addr) (ev : Value) (tv : Int), e = .returned (.tuple #[.pointer o, ev]) ∧ o.isNone = (!rightB x) ∧ (tv == 1) = (!rightB x) ∧ (∀ W, Cs.ErrT W → Calls Tryd.prog 28 #[ev] W fun r W' => r = .returned (.int .i64 tv) ∧ Below W.heap.size W W') ∧ Below w.heap.size w w' := by
  by_cases h : rightB x = true
  · have hr := right_of h
    obtain ⟨N, hN⟩ : ∃ N : Nat, sizeC x = (N : Int) := ⟨(sizeC x).toNat, by have := hr.sizes; omega⟩
    refine (make_yes x N w hL hr hN).mono ?_
    rintro e w' ⟨p, c, y, rfl, _, _, _, _, _, hb⟩
    exact ⟨_, _, 0, rfl, by rw [h]; rfl, by rw [h]; rfl, fun W hE => top_none W hE, hb⟩
  · have h' : rightB x = false := by simpa using h
    refine (make_no x w hL h').mono ?_
    rintro e w' ⟨rfl, hb⟩
    exact ⟨_, _, 1, rfl, by rw [h']; rfl, by rw [h']; rfl, fun W hE => top_one 1 (by omega) W hE, hb⟩

theorem store_f1 (x : St) (n : Nat) (hn : 2 ≤ n) (u : Int) : (x.store n 1 u).f 1 = u ∧ (x.store n 1 u).f 0 = x.f 0 := by
  have h : inB n 1 = true := by simp [inB]; omega
  rw [St.store, if_pos h, St.made]
  exact ⟨by show put x.f 1 u 1 = u; exact put_at _ _ _, by show put x.f 1 u 0 = x.f 0; simp [put]⟩
theorem store_f01 (x : St) (n : Nat) (hn : 1 ≤ n) (u : Int) : (x.store n 0 u).f 1 = x.f 1 := by
  have h : inB n 0 = true := by simp [inB]; omega
  rw [St.store, if_pos h, St.made]
  show put x.f 0 u 1 = x.f 1
  simp [put]

/-- What was made is opened. -/
theorem open_made (w : World) (p c N : Nat) (y : St) (x : Cfg) (h : ArS w p c N y) (hr : Right x) (hN : sizeC x = (N : Int)) (hL : Lim w) (h0 : y.f 0 = 7597137583116413295) (h1 : y.f 1 = (packN x : Int)) : Calls Tryd.prog 31 #[.pointer (some ⟨p, 0, none⟩)] w fun e w' => e = .returned (.tuple #[(.agg #[.int .i64 x.t, .int .i64 x.s, .int .i64 x.l, .int .i64 x.c, .int .i64 x.s0, .int .i64 x.n0, .int .i64 x.s1, .int .i64 x.n1, .int .i64 x.r]), .nilIface]) ∧ Below w.heap.size w w' := by
  have hlt := pack_lt hr
  have hs := hr.sizes
  obtain ⟨X, hX⟩ := vec_nat (packN x) (by omega)
  have ho : unpOk X.toNat = true := by rw [unpOk, hX, unp_pack hr, rightB_true hr]; simpa using hlt
  have k := open_good w p c N y h (by omega) (by omega) (by rw [h0]; rfl) X (by rw [h1, hX]) hL ho (by rw [hX, unp_pack hr]; exact hN)
  rw [hX, unp_pack hr] at k
  exact k
theorem CfgAt.alloc' {w : World} {b : Nat} {x : Cfg} (h : CfgAt w b x) (o : Obj) : CfgAt (w.alloc o) b x := h.below ((Below.refl _ _).alloc (Nat.le_refl _) o)
theorem RS.drewR {w : World} {p c n : Nat} {x : St} (h : RS w p c n x) : RS w.drew p c n x := ⟨h.obj.drew, h.row.drew, h.ne⟩
/-- Two configs, two words, an arena; nothing old has changed. -/
structure MM (w0 : World) (s1 : Nat) (r : Cfg) (sq : Nat) (q0 q1 : Int) (b : Nat) (x : Cfg) (p c N : Nat) (y : St) (W : World) : Prop where
  raw : CfgAt W s1 r
  q : ArrAt W sq 46 #[.int .u64 q0, .int .u64 q1]
  cfg : CfgAt W b x
  a : ArS W p c N y
  hp : w0.heap.size ≤ p
  hc : w0.heap.size ≤ c
  h1 : w0.heap.size ≤ s1
  ne : s1 ≠ p ∧ s1 ≠ c ∧ sq ≠ p ∧ sq ≠ c ∧ b ≠ p ∧ b ≠ c ∧ s1 ≠ sq ∧ s1 ≠ b
  be : Below w0.heap.size w0 W
theorem MM.below {w0 : World} {s1 : Nat} {r : Cfg} {sq : Nat} {q0 q1 : Int} {b : Nat} {x : Cfg} {p c N : Nat} {y : St} {W W' : World} (h : MM w0 s1 r sq q0 q1 b x p c N y W) (hb : Below W.heap.size W W') : MM w0 s1 r sq q0 q1 b x p c N y W' :=
  ⟨h.raw.below hb, h.q.below hb, h.cfg.below hb, Ar.below h.a hb h.a.obj.lt h.a.row.lt, h.hp, h.hc, h.h1, h.ne, h.be.trans (hb.mono h.be.size)⟩
theorem MM.drew {w0 : World} {s1 : Nat} {r : Cfg} {sq : Nat} {q0 q1 : Int} {b : Nat} {x : Cfg} {p c N : Nat} {y : St} {W : World} (h : MM w0 s1 r sq q0 q1 b x p c N y W) : MM w0 s1 r sq q0 q1 b x p c N y W.drew := h.below (Below.refl _ _).drew
theorem MM.alloc {w0 : World} {s1 : Nat} {r : Cfg} {sq : Nat} {q0 q1 : Int} {b : Nat} {x : Cfg} {p c N : Nat} {y : St} {W : World} (h : MM w0 s1 r sq q0 q1 b x p c N y W) (o : Obj) : MM w0 s1 r sq q0 q1 b x p c N y (W.alloc o) := h.below ((Below.refl _ _).alloc (Nat.le_refl _) o)
theorem MM.only {w0 : World} {s1 : Nat} {r : Cfg} {sq : Nat} {q0 q1 : Int} {b : Nat} {x : Cfg} {p c N : Nat} {y y' : St} {W W' : World} (h : MM w0 s1 r sq q0 q1 b x p c N y W) (ha : ArS W' p c N y') (ho : Only p c W W') : MM w0 s1 r sq q0 q1 b x p c N y' W' := by
  obtain ⟨n1, n2, n3, n4, n5, n6, n7, n8⟩ := h.ne
  exact ⟨h.raw.of_block (ho.block _ h.raw.lt n1 n2), h.q.of_block (ho.block _ (World.rowIs.lt h.q) n3 n4), h.cfg.of_block (ho.block _ h.cfg.lt n5 n6), ha, h.hp, h.hc, h.h1, h.ne, h.be.trans (ho.below h.be.size h.hp h.hc)⟩
/-- Another arena, that was made later, has changed. -/
theorem MM.other {w0 : World} {s1 : Nat} {r : Cfg} {sq : Nat} {q0 q1 : Int} {b : Nat} {x : Cfg} {p c N : Nat} {y : St} {W W' : World} {p2 c2 B : Nat} (h : MM w0 s1 r sq q0 q1 b x p c N y W) (hB : s1 < B ∧ sq < B ∧ b < B ∧ p < B ∧ c < B) (h2 : B ≤ p2) (h3 : B ≤ c2) (ho : Only p2 c2 W W') : MM w0 s1 r sq q0 q1 b x p c N y W' := by
  obtain ⟨b1, b2, b3, b4, b5⟩ := hB
  have hp := h.hp
  exact ⟨h.raw.of_block (ho.block _ h.raw.lt (by omega) (by omega)), h.q.of_block (ho.block _ (World.rowIs.lt h.q) (by omega) (by omega)), h.cfg.of_block (ho.block _ h.cfg.lt (by omega) (by omega)),
    ⟨h.a.obj.of_block (ho.block _ h.a.obj.lt (by omega) (by omega)), h.a.row.of_block (ho.block _ h.a.row.lt (by omega) (by omega)), h.a.ne⟩, h.hp, h.hc, h.h1, h.ne, h.be.trans (ho.below h.be.size (by omega) (by omega))⟩
theorem MM.bound {w0 : World} {s1 : Nat} {r : Cfg} {sq : Nat} {q0 q1 : Int} {b : Nat} {x : Cfg} {p c N : Nat} {y : St} {W : World} (h : MM w0 s1 r sq q0 q1 b x p c N y W) : s1 < W.heap.size ∧ sq < W.heap.size ∧ b < W.heap.size ∧ p < W.heap.size ∧ c < W.heap.size := ⟨h.raw.lt, World.rowIs.lt h.q, h.cfg.lt, h.a.obj.lt, h.a.row.lt⟩
theorem MM.setN0 {w0 : World} {s1 : Nat} {r : Cfg} {sq : Nat} {q0 q1 : Int} {b : Nat} {x : Cfg} {p c N : Nat} {y : St} {W : World} (h : MM w0 s1 r sq q0 q1 b x p c N y W) (m : Int) : MM w0 s1 { r with n0 := m } sq q0 q1 b x p c N y (W.setCell ⟨s1, 5, none⟩ (.int .i64 m)) := by
  obtain ⟨n1, n2, n3, n4, n5, n6, n7, n8⟩ := h.ne
  exact ⟨(h.raw.set 5 _).congr (by intro j hj; match j, hj with | 0, _ => rfl | 1, _ => rfl | 2, _ => rfl | 3, _ => rfl | 4, _ => rfl | 5, _ => rfl | 6, _ => rfl | 7, _ => rfl | 8, _ => rfl), h.q.setOther (a := ⟨s1, 5, none⟩) (fun e => n7 e.symm) _, h.cfg.setOther (a := ⟨s1, 5, none⟩) (fun e => n8 e.symm) _, Ar.setOther h.a (a := ⟨s1, 5, none⟩) (fun e => n1 e.symm) (fun e => n2 e.symm) _, h.hp, h.hc, h.h1, h.ne, h.be.setCell (p := ⟨s1, 5, none⟩) h.h1 _⟩

end Go.Proofs.YtohncolnnkmljaaDoor
