/- heads.Free where the first list is an error. -/
import Derived.Test.YtkpffnihnhlghaaGreatDoorHListB
import Derived.Test.YtkpffnihnhlghaaGreatDoorHAwake
namespace Go.Proofs.YtkpffnihnhlghaaGreatDoor
open Go.RowKit
set_option maxRecDepth 100000 in
set_option maxHeartbeats 4000000 in
theorem free_err (x : Cfg) (A : Option Addr) (N cw : Nat) (k : Int) (hk : ¬ k = 0) (w : World) (h : ∀ W, Below w.heap.size w W → Calls Tryz.prog 10 #[(.agg #[.int .i64 x.t, .int .i64 x.s, .int .i64 x.l, .int .i64 x.c, .int .i64 x.s0, .int .i64 x.n0, .int .i64 x.s1, .int .i64 x.n1, .int .i64 x.r]), .slice A N cw, .int .i64 0] W fun e W' => e = .returned (.tuple #[.slice none 0 0, Cs.enc [(k, 0)]]) ∧ Below W.heap.size W W') : Calls Tryz.prog 17 #[(.agg #[.int .i64 x.t, .int .i64 x.s, .int .i64 x.l, .int .i64 x.c, .int .i64 x.s0, .int .i64 x.n0, .int .i64 x.s1, .int .i64 x.n1, .int .i64 x.r]), .slice A N cw] w fun e w' => e = .returned (.tuple #[.slice none 0 0, Cs.enc [(k, 0)]]) ∧ Below w.heap.size w w' := by
  obtain ⟨T, X, hX⟩ : ∃ T X, Cs.enc [(k, 0)] = .iface T X := by rw [Cs.enc_code _ _ hk]; exact ⟨_, _, rfl⟩
  rw [hX] at h ⊢
  have H := Lib.hid h
  clear h hX
  have K0 : Hid (CfgAt (w.alloc (.cells #[.int .i64 x.t, .int .i64 x.s, .int .i64 x.l, .int .i64 x.c, .int .i64 x.s0, .int .i64 x.n0, .int .i64 x.s1, .int .i64 x.n1, .int .i64 x.r] 30)) w.heap.size x ∧ Below w.heap.size w (w.alloc (.cells #[.int .i64 x.t, .int .i64 x.s, .int .i64 x.l, .int .i64 x.c, .int .i64 x.s0, .int .i64 x.n0, .int .i64 x.s1, .int .i64 x.n1, .int .i64 x.r] 30))) := Lib.hid ⟨cfgAt_box w x, ((Below.refl _ _).alloc (Nat.le_refl _) _)⟩
  go_enter Tryz.func17, Tryz.ntmps17
  go_wp2_with fail
  generalize w.alloc (.cells #[.int .i64 x.t, .int .i64 x.s, .int .i64 x.l, .int .i64 x.c, .int .i64 x.s0, .int .i64 x.n0, .int .i64 x.s1, .int .i64 x.n1, .int .i64 x.r] 30) = Wa at K0 ⊢
  go_loopw [6, 10] (fun fv iv wq => fv = .slice none 0 0 ∧ iv = .int .i64 0 ∧ Hid (CfgAt wq w.heap.size x ∧ Below w.heap.size w wq)) (fun _ _ _ => 0)
  case atStart => exact ⟨rfl, rfl, K0⟩
  case round =>
    clear K0
    obtain ⟨rfl, rfl, K⟩ := hrel
    obtain ⟨c0, c1, c2, c3, c4, c5, c6, c7, c8⟩ := K.out.1.cells
    go_wp2_with fail
    refine (H.out _ K.out.2).mono ?_
    rintro e w4 ⟨rfl, hb⟩
    have HB := Lib.hid (Below.step K.out.2 hb K.out.2.size)
    clear hb c0 c1 c2 c3 c4 c5 c6 c7 c8 K
    go_wp2_with fail
    go_ret2
    exact ⟨rfl, HB.out⟩

end Go.Proofs.YtkpffnihnhlghaaGreatDoor
