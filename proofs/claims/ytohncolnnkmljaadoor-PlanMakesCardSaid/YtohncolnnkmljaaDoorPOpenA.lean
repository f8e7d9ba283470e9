/- Open. -/
import Derived.Test.YtohncolnnkmljaaDoorPUnp
import Derived.Test.YtohncolnnkmljaaDoorPPlace
import Derived.Test.YtohncolnnkmljaaDoorDMeth
namespace Go.Proofs.YtohncolnnkmljaaDoor
open Go.RowKit
def magic : Int := 7597137583116413295
/-- The trouble of ErrForm at a word. -/
def formAt (i : Int) : Value := .iface 105 (.agg #[.iface 54 (.int .i64 10), .int .i64 i])

set_option maxRecDepth 100000 in
set_option maxHeartbeats 1000000 in
theorem open_nil (w : World) : Calls Tryd.prog 31 #[.pointer none] w fun e w' => e = .returned (.tuple #[(.agg #[.int .i64 zeroC.t, .int .i64 zeroC.s, .int .i64 zeroC.l, .int .i64 zeroC.c, .int .i64 zeroC.s0, .int .i64 zeroC.n0, .int .i64 zeroC.s1, .int .i64 zeroC.n1, .int .i64 zeroC.r]), .iface 54 (.int .i64 1)]) ∧ Below w.heap.size w w' := by
  go_enter Tryd.func31, Tryd.ntmps31
  go_wp2_with (go_at_call 58; refine (Cs.new_code 1 _ rfl).mono ?_; rintro e w' ⟨rfl, rfl⟩)
  refine bodyPost_ret (v := .tuple #[(.agg #[.int .i64 zeroC.t, .int .i64 zeroC.s, .int .i64 zeroC.l, .int .i64 zeroC.c, .int .i64 zeroC.s0, .int .i64 zeroC.n0, .int .i64 zeroC.s1, .int .i64 zeroC.n1, .int .i64 zeroC.r]), .iface 54 (.int .i64 1)]) (by simp [results, Tryd.results31, go_sem, zeroC]) rfl ⟨rfl, ?_⟩
  (repeat (first | with_reducible exact Below.refl _ _ | with_reducible refine Below.drew ?_ | (with_reducible refine Below.setCell ?_ ?side _; case side => exact (by first | (simp; done) | (simp; omega) | omega)) | (with_reducible refine Below.alloc ?_ ?side _; case side => exact (by first | (simp; done) | (simp; omega) | omega))))

set_option maxRecDepth 100000 in
set_option maxHeartbeats 2000000 in
theorem open_form (w : World) (p c n : Nat) (x : St) (h : ArS w p c n x) (h1 : 1 ≤ n) (h2 : n ≤ 4096) (hm : (x.f 0 != 7597137583116413295) = true) : Calls Tryd.prog 31 #[.pointer (some ⟨p, 0, none⟩)] w fun e w' => e = .returned (.tuple #[(.agg #[.int .i64 zeroC.t, .int .i64 zeroC.s, .int .i64 zeroC.l, .int .i64 zeroC.c, .int .i64 zeroC.s0, .int .i64 zeroC.n0, .int .i64 zeroC.s1, .int .i64 zeroC.n1, .int .i64 zeroC.r]), formAt 0]) ∧ Below w.heap.size w w' := by
  have HA := Lib.hid h
  have n1 : ((n : Int) == 0) = false := by simp; omega
  have n2 : (n == 0) = false := by simp; omega
  have n3 : (0 : Int) < (n : Int) := by omega
  clear h
  go_enter Tryd.func31, Tryd.ntmps31
  go_wp2_with fail
  refine (words_any _ p c n x (Ar.alloc HA.out _) h1 h2).mono ?_
  rintro e w1 ⟨g, cap, F, rfl, hg, hcap, hrow, hF, hb⟩
  have H1 := Lib.hid (Below.step (B := w.heap.size) (a := w) (by (repeat (first | with_reducible exact Below.refl _ _ | with_reducible refine Below.drew ?_ | (with_reducible refine Below.setCell ?_ ?side _; case side => exact (by first | (simp; done) | (simp; omega) | omega)) | (with_reducible refine Below.alloc ?_ ?side _; case side => exact (by first | (simp; done) | (simp; omega) | omega))))) hb (by first | (simp; done) | (simp; omega) | omega))
  have HZ := Lib.hid ((cfgAt_box w zeroC).below hb)
  have g0 := hrow.cell (i := 0) (by omega)
  rw [hF 0 (by omega)] at g0
  clear hb hrow hF hg
  obtain ⟨z0, z1, z2, z3, z4, z5, z6, z7, z8⟩ := HZ.out.cells
  have zf := HZ.out.frozen
  go_wp2_with (first
    | (go_at_call 58; refine (Cs.new_code 10 _ rfl).mono ?_; rintro e w' ⟨rfl, rfl⟩)
    | (go_at_call 59; refine (Cs.at_some _ _ _ _).mono ?_; rintro e w' ⟨rfl, rfl⟩))
  refine bodyPost_ret (v := .tuple #[(.agg #[.int .i64 zeroC.t, .int .i64 zeroC.s, .int .i64 zeroC.l, .int .i64 zeroC.c, .int .i64 zeroC.s0, .int .i64 zeroC.n0, .int .i64 zeroC.s1, .int .i64 zeroC.n1, .int .i64 zeroC.r]), formAt 0]) (by simp [results, Tryd.results31, go_sem, z0, z1, z2, z3, z4, z5, z6, z7, z8, zeroC, formAt]) rfl ⟨rfl, ?_⟩
  (repeat (first | with_reducible exact Below.refl _ _ | with_reducible exact H1.out | with_reducible refine Below.drew ?_ | (with_reducible refine Below.setCell ?_ ?side _; case side => exact (by have := (H1.out).size; first | (simp; done) | (simp; omega) | omega)) | (with_reducible refine Below.alloc ?_ ?side _; case side => exact (by have := (H1.out).size; first | (simp; done) | (simp; omega) | omega))))

set_option maxRecDepth 100000 in
set_option maxHeartbeats 2000000 in
theorem open_one (w : World) (p c n : Nat) (x : St) (h : ArS w p c n x) (h1 : n = 1) (hm : (x.f 0 != 7597137583116413295) = false) : Calls Tryd.prog 31 #[.pointer (some ⟨p, 0, none⟩)] w fun e w' => e = .returned (.tuple #[(.agg #[.int .i64 zeroC.t, .int .i64 zeroC.s, .int .i64 zeroC.l, .int .i64 zeroC.c, .int .i64 zeroC.s0, .int .i64 zeroC.n0, .int .i64 zeroC.s1, .int .i64 zeroC.n1, .int .i64 zeroC.r]), .iface 54 (.int .i64 23)]) ∧ Below w.heap.size w w' := by
  subst h1
  have HA := Lib.hid h
  clear h
  go_enter Tryd.func31, Tryd.ntmps31
  go_wp2_with fail
  refine (words_any _ p c 1 x (Ar.alloc HA.out _) (by omega) (by omega)).mono ?_
  rintro e w1 ⟨g, cap, F, rfl, hg, hcap, hrow, hF, hb⟩
  have H1 := Lib.hid (Below.step (B := w.heap.size) (a := w) (by (repeat (first | with_reducible exact Below.refl _ _ | with_reducible refine Below.drew ?_ | (with_reducible refine Below.setCell ?_ ?side _; case side => exact (by first | (simp; done) | (simp; omega) | omega)) | (with_reducible refine Below.alloc ?_ ?side _; case side => exact (by first | (simp; done) | (simp; omega) | omega))))) hb (by first | (simp; done) | (simp; omega) | omega))
  have HZ := Lib.hid ((cfgAt_box w zeroC).below hb)
  have g0 := hrow.cell (i := 0) (by omega)
  rw [hF 0 (by omega)] at g0
  clear hb hrow hF hg
  obtain ⟨z0, z1, z2, z3, z4, z5, z6, z7, z8⟩ := HZ.out.cells
  have zf := HZ.out.frozen
  go_wp2_with (go_at_call 58; refine (Cs.new_code 23 _ rfl).mono ?_; rintro e w' ⟨rfl, rfl⟩)
  refine bodyPost_ret (v := .tuple #[(.agg #[.int .i64 zeroC.t, .int .i64 zeroC.s, .int .i64 zeroC.l, .int .i64 zeroC.c, .int .i64 zeroC.s0, .int .i64 zeroC.n0, .int .i64 zeroC.s1, .int .i64 zeroC.n1, .int .i64 zeroC.r]), .iface 54 (.int .i64 23)]) (by simp [results, Tryd.results31, go_sem, z0, z1, z2, z3, z4, z5, z6, z7, z8, zeroC]) rfl ⟨rfl, ?_⟩
  (repeat (first | with_reducible exact Below.refl _ _ | with_reducible exact H1.out | with_reducible refine Below.drew ?_ | (with_reducible refine Below.setCell ?_ ?side _; case side => exact (by have := (H1.out).size; first | (simp; done) | (simp; omega) | omega)) | (with_reducible refine Below.alloc ?_ ?side _; case side => exact (by have := (H1.out).size; first | (simp; done) | (simp; omega) | omega))))

end Go.Proofs.YtohncolnnkmljaaDoor
