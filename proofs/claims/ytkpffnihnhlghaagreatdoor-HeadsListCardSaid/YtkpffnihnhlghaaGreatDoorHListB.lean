/- heads.List of a config that isn't right, of no such class, of another number of words. -/
import Derived.Test.YtkpffnihnhlghaaGreatDoorHRow
namespace Go.Proofs.YtkpffnihnhlghaaGreatDoor
open Go.RowKit Go.Shelf
attribute [local go_sem] Oper.semAt_some

set_option maxRecDepth 100000 in
set_option maxHeartbeats 4000000 in
theorem list_no (x : Cfg) (hr : rightB x = false) (cls : Int) (A : Option Addr) (N cw : Nat) (w : World) (hL : Lim w) : Calls Tryz.prog 10 #[(.agg #[.int .i64 x.t, .int .i64 x.s, .int .i64 x.l, .int .i64 x.c, .int .i64 x.s0, .int .i64 x.n0, .int .i64 x.s1, .int .i64 x.n1, .int .i64 x.r]), .slice A N cw, .int .i64 cls] w fun e w' => e = .returned (.tuple #[.slice none 0 0, Cs.enc [(1, 0)]]) ∧ Below w.heap.size w w' := by
  have HL := Lib.hid hL
  have HRB := Lib.hid hr
  clear hL hr
  refine (callsIn_wide (n := 5)).1 ?_
  refine callsIn_of_wp_marks Tryz.func10 rfl trivial ?_ rfl
  simp only [Tryz.ntmps10, List.size_toArray, List.length_cons, List.length_nil, Nat.reduceAdd, Nat.reduceSub, Array.replicate_succ, Array.replicate_zero, List.push_toArray, List.append_toArray, List.nil_append, List.cons_append]
  have K0 := Lib.hid (LH.start w x cls)
  obtain ⟨c0, c1, c2, c3, c4, c5, c6, c7, c8, cc, p1, z1, p2, z2, hq⟩ := LH.all K0.out
  gi_wp2_with fail
  generalize (((w.alloc (.cells #[.int .i64 x.t, .int .i64 x.s, .int .i64 x.l, .int .i64 x.c, .int .i64 x.s0, .int .i64 x.n0, .int .i64 x.s1, .int .i64 x.n1, .int .i64 x.r] 30)).alloc (.cells #[.int .i64 cls] 3)).alloc (.cells #[.slice none 0 0] 44)).alloc (.cells #[.nilIface] 46) = Wa at K0 c0 c1 c2 c3 c4 c5 c6 c7 c8 cc p1 z1 p2 z2 hq ⊢
  refine wpIn_wide.2 (wp_scope_straight ((wpIn_wide (n := 5)).1 ?_))
  gi_wp2_with fail
  refine ⟨trivial, ?_⟩
  refine (callsIn_wide.2 (check_no x _ (HL.out.below K0.out.be) HRB.out)).mono ?_
  rintro e w1 ⟨rfl, hb⟩
  have K1 := Lib.hid (K0.out.below hb)
  clear K0 c0 c1 c2 c3 c4 c5 c6 c7 c8 cc p1 z1 p2 z2 hq hb
  obtain ⟨c0, c1, c2, c3, c4, c5, c6, c7, c8, cc, p1, z1, p2, z2, hq⟩ := LH.all K1.out
  gi_wp2_with fail
  obtain ⟨b1, b2, -, b4⟩ := LH.errs K1.out (.slice none 0 0) (.iface 50 (.int .i64 1))
  clear p1 z1 p2 z2 hq c0 c1 c2 c3 c4 c5 c6 c7 c8 cc
  generalize (w1.setCell ⟨w.heap.size + 1 + 1, 0, none⟩ (.slice none 0 0)).setCell ⟨w.heap.size + 1 + 1 + 1, 0, none⟩ (.iface 50 (.int .i64 1)) = W9 at b1 b2 b4 ⊢
  have g1 := b1.cell
  have g2 := b2.cell
  refine ⟨.tuple #[.slice none 0 0, .iface 50 (.int .i64 1)], by simp [results, Tryz.results10, go_sem, g1, g2], ?_⟩
  exact ⟨rfl, b4⟩
set_option maxRecDepth 100000 in
set_option maxHeartbeats 4000000 in
theorem list_neg (x : Cfg) (hr : Right x) (cls : Int) (hc : cls < 0) (A : Option Addr) (N cw : Nat) (w : World) (hL : Lim w) : Calls Tryz.prog 10 #[(.agg #[.int .i64 x.t, .int .i64 x.s, .int .i64 x.l, .int .i64 x.c, .int .i64 x.s0, .int .i64 x.n0, .int .i64 x.s1, .int .i64 x.n1, .int .i64 x.r]), .slice A N cw, .int .i64 cls] w fun e w' => e = .returned (.tuple #[.slice none 0 0, Cs.enc [(1, 0)]]) ∧ Below w.heap.size w w' := by
  have HL := Lib.hid hL
  have HRB := Lib.hid (rightB_true hr)
  have HR := Lib.hid hr
  have dn : decide (cls < 0) = true := decide_eq_true hc
  clear hL hr hc
  refine (callsIn_wide (n := 5)).1 ?_
  refine callsIn_of_wp_marks Tryz.func10 rfl trivial ?_ rfl
  simp only [Tryz.ntmps10, List.size_toArray, List.length_cons, List.length_nil, Nat.reduceAdd, Nat.reduceSub, Array.replicate_succ, Array.replicate_zero, List.push_toArray, List.append_toArray, List.nil_append, List.cons_append]
  have K0 := Lib.hid (LH.start w x cls)
  obtain ⟨c0, c1, c2, c3, c4, c5, c6, c7, c8, cc, p1, z1, p2, z2, hq⟩ := LH.all K0.out
  gi_wp2_with fail
  generalize (((w.alloc (.cells #[.int .i64 x.t, .int .i64 x.s, .int .i64 x.l, .int .i64 x.c, .int .i64 x.s0, .int .i64 x.n0, .int .i64 x.s1, .int .i64 x.n1, .int .i64 x.r] 30)).alloc (.cells #[.int .i64 cls] 3)).alloc (.cells #[.slice none 0 0] 44)).alloc (.cells #[.nilIface] 46) = Wa at K0 c0 c1 c2 c3 c4 c5 c6 c7 c8 cc p1 z1 p2 z2 hq ⊢
  refine wpIn_wide.2 (wp_scope_straight ((wpIn_wide (n := 5)).1 ?_))
  gi_wp2_with fail
  refine ⟨trivial, ?_⟩
  refine (callsIn_wide.2 (check_yes x _ (HL.out.below K0.out.be) HRB.out)).mono ?_
  rintro e w1 ⟨rfl, hb⟩
  have K1 := Lib.hid (K0.out.below hb)
  clear K0 c0 c1 c2 c3 c4 c5 c6 c7 c8 cc p1 z1 p2 z2 hq hb
  obtain ⟨c0, c1, c2, c3, c4, c5, c6, c7, c8, cc, p1, z1, p2, z2, hq⟩ := LH.all K1.out
  gi_wp2_with fail
  refine ⟨trivial, ?_⟩
  refine (callsIn_wide.2 (Cs.new_code 1 _ rfl)).mono ?_
  rintro e wx ⟨rfl, rfl⟩
  gi_wp2_with fail
  obtain ⟨b1, b2, -, b4⟩ := LH.errs K1.out (.slice none 0 0) (.iface 50 (.int .i64 1))
  clear p1 z1 p2 z2 hq c0 c1 c2 c3 c4 c5 c6 c7 c8 cc
  generalize (w1.setCell ⟨w.heap.size + 1 + 1, 0, none⟩ (.slice none 0 0)).setCell ⟨w.heap.size + 1 + 1 + 1, 0, none⟩ (.iface 50 (.int .i64 1)) = W9 at b1 b2 b4 ⊢
  have g1 := b1.cell
  have g2 := b2.cell
  refine ⟨.tuple #[.slice none 0 0, .iface 50 (.int .i64 1)], by simp [results, Tryz.results10, go_sem, g1, g2], ?_⟩
  exact ⟨rfl, b4⟩
set_option maxRecDepth 100000 in
set_option maxHeartbeats 4000000 in
theorem list_big (x : Cfg) (hr : Right x) (cls : Int) (hc : 2 ≤ cls) (A : Option Addr) (N cw : Nat) (w : World) (hL : Lim w) : Calls Tryz.prog 10 #[(.agg #[.int .i64 x.t, .int .i64 x.s, .int .i64 x.l, .int .i64 x.c, .int .i64 x.s0, .int .i64 x.n0, .int .i64 x.s1, .int .i64 x.n1, .int .i64 x.r]), .slice A N cw, .int .i64 cls] w fun e w' => e = .returned (.tuple #[.slice none 0 0, Cs.enc [(1, 0)]]) ∧ Below w.heap.size w w' := by
  have HL := Lib.hid hL
  have HRB := Lib.hid (rightB_true hr)
  have HR := Lib.hid hr
  have dn : decide (cls < 0) = false := by simp; omega
  have dc : decide (2 ≤ cls) = true := decide_eq_true hc
  clear hL hr hc
  refine (callsIn_wide (n := 5)).1 ?_
  refine callsIn_of_wp_marks Tryz.func10 rfl trivial ?_ rfl
  simp only [Tryz.ntmps10, List.size_toArray, List.length_cons, List.length_nil, Nat.reduceAdd, Nat.reduceSub, Array.replicate_succ, Array.replicate_zero, List.push_toArray, List.append_toArray, List.nil_append, List.cons_append]
  have K0 := Lib.hid (LH.start w x cls)
  obtain ⟨c0, c1, c2, c3, c4, c5, c6, c7, c8, cc, p1, z1, p2, z2, hq⟩ := LH.all K0.out
  gi_wp2_with fail
  generalize (((w.alloc (.cells #[.int .i64 x.t, .int .i64 x.s, .int .i64 x.l, .int .i64 x.c, .int .i64 x.s0, .int .i64 x.n0, .int .i64 x.s1, .int .i64 x.n1, .int .i64 x.r] 30)).alloc (.cells #[.int .i64 cls] 3)).alloc (.cells #[.slice none 0 0] 44)).alloc (.cells #[.nilIface] 46) = Wa at K0 c0 c1 c2 c3 c4 c5 c6 c7 c8 cc p1 z1 p2 z2 hq ⊢
  refine wpIn_wide.2 (wp_scope_straight ((wpIn_wide (n := 5)).1 ?_))
  gi_wp2_with fail
  refine ⟨trivial, ?_⟩
  refine (callsIn_wide.2 (check_yes x _ (HL.out.below K0.out.be) HRB.out)).mono ?_
  rintro e w1 ⟨rfl, hb⟩
  have K1 := Lib.hid (K0.out.below hb)
  clear K0 c0 c1 c2 c3 c4 c5 c6 c7 c8 cc p1 z1 p2 z2 hq hb
  obtain ⟨c0, c1, c2, c3, c4, c5, c6, c7, c8, cc, p1, z1, p2, z2, hq⟩ := LH.all K1.out
  gi_wp2_with fail
  refine ⟨trivial, ?_⟩
  refine (callsIn_wide.2 (Cs.new_code 1 _ rfl)).mono ?_
  rintro e wx ⟨rfl, rfl⟩
  gi_wp2_with fail
  obtain ⟨b1, b2, -, b4⟩ := LH.errs K1.out (.slice none 0 0) (.iface 50 (.int .i64 1))
  clear p1 z1 p2 z2 hq c0 c1 c2 c3 c4 c5 c6 c7 c8 cc
  generalize (w1.setCell ⟨w.heap.size + 1 + 1, 0, none⟩ (.slice none 0 0)).setCell ⟨w.heap.size + 1 + 1 + 1, 0, none⟩ (.iface 50 (.int .i64 1)) = W9 at b1 b2 b4 ⊢
  have g1 := b1.cell
  have g2 := b2.cell
  refine ⟨.tuple #[.slice none 0 0, .iface 50 (.int .i64 1)], by simp [results, Tryz.results10, go_sem, g1, g2], ?_⟩
  exact ⟨rfl, b4⟩
set_option maxRecDepth 100000 in
set_option maxHeartbeats 4000000 in
theorem list_len (x : Cfg) (hr : Right x) (cls : Int) (hc : 0 ≤ cls ∧ cls ≤ 1) (A : Option Addr) (N cw : Nat) (w : World) (hL : Lim w) (hN : ¬ sizeC x = (N : Int)) : Calls Tryz.prog 10 #[(.agg #[.int .i64 x.t, .int .i64 x.s, .int .i64 x.l, .int .i64 x.c, .int .i64 x.s0, .int .i64 x.n0, .int .i64 x.s1, .int .i64 x.n1, .int .i64 x.r]), .slice A N cw, .int .i64 cls] w fun e w' => e = .returned (.tuple #[.slice none 0 0, Cs.enc [(23, 0)]]) ∧ Below w.heap.size w w' := by
  have HL := Lib.hid hL
  have HRB := Lib.hid (rightB_true hr)
  have HR := Lib.hid hr
  have dn : decide (cls < 0) = false := by simp; omega
  have dc : decide (2 ≤ cls) = false := by simp; omega
  have ds : ((N : Int) != sizeC x) = true := by simp; omega
  clear hL hr hc hN
  refine (callsIn_wide (n := 5)).1 ?_
  refine callsIn_of_wp_marks Tryz.func10 rfl trivial ?_ rfl
  simp only [Tryz.ntmps10, List.size_toArray, List.length_cons, List.length_nil, Nat.reduceAdd, Nat.reduceSub, Array.replicate_succ, Array.replicate_zero, List.push_toArray, List.append_toArray, List.nil_append, List.cons_append]
  have K0 := Lib.hid (LH.start w x cls)
  obtain ⟨c0, c1, c2, c3, c4, c5, c6, c7, c8, cc, p1, z1, p2, z2, hq⟩ := LH.all K0.out
  gi_wp2_with fail
  generalize (((w.alloc (.cells #[.int .i64 x.t, .int .i64 x.s, .int .i64 x.l, .int .i64 x.c, .int .i64 x.s0, .int .i64 x.n0, .int .i64 x.s1, .int .i64 x.n1, .int .i64 x.r] 30)).alloc (.cells #[.int .i64 cls] 3)).alloc (.cells #[.slice none 0 0] 44)).alloc (.cells #[.nilIface] 46) = Wa at K0 c0 c1 c2 c3 c4 c5 c6 c7 c8 cc p1 z1 p2 z2 hq ⊢
  refine wpIn_wide.2 (wp_scope_straight ((wpIn_wide (n := 5)).1 ?_))
  gi_wp2_with fail
  refine ⟨trivial, ?_⟩
  refine (callsIn_wide.2 (check_yes x _ (HL.out.below K0.out.be) HRB.out)).mono ?_
  rintro e w1 ⟨rfl, hb⟩
  have K1 := Lib.hid (K0.out.below hb)
  clear K0 c0 c1 c2 c3 c4 c5 c6 c7 c8 cc p1 z1 p2 z2 hq hb
  obtain ⟨c0, c1, c2, c3, c4, c5, c6, c7, c8, cc, p1, z1, p2, z2, hq⟩ := LH.all K1.out
  gi_wp2_with fail
  refine ⟨trivial, ?_⟩
  refine (callsIn_wide.2 (size_yes x _ (HL.out.below K1.out.be) HR.out)).mono ?_
  rintro e w2 ⟨rfl, hb⟩
  have K2 := Lib.hid (K1.out.below hb)
  clear K1 c0 c1 c2 c3 c4 c5 c6 c7 c8 cc p1 z1 p2 z2 hq hb
  obtain ⟨c0, c1, c2, c3, c4, c5, c6, c7, c8, cc, p1, z1, p2, z2, hq⟩ := LH.all K2.out
  gi_wp2_with fail
  refine ⟨trivial, ?_⟩
  refine (callsIn_wide.2 (Cs.new_code 23 _ rfl)).mono ?_
  rintro e wx ⟨rfl, rfl⟩
  gi_wp2_with fail
  obtain ⟨b1, b2, -, b4⟩ := LH.errs K2.out (.slice none 0 0) (.iface 50 (.int .i64 23))
  clear p1 z1 p2 z2 hq c0 c1 c2 c3 c4 c5 c6 c7 c8 cc
  generalize (w2.setCell ⟨w.heap.size + 1 + 1, 0, none⟩ (.slice none 0 0)).setCell ⟨w.heap.size + 1 + 1 + 1, 0, none⟩ (.iface 50 (.int .i64 23)) = W9 at b1 b2 b4 ⊢
  have g1 := b1.cell
  have g2 := b2.cell
  refine ⟨.tuple #[.slice none 0 0, .iface 50 (.int .i64 23)], by simp [results, Tryz.results10, go_sem, g1, g2], ?_⟩
  exact ⟨rfl, b4⟩

end Go.Proofs.YtkpffnihnhlghaaGreatDoor
