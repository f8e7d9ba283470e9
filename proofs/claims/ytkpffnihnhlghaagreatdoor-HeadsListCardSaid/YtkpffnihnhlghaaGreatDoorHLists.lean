/- What the law's lists and free tell. -/
import Derived.Test.YtkpffnihnhlghaaGreatDoorHRefF
import Derived.Test.YtkpffnihnhlghaaGreatDoorHFreeB
namespace Go.Proofs.YtkpffnihnhlghaaGreatDoor
open Go.RowKit Go.Shelf
def LRes (P : List Int → List (Int × Int) → Prop) (W : World) (e : Ending) (W' : World) : Prop := ∃ v L E, e = .returned (.tuple #[v, Cs.enc E]) ∧ P L E ∧ L.length ≤ 1000 ∧ IRw W' v L ∧ Below W.heap.size W W'
def TRes (P : List Int → List (Int × Int) → Prop) (W : World) (e : Ending) (W' : World) : Prop := ∃ v L E k p t, e = .returned (.agg #[v, .int .i64 k, .int .i64 p, .bool t]) ∧ P L E ∧ EC E k p t ∧ IRw W' v L ∧ Below W.heap.size W W'
def PE (k : Int) (L : List Int) (E : List (Int × Int)) : Prop := L = [] ∧ E = [(k, 0)]
theorem PE.uniq {k : Int} (L : List Int) (E : List (Int × Int)) (L' : List Int) (E' : List (Int × Int)) (h : PE k L E) (h' : PE k L' E') : L = L' ∧ E = E' := ⟨h.1.trans h'.1.symm, h.2.trans h'.2.symm⟩
theorem irw_none (W : World) : IRw W (.slice none 0 0) [] := ⟨none, 0, rfl, fun h => absurd h (Nat.lt_irrefl 0)⟩
theorem LRes.err {k : Int} {W : World} {e : Ending} {W' : World} (h : e = .returned (.tuple #[.slice none 0 0, Cs.enc [(k, 0)]]) ∧ Below W.heap.size W W') : LRes (PE k) W e W' := ⟨_, [], [(k, 0)], h.1, ⟨rfl, rfl⟩, by simp, irw_none W', h.2⟩
theorem TRes.err {k : Int} (hk : ¬ k = 0) {W : World} {e : Ending} {W' : World} (h : e = .returned (.agg #[.slice none 0 0, .int .i64 k, .int .i64 0, .bool false]) ∧ Below W.heap.size W W') : TRes (PE k) W e W' := ⟨_, [], [(k, 0)], k, 0, false, h.1, ⟨rfl, rfl⟩, .inr (.inr ⟨hk, rfl, rfl, rfl⟩), irw_none W', h.2⟩
set_option maxRecDepth 100000 in
set_option maxHeartbeats 2000000 in
theorem lists_any (x : Cfg) (A : Option Addr) (M cap : Nat) (cls : Int) (P : List Int → List (Int × Int) → Prop) (hP : ∀ L E L' E', P L E → P L' E' → L = L' ∧ E = E') (w : World) (hE : Cs.ErrT w)
    (h1 : ∀ W, Below w.heap.size w W → Calls Tryz.prog 10 #[(.agg #[.int .i64 x.t, .int .i64 x.s, .int .i64 x.l, .int .i64 x.c, .int .i64 x.s0, .int .i64 x.n0, .int .i64 x.s1, .int .i64 x.n1, .int .i64 x.r]), .slice A M cap, .int .i64 cls] W (LRes P W)) (h2 : ∀ W, Below w.heap.size w W → Calls Tryz.prog 20 #[(.agg #[.int .i64 x.t, .int .i64 x.s, .int .i64 x.l, .int .i64 x.c, .int .i64 x.s0, .int .i64 x.n0, .int .i64 x.s1, .int .i64 x.n1, .int .i64 x.r]), .slice A M cap, .int .i64 cls] W (TRes P W)) :
    Calls Tryz.prog 8 #[(.agg #[.int .i64 x.t, .int .i64 x.s, .int .i64 x.l, .int .i64 x.c, .int .i64 x.s0, .int .i64 x.n0, .int .i64 x.s1, .int .i64 x.n1, .int .i64 x.r]), .slice A M cap, .int .i64 cls] w fun e w' => e = .returned (.bool true) ∧ Below w.heap.size w w' := by
  have HE := Lib.hid hE
  have H1 := Lib.hid h1
  have H2 := Lib.hid h2
  have K0 : Hid (CfgAt (w.alloc (.cells #[.int .i64 x.t, .int .i64 x.s, .int .i64 x.l, .int .i64 x.c, .int .i64 x.s0, .int .i64 x.n0, .int .i64 x.s1, .int .i64 x.n1, .int .i64 x.r] 30)) w.heap.size x ∧ Below w.heap.size w (w.alloc (.cells #[.int .i64 x.t, .int .i64 x.s, .int .i64 x.l, .int .i64 x.c, .int .i64 x.s0, .int .i64 x.n0, .int .i64 x.s1, .int .i64 x.n1, .int .i64 x.r] 30))) := Lib.hid ⟨cfgAt_box w x, ((Below.refl _ _).alloc (Nat.le_refl _) _)⟩
  clear hE h1 h2
  go_enter Tryz.func8, Tryz.ntmps8
  go_wp2_with fail
  refine (H1.out _ K0.out.2).mono ?_
  rintro e w1 ⟨v, L, E, rfl, hp, hl, hi, hb⟩
  have K1 : Hid (CfgAt w1 w.heap.size x ∧ Below w.heap.size w w1) := Lib.hid ⟨K0.out.1.below hb, Below.step K0.out.2 hb K0.out.2.size⟩
  have HI := Lib.hid hi
  have HPL := Lib.hid hp
  obtain ⟨X, hX⟩ : ∃ X, X = Cs.enc E := ⟨_, rfl⟩
  rw [← hX]
  have HX := Lib.hid hX
  obtain ⟨c0, c1, c2, c3, c4, c5, c6, c7, c8⟩ := K1.out.1.cells
  clear hb hi hp hX K0
  go_wp2_with fail
  refine (H2.out _ K1.out.2).mono ?_
  rintro e w2 ⟨v', L', E', k, p, t, rfl, hp, hec, hi, hb⟩
  obtain ⟨rfl, rfl⟩ := hP _ _ _ _ HPL.out hp
  have HB2 := Lib.hid (Below.step K1.out.2 hb K1.out.2.size)
  have HI2 := Lib.hid (HI.out.below hb)
  have HI3 := Lib.hid hi
  have HEC := Lib.hid hec
  clear hb hi hp hec K1 HI c0 c1 c2 c3 c4 c5 c6 c7 c8
  go_wp2_with fail
  rw [HX.out]
  refine (told_any L hl E k p t HEC.out _ _ _ (HE.out.below HB2.out) HI2.out HI3.out).mono ?_
  rintro e w3 ⟨rfl, hb⟩
  have HB3 := Lib.hid (Below.step HB2.out hb HB2.out.size)
  clear hb
  go_wp2
  go_ret
  exact ⟨rfl, HB3.out⟩
set_option maxRecDepth 100000 in
set_option maxHeartbeats 2000000 in
theorem frees_any (x : Cfg) (A : Option Addr) (M cap : Nat) (P : List Int → List (Int × Int) → Prop) (hP : ∀ L E L' E', P L E → P L' E' → L = L' ∧ E = E') (w : World) (hE : Cs.ErrT w)
    (h1 : ∀ W, Below w.heap.size w W → Calls Tryz.prog 17 #[(.agg #[.int .i64 x.t, .int .i64 x.s, .int .i64 x.l, .int .i64 x.c, .int .i64 x.s0, .int .i64 x.n0, .int .i64 x.s1, .int .i64 x.n1, .int .i64 x.r]), .slice A M cap] W (LRes P W)) (h2 : ∀ W, Below w.heap.size w W → Calls Tryz.prog 19 #[(.agg #[.int .i64 x.t, .int .i64 x.s, .int .i64 x.l, .int .i64 x.c, .int .i64 x.s0, .int .i64 x.n0, .int .i64 x.s1, .int .i64 x.n1, .int .i64 x.r]), .slice A M cap] W (TRes P W)) :
    Calls Tryz.prog 7 #[(.agg #[.int .i64 x.t, .int .i64 x.s, .int .i64 x.l, .int .i64 x.c, .int .i64 x.s0, .int .i64 x.n0, .int .i64 x.s1, .int .i64 x.n1, .int .i64 x.r]), .slice A M cap] w fun e w' => e = .returned (.bool true) ∧ Below w.heap.size w w' := by
  have HE := Lib.hid hE
  have H1 := Lib.hid h1
  have H2 := Lib.hid h2
  have K0 : Hid (CfgAt (w.alloc (.cells #[.int .i64 x.t, .int .i64 x.s, .int .i64 x.l, .int .i64 x.c, .int .i64 x.s0, .int .i64 x.n0, .int .i64 x.s1, .int .i64 x.n1, .int .i64 x.r] 30)) w.heap.size x ∧ Below w.heap.size w (w.alloc (.cells #[.int .i64 x.t, .int .i64 x.s, .int .i64 x.l, .int .i64 x.c, .int .i64 x.s0, .int .i64 x.n0, .int .i64 x.s1, .int .i64 x.n1, .int .i64 x.r] 30))) := Lib.hid ⟨cfgAt_box w x, ((Below.refl _ _).alloc (Nat.le_refl _) _)⟩
  clear hE h1 h2
  go_enter Tryz.func7, Tryz.ntmps7
  go_wp2_with fail
  refine (H1.out _ K0.out.2).mono ?_
  rintro e w1 ⟨v, L, E, rfl, hp, hl, hi, hb⟩
  have K1 : Hid (CfgAt w1 w.heap.size x ∧ Below w.heap.size w w1) := Lib.hid ⟨K0.out.1.below hb, Below.step K0.out.2 hb K0.out.2.size⟩
  have HI := Lib.hid hi
  have HPL := Lib.hid hp
  obtain ⟨X, hX⟩ : ∃ X, X = Cs.enc E := ⟨_, rfl⟩
  rw [← hX]
  have HX := Lib.hid hX
  obtain ⟨c0, c1, c2, c3, c4, c5, c6, c7, c8⟩ := K1.out.1.cells
  clear hb hi hp hX K0
  go_wp2_with fail
  refine (H2.out _ K1.out.2).mono ?_
  rintro e w2 ⟨v', L', E', k, p, t, rfl, hp, hec, hi, hb⟩
  obtain ⟨rfl, rfl⟩ := hP _ _ _ _ HPL.out hp
  have HB2 := Lib.hid (Below.step K1.out.2 hb K1.out.2.size)
  have HI2 := Lib.hid (HI.out.below hb)
  have HI3 := Lib.hid hi
  have HEC := Lib.hid hec
  clear hb hi hp hec K1 HI c0 c1 c2 c3 c4 c5 c6 c7 c8
  go_wp2_with fail
  rw [HX.out]
  refine (told_any L hl E k p t HEC.out _ _ _ (HE.out.below HB2.out) HI2.out HI3.out).mono ?_
  rintro e w3 ⟨rfl, hb⟩
  have HB3 := Lib.hid (Below.step HB2.out hb HB2.out.size)
  clear hb
  go_wp2
  go_ret
  exact ⟨rfl, HB3.out⟩
set_option maxRecDepth 100000 in
set_option maxHeartbeats 4000000 in
theorem rfree_err (x : Cfg) (A : Option Addr) (N cw : Nat) (k : Int) (hk : ¬ k = 0) (w : World) (h : ∀ W, Below w.heap.size w W → Calls Tryz.prog 20 #[(.agg #[.int .i64 x.t, .int .i64 x.s, .int .i64 x.l, .int .i64 x.c, .int .i64 x.s0, .int .i64 x.n0, .int .i64 x.s1, .int .i64 x.n1, .int .i64 x.r]), .slice A N cw, .int .i64 0] W fun e W' => e = .returned (.agg #[.slice none 0 0, .int .i64 k, .int .i64 0, .bool false]) ∧ Below W.heap.size W W') : Calls Tryz.prog 19 #[(.agg #[.int .i64 x.t, .int .i64 x.s, .int .i64 x.l, .int .i64 x.c, .int .i64 x.s0, .int .i64 x.n0, .int .i64 x.s1, .int .i64 x.n1, .int .i64 x.r]), .slice A N cw] w fun e w' => e = .returned (.agg #[.slice none 0 0, .int .i64 k, .int .i64 0, .bool false]) ∧ Below w.heap.size w w' := by
  have H := Lib.hid h
  have dk : (k == 0) = false := by simpa using hk
  clear h hk
  have K0 := Lib.hid (RB.start w x)
  go_enter Tryz.func19, Tryz.ntmps19
  go_wp2_with fail
  generalize ((w.alloc (.cells #[.int .i64 x.t, .int .i64 x.s, .int .i64 x.l, .int .i64 x.c, .int .i64 x.s0, .int .i64 x.n0, .int .i64 x.s1, .int .i64 x.n1, .int .i64 x.r] 30)).alloc (.cells #[.slice none 0 0, .int .i64 0, .int .i64 0, .bool false] 62)) = Wa at K0 ⊢
  refine (H.out _ K0.out.be).mono ?_
  rintro e w1 ⟨rfl, hb⟩
  have K1 := Lib.hid (K0.out.below hb)
  clear hb K0
  have KX := Lib.hid (K1.out.below (W' := w1.alloc (.cells #[.slice none 0 0, .int .i64 k, .int .i64 0, .bool false] 62)) ((Below.refl _ _).alloc (Nat.le_refl _) _))
  have p0 := KX.out.res.cell (i := 0) (by omega)
  have p1 := KX.out.res.cell (i := 1) (by omega)
  have p2 := KX.out.res.cell (i := 2) (by omega)
  have p3 := KX.out.res.cell (i := 3) (by omega)
  simp only [toldZ] at p0 p1 p2 p3
  have fr := KX.out.res.frozen
  have hbx := told_box w1 (.slice none 0 0) k 0 false
  have b0 := hbx.cell (i := 0) (by omega)
  have b1 := hbx.cell (i := 1) (by omega)
  have b2 := hbx.cell (i := 2) (by omega)
  have b3 := hbx.cell (i := 3) (by omega)
  simp only [toldC] at b0 b1 b2 b3
  clear hbx
  go_upto_region 2 with (fail)
  generalize w1.alloc (.cells #[.slice none 0 0, .int .i64 k, .int .i64 0, .bool false] 62) = wb at KX p0 p1 p2 p3 fr b0 b1 b2 b3 ⊢
  go_wp2_with fail
  obtain ⟨q0, q1, q2, q3, q5⟩ := KX.out.put (.slice none 0 0) k 0 false
  clear p0 p1 p2 p3 b0 b1 b2 b3
  generalize (((wb.setCell ⟨w.heap.size + 1, 0, none⟩ (.slice none 0 0)).setCell ⟨w.heap.size + 1, 1, none⟩ (.int .i64 k)).setCell ⟨w.heap.size + 1, 2, none⟩ (.int .i64 0)).setCell ⟨w.heap.size + 1, 3, none⟩ (.bool false) = W9 at q0 q1 q2 q3 q5 ⊢
  exact bodyPost_ret (v := .agg #[.slice none 0 0, .int .i64 k, .int .i64 0, .bool false]) (by simp [results, Tryz.results19, go_sem, q0, q1, q2, q3]) rfl ⟨rfl, q5⟩

end Go.Proofs.YtkpffnihnhlghaaGreatDoor
