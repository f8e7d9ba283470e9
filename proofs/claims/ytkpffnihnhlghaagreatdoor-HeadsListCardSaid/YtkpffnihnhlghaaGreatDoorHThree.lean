/- HeadsList: the law's walk. -/
import Derived.Test.YtkpffnihnhlghaaGreatDoorHLists
import Derived.Test.YtkpffnihnhlghaaGreatDoorHLaid
import Derived.Test.YtkpffnihnhlghaaGreatDoorHOpenS
import Derived.Deep.DeepCutAuto
namespace Go.Proofs.YtkpffnihnhlghaaGreatDoor
open Go.RowKit Go.Shelf
theorem zeroH_not : rightB zeroC = false := rightB_false fun h => by have := h.b; simp [zeroC] at this
theorem FreeR.uniq {x : Cfg} {f : Nat → Nat} (L : List Int) (E : List (Int × Int)) (L' : List Int) (E' : List (Int × Int)) (h : FreeR x f L E) (h' : FreeR x f L' E') : L = L' ∧ E = E' := by
  rcases h' with ⟨h1, rfl, ⟨L0, h2⟩ | ⟨L0, L1, h2, h3⟩⟩ | ⟨rfl, L0, L1, h2, h3, rfl⟩
  · exact h.first h2 h1
  · exact h.second h2 h3 h1
  · exact h.both h2 h3
theorem FreeR.len {x : Cfg} {f : Nat → Nat} {L : List Int} {E : List (Int × Int)} (hn : ∀ c, 0 ≤ cntC x c ∧ cntC x c ≤ 12) (h : FreeR x f L E) : L.length ≤ 1000 := by
  rcases h with ⟨-, rfl, -⟩ | ⟨-, L0, L1, h2, h3, rfl⟩
  · simp
  · have g0 := (h2.once (hn 0).1).1
    have g1 := (h3.once (hn 1).1).1
    have := hn 0
    have := hn 1
    rw [srt_len, List.length_append]; omega
theorem own_rowW {W : World} {B c N : Nat} {t : TypeId} {g : Nat → Value} (h : W.rowIs c t N g) (hB : B ≤ c) (hN : N ≤ 1000000) : W.ownsRow B t 1 (.slice (some ⟨c, 0, none⟩) N N) N ((List.range N).map g) := by
  obtain ⟨cur, h1, h2, h3⟩ := h
  refine ⟨by simp, .inr ⟨c, N, cur, rfl, hB, h1, Nat.le_refl _, by unfold maxLen; omega, by omega, ?_⟩⟩
  apply List.ext_getElem?
  intro i
  by_cases hi : i < N
  · have := h3 i hi
    simp [List.getElem?_take, hi, this]
  · have e : cur.toList.length = N := by simpa using h2
    rw [List.getElem?_eq_none (by simp; omega), List.getElem?_eq_none (by simp; omega)]
section
variable {x : Cfg} {A : Option Addr} {M cap : Nat}
theorem zero_free (A : Option Addr) (M cap : Nat) (w : World) (hE : Cs.ErrT w) (hL : Lim w) : Calls Tryz.prog 7 #[(.agg #[.int .i64 zeroC.t, .int .i64 zeroC.s, .int .i64 zeroC.l, .int .i64 zeroC.c, .int .i64 zeroC.s0, .int .i64 zeroC.n0, .int .i64 zeroC.s1, .int .i64 zeroC.n1, .int .i64 zeroC.r]), .slice A M cap] w fun e w' => e = .returned (.bool true) ∧ Below w.heap.size w w' :=
  frees_any zeroC A M cap (PE 1) PE.uniq w hE
    (fun W hb => (free_err zeroC A M cap 1 (by omega) W fun W2 hb2 => list_no zeroC zeroH_not 0 A M cap W2 ((hL.below hb).below hb2)).mono fun _ _ h => LRes.err h)
    (fun W hb => (rfree_err zeroC A M cap 1 (by omega) W fun W2 hb2 => rlist_no zeroC zeroH_not 0 A M cap W2).mono fun _ _ h => TRes.err (by omega) h)
theorem zero_list (A : Option Addr) (M cap : Nat) (cls : Int) (w : World) (hE : Cs.ErrT w) (hL : Lim w) : Calls Tryz.prog 8 #[(.agg #[.int .i64 zeroC.t, .int .i64 zeroC.s, .int .i64 zeroC.l, .int .i64 zeroC.c, .int .i64 zeroC.s0, .int .i64 zeroC.n0, .int .i64 zeroC.s1, .int .i64 zeroC.n1, .int .i64 zeroC.r]), .slice A M cap, .int .i64 cls] w fun e w' => e = .returned (.bool true) ∧ Below w.heap.size w w' :=
  lists_any zeroC A M cap cls (PE 1) PE.uniq w hE
    (fun W hb => (list_no zeroC zeroH_not cls A M cap W (hL.below hb)).mono fun _ _ h => LRes.err h)
    (fun W hb => (rlist_no zeroC zeroH_not cls A M cap W).mono fun _ _ h => TRes.err (by omega) h)
theorem out_list (x : Cfg) (hr : Right x) (A : Option Addr) (M cap : Nat) (cls : Int) (hc : cls < 0 ∨ 2 ≤ cls) (w : World) (hE : Cs.ErrT w) (hL : Lim w) : Calls Tryz.prog 8 #[(.agg #[.int .i64 x.t, .int .i64 x.s, .int .i64 x.l, .int .i64 x.c, .int .i64 x.s0, .int .i64 x.n0, .int .i64 x.s1, .int .i64 x.n1, .int .i64 x.r]), .slice A M cap, .int .i64 cls] w fun e w' => e = .returned (.bool true) ∧ Below w.heap.size w w' := by
  refine lists_any x A M cap cls (PE 1) PE.uniq w hE (fun W hb => ?_) (fun W hb => ?_)
  · rcases hc with hc | hc
    · exact (list_neg x hr cls hc A M cap W (hL.below hb)).mono fun _ _ h => LRes.err h
    · exact (list_big x hr cls hc A M cap W (hL.below hb)).mono fun _ _ h => LRes.err h
  · rcases hc with hc | hc
    · exact (rlist_neg x hr cls hc A M cap W).mono fun _ _ h => TRes.err (by omega) h
    · exact (rlist_big x hr cls (by omega) A M cap W).mono fun _ _ h => TRes.err (by omega) h
theorem len_list (x : Cfg) (hr : Right x) (A : Option Addr) (M cap : Nat) (hM : ¬ sizeC x = (M : Int)) (cls : Int) (w : World) (hE : Cs.ErrT w) (hL : Lim w) : Calls Tryz.prog 8 #[(.agg #[.int .i64 x.t, .int .i64 x.s, .int .i64 x.l, .int .i64 x.c, .int .i64 x.s0, .int .i64 x.n0, .int .i64 x.s1, .int .i64 x.n1, .int .i64 x.r]), .slice A M cap, .int .i64 cls] w fun e w' => e = .returned (.bool true) ∧ Below w.heap.size w w' := by
  by_cases hc : 0 ≤ cls ∧ cls ≤ 1
  · exact lists_any x A M cap cls (PE 23) PE.uniq w hE
      (fun W hb => (list_len x hr cls hc A M cap W (hL.below hb) hM).mono fun _ _ h => LRes.err h)
      (fun W hb => (rlist_len x hr cls hc A M cap W hM).mono fun _ _ h => TRes.err (by omega) h)
  · exact out_list x hr A M cap cls (by omega) w hE hL
theorem len_free (x : Cfg) (hr : Right x) (A : Option Addr) (M cap : Nat) (hM : ¬ sizeC x = (M : Int)) (w : World) (hE : Cs.ErrT w) (hL : Lim w) : Calls Tryz.prog 7 #[(.agg #[.int .i64 x.t, .int .i64 x.s, .int .i64 x.l, .int .i64 x.c, .int .i64 x.s0, .int .i64 x.n0, .int .i64 x.s1, .int .i64 x.n1, .int .i64 x.r]), .slice A M cap] w fun e w' => e = .returned (.bool true) ∧ Below w.heap.size w w' :=
  frees_any x A M cap (PE 23) PE.uniq w hE
    (fun W hb => (free_err x A M cap 23 (by omega) W fun W2 hb2 => list_len x hr 0 (by omega) A M cap W2 ((hL.below hb).below hb2) hM).mono fun _ _ h => LRes.err h)
    (fun W hb => (rfree_err x A M cap 23 (by omega) W fun W2 hb2 => rlist_len x hr 0 (by omega) A M cap W2 hM).mono fun _ _ h => TRes.err (by omega) h)
theorem good_list (x : Cfg) (hr : Right x) (b o N cap : Nat) (hN : sizeC x = (N : Int)) (f : Nat → Nat) (hf : ∀ j, j < N → f j < 18446744073709551616) (cls : Int) (w : World) (hE : Cs.ErrT w) (hL : Lim w) (hw : WH w b o N f) : Calls Tryz.prog 8 #[(.agg #[.int .i64 x.t, .int .i64 x.s, .int .i64 x.l, .int .i64 x.c, .int .i64 x.s0, .int .i64 x.n0, .int .i64 x.s1, .int .i64 x.n1, .int .i64 x.r]), .slice (some ⟨b, o, none⟩) N cap, .int .i64 cls] w fun e w' => e = .returned (.bool true) ∧ Below w.heap.size w w' := by
  by_cases hc : 0 ≤ cls ∧ cls ≤ 1
  · obtain ⟨m, rfl⟩ : ∃ m : Nat, cls = m := ⟨cls.toNat, by omega⟩
    have hcn : 0 ≤ cntC x m ∧ cntC x m ≤ 12 := by have := hr.b; unfold cntC; split <;> omega
    refine lists_any x _ N cap m (ListR x f m) (fun _ _ _ _ => ListR.unique) w hE (fun W hb => ?_) (fun W hb => ?_)
    · refine (list_good x hr m (by omega) b o N cap hN f W (hL.below hb) (hw.below hb)).mono ?_
      rintro e W' ⟨v, L, E, h1, h2, h3, h4⟩
      exact ⟨v, L, E, h1, h2, by have := (h2.once hcn.1).1; omega, own_irw h3, h4⟩
    · refine (rlist_good x hr m (by omega) b o N cap hN f W (hw.below hb) hf).mono ?_
      rintro e W' ⟨v, L, E, k, p, t, h1, h2, h5, h3, h4⟩
      exact ⟨v, L, E, k, p, t, h1, h2, h5, own_irw h3, h4⟩
  · exact out_list x hr _ N cap cls (by omega) w hE hL
theorem good_free (x : Cfg) (hr : Right x) (b o N cap : Nat) (hN : sizeC x = (N : Int)) (f : Nat → Nat) (hf : ∀ j, j < N → f j < 18446744073709551616) (w : World) (hE : Cs.ErrT w) (hL : Lim w) (hw : WH w b o N f) : Calls Tryz.prog 7 #[(.agg #[.int .i64 x.t, .int .i64 x.s, .int .i64 x.l, .int .i64 x.c, .int .i64 x.s0, .int .i64 x.n0, .int .i64 x.s1, .int .i64 x.n1, .int .i64 x.r]), .slice (some ⟨b, o, none⟩) N cap] w fun e w' => e = .returned (.bool true) ∧ Below w.heap.size w w' := by
  have hcn : ∀ c, 0 ≤ cntC x c ∧ cntC x c ≤ 12 := fun c => by have := hr.b; unfold cntC; split <;> omega
  refine frees_any x _ N cap (FreeR x f) FreeR.uniq w hE (fun W hb => ?_) (fun W hb => ?_)
  · refine (free_good x hr (fun c => ⟨(hcn c).1, Int.le_trans (hcn c).2 (by decide)⟩) b o N cap hN f W (hL.below hb) (hw.below hb)).mono ?_
    rintro e W' ⟨v, L, E, h1, h2, h3, h4⟩
    exact ⟨v, L, E, h1, h2, h2.len hcn, own_irw h3, h4⟩
  · refine (rfree_good x hr b o N cap hN f W (hw.below hb) hf).mono ?_
    rintro e W' ⟨v, L, E, k, p, t, h1, h2, h5, h3, h4⟩
    exact ⟨v, L, E, k, p, t, h1, h2, h5, own_irw h3, h4⟩
end
/-- A row of words that is told as the document tells it. -/
structure HH (w : World) (x : Cfg) (qc qa : Nat) (q0 : Int) (vw : Value) (W : World) : Prop where
  cfg : CfgAt W qc x
  cq : W.cell? ⟨qa, 0, none⟩ = some (.int .i64 q0)
  lq : qa < W.heap.size
  be : Below w.heap.size w W
  fr : ∀ W', Below W.heap.size W W' → Calls Tryz.prog 7 #[(.agg #[.int .i64 x.t, .int .i64 x.s, .int .i64 x.l, .int .i64 x.c, .int .i64 x.s0, .int .i64 x.n0, .int .i64 x.s1, .int .i64 x.n1, .int .i64 x.r]), vw] W' fun e W'' => e = .returned (.bool true) ∧ Below W'.heap.size W' W''
  fz : ∀ W', Below W.heap.size W W' → Calls Tryz.prog 7 #[(.agg #[.int .i64 zeroC.t, .int .i64 zeroC.s, .int .i64 zeroC.l, .int .i64 zeroC.c, .int .i64 zeroC.s0, .int .i64 zeroC.n0, .int .i64 zeroC.s1, .int .i64 zeroC.n1, .int .i64 zeroC.r]), vw] W' fun e W'' => e = .returned (.bool true) ∧ Below W'.heap.size W' W''
  ls : ∀ W' (cls : Int), Below W.heap.size W W' → Calls Tryz.prog 8 #[(.agg #[.int .i64 x.t, .int .i64 x.s, .int .i64 x.l, .int .i64 x.c, .int .i64 x.s0, .int .i64 x.n0, .int .i64 x.s1, .int .i64 x.n1, .int .i64 x.r]), vw, .int .i64 cls] W' fun e W'' => e = .returned (.bool true) ∧ Below W'.heap.size W' W''
  lz : ∀ W', Below W.heap.size W W' → Calls Tryz.prog 8 #[(.agg #[.int .i64 zeroC.t, .int .i64 zeroC.s, .int .i64 zeroC.l, .int .i64 zeroC.c, .int .i64 zeroC.s0, .int .i64 zeroC.n0, .int .i64 zeroC.s1, .int .i64 zeroC.n1, .int .i64 zeroC.r]), vw, .int .i64 0] W' fun e W'' => e = .returned (.bool true) ∧ Below W'.heap.size W' W''
theorem HH.below {w : World} {x : Cfg} {qc qa : Nat} {q0 : Int} {vw : Value} {W W' : World} (h : HH w x qc qa q0 vw W) (hb : Below W.heap.size W W') : HH w x qc qa q0 vw W' :=
  ⟨h.cfg.below hb, (hb.cell (p := ⟨qa, 0, none⟩) h.lq).trans h.cq, Nat.lt_of_lt_of_le h.lq hb.size, Below.step h.be hb h.be.size, fun W2 h2 => h.fr W2 (Below.step hb h2 hb.size), fun W2 h2 => h.fz W2 (Below.step hb h2 hb.size), fun W2 c h2 => h.ls W2 c (Below.step hb h2 hb.size), fun W2 h2 => h.lz W2 (Below.step hb h2 hb.size)⟩
theorem HH.len {w : World} {x : Cfg} {qc qa : Nat} {q0 : Int} {W : World} (hr : Right x) (hE : Cs.ErrT w) (hL : Lim w) (A : Option Addr) (M cap : Nat) (hM : ¬ sizeC x = (M : Int)) (cfg : CfgAt W qc x) (cq : W.cell? ⟨qa, 0, none⟩ = some (.int .i64 q0)) (lq : qa < W.heap.size) (be : Below w.heap.size w W) : HH w x qc qa q0 (.slice A M cap) W :=
  ⟨cfg, cq, lq, be, fun W2 h2 => len_free x hr A M cap hM W2 ((hE.below be).below h2) ((hL.below be).below h2), fun W2 h2 => zero_free A M cap W2 ((hE.below be).below h2) ((hL.below be).below h2), fun W2 c h2 => len_list x hr A M cap hM c W2 ((hE.below be).below h2) ((hL.below be).below h2), fun W2 h2 => zero_list A M cap 0 W2 ((hE.below be).below h2) ((hL.below be).below h2)⟩
theorem HH.good {w : World} {x : Cfg} {qc qa : Nat} {q0 : Int} {W : World} (hr : Right x) (hE : Cs.ErrT w) (hL : Lim w) (b o N cap : Nat) (hN : sizeC x = (N : Int)) (f : Nat → Nat) (hf : ∀ j, j < N → f j < 18446744073709551616) (hw : WH W b o N f) (cfg : CfgAt W qc x) (cq : W.cell? ⟨qa, 0, none⟩ = some (.int .i64 q0)) (lq : qa < W.heap.size) (be : Below w.heap.size w W) : HH w x qc qa q0 (.slice (some ⟨b, o, none⟩) N cap) W :=
  ⟨cfg, cq, lq, be, fun W2 h2 => good_free x hr b o N cap hN f hf W2 ((hE.below be).below h2) ((hL.below be).below h2) (hw.below h2), fun W2 h2 => zero_free _ N cap W2 ((hE.below be).below h2) ((hL.below be).below h2), fun W2 c h2 => good_list x hr b o N cap hN f hf c W2 ((hE.below be).below h2) ((hL.below be).below h2) (hw.below h2), fun W2 h2 => zero_list _ N cap 0 W2 ((hE.below be).below h2) ((hL.below be).below h2)⟩

end Go.Proofs.YtkpffnihnhlghaaGreatDoor

namespace Go.Proofs.YtkpffnihnhlghaaGreatDoor
open Go.RowKit Go.Shelf
theorem own_cellsW {W : World} {B e n : Nat} {v : Value} {xs : List Value} (h : W.ownsRow B e 1 v n xs) : ∀ r, v.ownBlock = some r → B ≤ r := by
  rcases h with ⟨hl, (⟨rfl, h0⟩ | ⟨g, cap, cur, rfl, b1, b2, b3⟩)⟩
  · intro r e; simp [Value.ownBlock] at e
  · intro r e
    obtain rfl : g = r := by simpa [Value.ownBlock] using e
    exact b1
/-- The law's arguments, in their boxes. -/
structure LB (w : World) (a0 a1 a2 a3 q0 q1 : Int) (W : World) : Prop where
  l : ArrAt W w.heap.size 22 #[.int .i64 a0, .int .i64 a1, .int .i64 a2, .int .i64 a3]
  q : ArrAt W (w.heap.size + 1) 24 #[.int .i64 q0, .int .i64 q1]
  be : Below w.heap.size w W
theorem LB.below {w : World} {a0 a1 a2 a3 q0 q1 : Int} {W W' : World} (h : LB w a0 a1 a2 a3 q0 q1 W) (hb : Below W.heap.size W W') : LB w a0 a1 a2 a3 q0 q1 W' := ⟨h.l.below hb, h.q.below hb, Below.step h.be hb h.be.size⟩
theorem LB.all {w : World} {a0 a1 a2 a3 q0 q1 : Int} {W : World} (h : LB w a0 a1 a2 a3 q0 q1 W) : W.cell? ⟨w.heap.size, 0, none⟩ = some (.int .i64 a0) ∧ W.cell? ⟨w.heap.size, 1, none⟩ = some (.int .i64 a1) ∧ W.cell? ⟨w.heap.size, 2, none⟩ = some (.int .i64 a2) ∧ W.cell? ⟨w.heap.size, 3, none⟩ = some (.int .i64 a3) ∧ W.cell? ⟨w.heap.size + 1, 0, none⟩ = some (.int .i64 q0) ∧ W.cell? ⟨w.heap.size + 1, 1, none⟩ = some (.int .i64 q1) :=
  ⟨World.rowIs.cell h.l (i := 0) (by simp), World.rowIs.cell h.l (i := 1) (by simp), World.rowIs.cell h.l (i := 2) (by simp), World.rowIs.cell h.l (i := 3) (by simp), World.rowIs.cell h.q (i := 0) (by simp), World.rowIs.cell h.q (i := 1) (by simp)⟩
set_option maxRecDepth 100000 in
set_option maxHeartbeats 16000000 in
theorem lawList_any (a0 a1 a2 a3 q0 q1 : Int) (A : Option Addr) (L cap : Nat) (g : Nat → S5) (w : World) (hE : Cs.ErrT w) (hL : Lim w) (hs : SRow w A L g) : Calls Tryz.prog 3 #[.agg #[.int .i64 a0, .int .i64 a1, .int .i64 a2, .int .i64 a3], .slice A L cap, .agg #[.int .i64 q0, .int .i64 q1]] w fun e w' => e = .returned (.bool true) ∧ Below w.heap.size w w' := by
  have HE := Lib.hid hE
  have HL := Lib.hid hL
  have HS := Lib.hid hs
  clear hE hL hs
  have HB0 : Hid (LB w a0 a1 a2 a3 q0 q1 ((w.alloc (.cells #[.int .i64 a0, .int .i64 a1, .int .i64 a2, .int .i64 a3] 22)).alloc (.cells #[.int .i64 q0, .int .i64 q1] 24))) := Lib.hid ⟨(arrAt_box w _ _).alloc _, by
    have h := arrAt_box (w.alloc (.cells #[.int .i64 a0, .int .i64 a1, .int .i64 a2, .int .i64 a3] 22)) #[.int .i64 q0, .int .i64 q1] 24
    simp only [World.size_alloc] at h
    exact h, by (repeat (first | with_reducible exact Below.refl _ _ | with_reducible refine Below.drew ?_ | (with_reducible refine Below.setCell ?_ ?side _; case side => exact (by first | (simp; done) | (simp; omega) | omega)) | (with_reducible refine Below.alloc ?_ ?side _; case side => exact (by first | (simp; done) | (simp; omega) | omega))))⟩
  go_enter Tryz.func3, Tryz.ntmps3
  go_wp2_with fail
  generalize (w.alloc (.cells #[.int .i64 a0, .int .i64 a1, .int .i64 a2, .int .i64 a3] 22)).alloc (.cells #[.int .i64 q0, .int .i64 q1] 24) = Wa at HB0 ⊢
  refine (awake10_any _ (HE.out.below HB0.out.be) (HL.out.below HB0.out.be)).mono ?_
  rintro e w1 ⟨rfl, hb⟩
  have HB1 := Lib.hid (HB0.out.below hb)
  obtain ⟨x0, x1, x2, x3, y0, y1⟩ := HB1.out.all
  clear hb HB0
  go_wp2_with fail
  refine (cfg10_any a0 a1 a2 a3 _).mono ?_
  rintro e w2 ⟨x, rfl, hr, -, -, hn0, hn1, hb⟩
  have HB2 := Lib.hid (HB1.out.below hb)
  have HR := Lib.hid hr
  obtain ⟨N, hN⟩ : ∃ N : Nat, sizeC x = (N : Int) := ⟨(sizeC x).toNat, by have := hr.sizes; omega⟩
  have HNN := Lib.hid hN
  have N1 : 7 ≤ N := by have := hr.sizes; omega
  have N2 : N ≤ 2869 := by have := hr.sizes; omega
  clear hr hN hb HB1 x0 x1 x2 x3 y0 y1 hn0 hn1
  have HCB := Lib.hid (cfgAt_box w2 x)
  have HB2' := Lib.hid (HB2.out.below (W' := w2.alloc (.cells #[.int .i64 x.t, .int .i64 x.s, .int .i64 x.l, .int .i64 x.c, .int .i64 x.s0, .int .i64 x.n0, .int .i64 x.s1, .int .i64 x.n1, .int .i64 x.r] 30)) ((Below.refl _ _).alloc (Nat.le_refl _) _))
  obtain ⟨c0, c1, c2, c3, c4, c5, c6, c7, c8⟩ := HCB.out.cells
  go_wp2_with fail
  generalize w2.alloc (.cells #[.int .i64 x.t, .int .i64 x.s, .int .i64 x.l, .int .i64 x.c, .int .i64 x.s0, .int .i64 x.n0, .int .i64 x.s1, .int .i64 x.n1, .int .i64 x.r] 30) = Wb at HCB HB2' c0 c1 c2 c3 c4 c5 c6 c7 c8 ⊢
  generalize w2.heap.size = qc at HCB c0 c1 c2 c3 c4 c5 c6 c7 c8 ⊢
  refine (laid_full x N A L cap g _ HR.out HNN.out (HS.out.below HB2'.out.be)).mono ?_
  rintro e w3 ⟨c, f, rfl, hwh, hlt, hc, hb, hrow⟩
  have HB3 := Lib.hid (HB2'.out.below hb)
  have HC3 := Lib.hid (HCB.out.below hb)
  have HWH := Lib.hid hwh
  have HLT := Lib.hid hlt
  have HOW := Lib.hid (own_rowW (B := Wb.heap.size) hrow hc (by omega))
  have HBW := Lib.hid hb
  clear hwh hlt hrow hb HB2 c0 c1 c2 c3 c4 c5 c6 c7 c8
  obtain ⟨x0, x1, x2, x3, y0, y1⟩ := HB3.out.all
  have hqa : w.heap.size + 1 < w3.heap.size := World.rowIs.lt HB3.out.q
  obtain ⟨m3, hm3, h3⟩ := and_mask q1 3 (by omega)
  have h3' : bits .and .i64 q1 3 = (m3 : Int) := h3
  clear h3
  obtain ⟨i0, hi, hz0, hz1, hz2⟩ := info_parts info_u64
  by_cases h0 : m3 = 0
  · subst h0
    have gN : ((N : Int) - 1) = ((N - 1 : Nat) : Int) := by omega
    have K := Lib.hid (HH.len (q0 := q0) HR.out HE.out HL.out (some ⟨c, 0, none⟩) (N - 1) N (by have := HNN.out; omega) HC3.out y0 hqa HB3.out.be)
    clear HB3 HWH HLT HOW HC3
    go_upto_region 8 with (fail)
    clear x0 x1 x2 x3 y0 y1
    obtain ⟨c0, c1, c2, c3, c4, c5, c6, c7, c8⟩ := K.out.cfg.cells
    have cq := K.out.cq
    go_wp2_with fail
    refine (K.out.fr _ (Below.refl _ _)).mono ?_
    rintro e v1 ⟨rfl, hb⟩
    replace K := Lib.hid (K.out.below hb)
    clear hb c0 c1 c2 c3 c4 c5 c6 c7 c8 cq
    obtain ⟨c0, c1, c2, c3, c4, c5, c6, c7, c8⟩ := K.out.cfg.cells
    have cq := K.out.cq
    go_wp2_with fail
    refine (K.out.fz _ (Below.refl _ _)).mono ?_
    rintro e v2 ⟨rfl, hb⟩
    replace K := Lib.hid (K.out.below hb)
    clear hb c0 c1 c2 c3 c4 c5 c6 c7 c8 cq
    obtain ⟨c0, c1, c2, c3, c4, c5, c6, c7, c8⟩ := K.out.cfg.cells
    have cq := K.out.cq
    go_wp2_with fail
    refine (K.out.ls _ 0 (Below.refl _ _)).mono ?_
    rintro e v3 ⟨rfl, hb⟩
    replace K := Lib.hid (K.out.below hb)
    clear hb c0 c1 c2 c3 c4 c5 c6 c7 c8 cq
    obtain ⟨c0, c1, c2, c3, c4, c5, c6, c7, c8⟩ := K.out.cfg.cells
    have cq := K.out.cq
    go_wp2_with fail
    refine (K.out.ls _ 1 (Below.refl _ _)).mono ?_
    rintro e v4 ⟨rfl, hb⟩
    replace K := Lib.hid (K.out.below hb)
    clear hb c0 c1 c2 c3 c4 c5 c6 c7 c8 cq
    obtain ⟨c0, c1, c2, c3, c4, c5, c6, c7, c8⟩ := K.out.cfg.cells
    have cq := K.out.cq
    go_wp2_with fail
    refine (K.out.ls _ q0 (Below.refl _ _)).mono ?_
    rintro e v5 ⟨rfl, hb⟩
    replace K := Lib.hid (K.out.below hb)
    clear hb c0 c1 c2 c3 c4 c5 c6 c7 c8 cq
    obtain ⟨c0, c1, c2, c3, c4, c5, c6, c7, c8⟩ := K.out.cfg.cells
    have cq := K.out.cq
    go_wp2_with fail
    refine (K.out.lz _ (Below.refl _ _)).mono ?_
    rintro e v6 ⟨rfl, hb⟩
    replace K := Lib.hid (K.out.below hb)
    clear hb c0 c1 c2 c3 c4 c5 c6 c7 c8 cq
    obtain ⟨c0, c1, c2, c3, c4, c5, c6, c7, c8⟩ := K.out.cfg.cells
    have cq := K.out.cq
    go_wp2
    go_ret
    exact ⟨rfl, K.out.be⟩
  by_cases h1 : m3 = 1
  · subst h1
    have hz3 := HBW.out.size
    go_wp2_with (at_builtin; refine wpList_append_own _ rfl _ _ 32 rfl Wb.heap.size 34 i0 (.int .u64 0) 1 8 Tryz.underlying32 hi hz0 hz1 hz2 rfl (by decide) _ _ _ rfl (HOW.out.alloc _) ⟨w3.heap.size, 0, none⟩ 1 1 [.int .u64 0] rfl rfl (cell_one_new _ _ _) (by simp [Value.oneCell']) (by unfold maxLen; omega) (by omega) (by simp; omega) ?_; intro v' w9 hown5 hgrow _; obtain ⟨g', cap', rfl⟩ := ownsRow_succ hown5; have hb9 := (HBW.out.alloc hz3 (.cells #[.int .u64 0] 34)).grown hgrow (by simp; omega) (fun r e => (own_cellsW HOW.out r e)); have KL := Lib.hid (HB2'.out.below hb9); have K := Lib.hid (HH.len (q0 := q0) HR.out HE.out HL.out (some ⟨g', 0, none⟩) (N + 1) cap' (by have := HNN.out; omega) (HCB.out.below hb9) KL.out.all.2.2.2.2.1 (World.rowIs.lt KL.out.q) KL.out.be); clear hown5 hgrow hb9 KL x0 x1 x2 x3 y0 y1; obtain ⟨c0, c1, c2, c3, c4, c5, c6, c7, c8⟩ := K.out.cfg.cells; have cq := K.out.cq)
    refine (K.out.fr _ (Below.refl _ _)).mono ?_
    rintro e v1 ⟨rfl, hb⟩
    replace K := Lib.hid (K.out.below hb)
    clear hb c0 c1 c2 c3 c4 c5 c6 c7 c8 cq
    obtain ⟨c0, c1, c2, c3, c4, c5, c6, c7, c8⟩ := K.out.cfg.cells
    have cq := K.out.cq
    go_wp2_with fail
    refine (K.out.fz _ (Below.refl _ _)).mono ?_
    rintro e v2 ⟨rfl, hb⟩
    replace K := Lib.hid (K.out.below hb)
    clear hb c0 c1 c2 c3 c4 c5 c6 c7 c8 cq
    obtain ⟨c0, c1, c2, c3, c4, c5, c6, c7, c8⟩ := K.out.cfg.cells
    have cq := K.out.cq
    go_wp2_with fail
    refine (K.out.ls _ 0 (Below.refl _ _)).mono ?_
    rintro e v3 ⟨rfl, hb⟩
    replace K := Lib.hid (K.out.below hb)
    clear hb c0 c1 c2 c3 c4 c5 c6 c7 c8 cq
    obtain ⟨c0, c1, c2, c3, c4, c5, c6, c7, c8⟩ := K.out.cfg.cells
    have cq := K.out.cq
    go_wp2_with fail
    refine (K.out.ls _ 1 (Below.refl _ _)).mono ?_
    rintro e v4 ⟨rfl, hb⟩
    replace K := Lib.hid (K.out.below hb)
    clear hb c0 c1 c2 c3 c4 c5 c6 c7 c8 cq
    obtain ⟨c0, c1, c2, c3, c4, c5, c6, c7, c8⟩ := K.out.cfg.cells
    have cq := K.out.cq
    go_wp2_with fail
    refine (K.out.ls _ q0 (Below.refl _ _)).mono ?_
    rintro e v5 ⟨rfl, hb⟩
    replace K := Lib.hid (K.out.below hb)
    clear hb c0 c1 c2 c3 c4 c5 c6 c7 c8 cq
    obtain ⟨c0, c1, c2, c3, c4, c5, c6, c7, c8⟩ := K.out.cfg.cells
    have cq := K.out.cq
    go_wp2_with fail
    refine (K.out.lz _ (Below.refl _ _)).mono ?_
    rintro e v6 ⟨rfl, hb⟩
    replace K := Lib.hid (K.out.below hb)
    clear hb c0 c1 c2 c3 c4 c5 c6 c7 c8 cq
    obtain ⟨c0, c1, c2, c3, c4, c5, c6, c7, c8⟩ := K.out.cfg.cells
    have cq := K.out.cq
    go_wp2
    go_ret
    exact ⟨rfl, K.out.be⟩
  · have d0 : ((m3 : Int) == 0) = false := by simp; omega
    have d1 : ((m3 : Int) == 1) = false := by simp; omega
    have K := Lib.hid (HH.good (q0 := q0) HR.out HE.out HL.out c 0 N N HNN.out f HLT.out HWH.out HC3.out y0 hqa HB3.out.be)
    clear HB3 HWH HLT HOW HC3
    go_upto_region 8 with (fail)
    clear x0 x1 x2 x3 y0 y1
    obtain ⟨c0, c1, c2, c3, c4, c5, c6, c7, c8⟩ := K.out.cfg.cells
    have cq := K.out.cq
    go_wp2_with fail
    refine (K.out.fr _ (Below.refl _ _)).mono ?_
    rintro e v1 ⟨rfl, hb⟩
    replace K := Lib.hid (K.out.below hb)
    clear hb c0 c1 c2 c3 c4 c5 c6 c7 c8 cq
    obtain ⟨c0, c1, c2, c3, c4, c5, c6, c7, c8⟩ := K.out.cfg.cells
    have cq := K.out.cq
    go_wp2_with fail
    refine (K.out.fz _ (Below.refl _ _)).mono ?_
    rintro e v2 ⟨rfl, hb⟩
    replace K := Lib.hid (K.out.below hb)
    clear hb c0 c1 c2 c3 c4 c5 c6 c7 c8 cq
    obtain ⟨c0, c1, c2, c3, c4, c5, c6, c7, c8⟩ := K.out.cfg.cells
    have cq := K.out.cq
    go_wp2_with fail
    refine (K.out.ls _ 0 (Below.refl _ _)).mono ?_
    rintro e v3 ⟨rfl, hb⟩
    replace K := Lib.hid (K.out.below hb)
    clear hb c0 c1 c2 c3 c4 c5 c6 c7 c8 cq
    obtain ⟨c0, c1, c2, c3, c4, c5, c6, c7, c8⟩ := K.out.cfg.cells
    have cq := K.out.cq
    go_wp2_with fail
    refine (K.out.ls _ 1 (Below.refl _ _)).mono ?_
    rintro e v4 ⟨rfl, hb⟩
    replace K := Lib.hid (K.out.below hb)
    clear hb c0 c1 c2 c3 c4 c5 c6 c7 c8 cq
    obtain ⟨c0, c1, c2, c3, c4, c5, c6, c7, c8⟩ := K.out.cfg.cells
    have cq := K.out.cq
    go_wp2_with fail
    refine (K.out.ls _ q0 (Below.refl _ _)).mono ?_
    rintro e v5 ⟨rfl, hb⟩
    replace K := Lib.hid (K.out.below hb)
    clear hb c0 c1 c2 c3 c4 c5 c6 c7 c8 cq
    obtain ⟨c0, c1, c2, c3, c4, c5, c6, c7, c8⟩ := K.out.cfg.cells
    have cq := K.out.cq
    go_wp2_with fail
    refine (K.out.lz _ (Below.refl _ _)).mono ?_
    rintro e v6 ⟨rfl, hb⟩
    replace K := Lib.hid (K.out.below hb)
    clear hb c0 c1 c2 c3 c4 c5 c6 c7 c8 cq
    obtain ⟨c0, c1, c2, c3, c4, c5, c6, c7, c8⟩ := K.out.cfg.cells
    have cq := K.out.cq
    go_wp2
    go_ret
    exact ⟨rfl, K.out.be⟩

end Go.Proofs.YtkpffnihnhlghaaGreatDoor
