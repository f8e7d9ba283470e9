/- slices.Sort of a row that the call owns; heads.Free: what both lists have, rising, each once. -/
import Derived.Test.YtkpffnihnhlghaaGreatDoorHHas
import Derived.Sort.OwnSortedInts
import Derived.Shelf.SortM.Plain
import Derived.Shelf.SortM.SortNone
import Derived.Ground.SlgmProg
import Derived.Laws.AppendOwnNone
namespace Go.Proofs.YtkpffnihnhlghaaGreatDoor
open Go.RowKit Go.Sort Go.Shelf
def sortL_ren : Go.Shelf.Ren := ⟨fun | 5 => 33 | 8 => 55 | 7 => 54 | 19 => 74 | 20 => 75 | 10 => 65 | 11 => 66 | 12 => 67 | 13 => 68 | 14 => 69 | 15 => 70 | 16 => 71 | 17 => 72 | 18 => 73 | 30 => 77 | 31 => 78 | 32 => 79 | 33 => 80 | 34 => 81 | 35 => 82 | 40 => 83 | n => n, fun | 23 => 44 | 25 => 3 | 3 => 3 | 32 => 76 | 22 => 44 | 0 => 0 | 44 => 53 | 46 => 34 | 4 => 4 | 36 => 142 | 35 => 141 | 41 => 78 | 5 => 5 | 9 => 9 | 53 => 148 | 57 => 152 | 63 => 155 | 64 => 156 | n => n, fun | n => n⟩
theorem sortL : Go.Proofs.SlLaysM.n5 Tryz.prog sortL_ren :=
  { mixed := by kernel_rfl,
    f5 := ⟨Tryz.f33.name, by decide, Tryz.func33.trans (congrArg some (by kernel_rfl))⟩,
    f7 := ⟨Tryz.f54.name, by decide, Tryz.func54.trans (congrArg some (by kernel_rfl))⟩,
    f8 := Tryz.func55.trans (congrArg some (by kernel_rfl)),
    f10 := ⟨Tryz.f65.name, by decide, Tryz.func65.trans (congrArg some (by kernel_rfl))⟩,
    f11 := ⟨Tryz.f66.name, by decide, Tryz.func66.trans (congrArg some (by kernel_rfl))⟩,
    f12 := ⟨Tryz.f67.name, by decide, Tryz.func67.trans (congrArg some (by kernel_rfl))⟩,
    f13 := ⟨Tryz.f68.name, by decide, Tryz.func68.trans (congrArg some (by kernel_rfl))⟩,
    f14 := ⟨Tryz.f69.name, by decide, Tryz.func69.trans (congrArg some (by kernel_rfl))⟩,
    f15 := ⟨Tryz.f70.name, by decide, Tryz.func70.trans (congrArg some (by kernel_rfl))⟩,
    f16 := ⟨Tryz.f71.name, by decide, Tryz.func71.trans (congrArg some (by kernel_rfl))⟩,
    f17 := ⟨Tryz.f72.name, by decide, Tryz.func72.trans (congrArg some (by kernel_rfl))⟩,
    f18 := ⟨Tryz.f73.name, by decide, Tryz.func73.trans (congrArg some (by kernel_rfl))⟩,
    f19 := Tryz.func74.trans (congrArg some (by kernel_rfl)),
    f20 := Tryz.func75.trans (congrArg some (by kernel_rfl)),
    f30 := ⟨Tryz.f77.name, by decide, Tryz.func77.trans (congrArg some (by kernel_rfl))⟩,
    f31 := Tryz.func78.trans (congrArg some (by kernel_rfl)),
    f32 := Tryz.func79.trans (congrArg some (by kernel_rfl)),
    f33 := ⟨Tryz.f80.name, by decide, Tryz.func80.trans (congrArg some (by kernel_rfl))⟩,
    f34 := ⟨Tryz.f81.name, by decide, Tryz.func81.trans (congrArg some (by kernel_rfl))⟩,
    f35 := ⟨Tryz.f82.name, by decide, Tryz.func82.trans (congrArg some (by kernel_rfl))⟩,
    f40 := ⟨Tryz.f83.name, by decide, Tryz.func83.trans (congrArg some (by kernel_rfl))⟩,
    t0 := Tryz.underlying0,
    a0 := Tryz.isAgg0,
    z0 := Tryz.sizeOf0,
    v0 := Tryz.zeroValue0,
    t3 := Tryz.underlying3,
    a3 := Tryz.isAgg3,
    z3 := Tryz.sizeOf3,
    v3 := Tryz.zeroValue3,
    t4 := Tryz.underlying4,
    a4 := Tryz.isAgg4,
    z4 := Tryz.sizeOf4,
    v4 := Tryz.zeroValue4,
    t5 := Tryz.underlying5,
    a5 := Tryz.isAgg5,
    z5 := Tryz.sizeOf5,
    v5 := Tryz.zeroValue5,
    t9 := Tryz.underlying9,
    a9 := Tryz.isAgg9,
    z9 := Tryz.sizeOf9,
    v9 := Tryz.zeroValue9,
    t22 := Tryz.underlying44,
    a22 := Tryz.isAgg44,
    z22 := Tryz.sizeOf44,
    v22 := Tryz.zeroValue44,
    t23 := Tryz.underlying44,
    a23 := Tryz.isAgg44,
    z23 := Tryz.sizeOf44,
    v23 := Tryz.zeroValue44,
    t25 := Tryz.underlying3,
    a25 := Tryz.isAgg3,
    z25 := Tryz.sizeOf3,
    v25 := Tryz.zeroValue3,
    t32 := Tryz.underlying76,
    a32 := Tryz.isAgg76,
    z32 := Tryz.sizeOf76,
    v32 := Tryz.zeroValue76,
    t35 := Tryz.underlying141,
    a35 := Tryz.isAgg141,
    z35 := Tryz.sizeOf141,
    v35 := Tryz.zeroValue141,
    t36 := Tryz.underlying142,
    a36 := Tryz.isAgg142,
    z36 := Tryz.sizeOf142,
    v36 := Tryz.zeroValue142,
    t41 := Tryz.underlying78,
    a41 := Tryz.isAgg78,
    z41 := Tryz.sizeOf78,
    v41 := Tryz.zeroValue78,
    t44 := Tryz.underlying53,
    a44 := Tryz.isAgg53,
    z44 := Tryz.sizeOf53,
    v44 := Tryz.zeroValue53,
    t46 := Tryz.underlying34,
    a46 := Tryz.isAgg34,
    z46 := Tryz.sizeOf34,
    v46 := Tryz.zeroValue34,
    t53 := Tryz.underlying148,
    a53 := Tryz.isAgg148,
    z53 := Tryz.sizeOf148,
    v53 := Tryz.zeroValue148,
    t57 := Tryz.underlying152,
    a57 := Tryz.isAgg152,
    z57 := Tryz.sizeOf152,
    v57 := Tryz.zeroValue152,
    t63 := Tryz.underlying155,
    a63 := Tryz.isAgg155,
    z63 := Tryz.sizeOf155,
    v63 := Tryz.zeroValue155,
    t64 := Tryz.underlying156,
    a64 := Tryz.isAgg156,
    z64 := Tryz.sizeOf156,
    v64 := Tryz.zeroValue156 }

def srt (L : List Int) : List Int := L.mergeSort (fun x y => decide (x ≤ y))
theorem sort_some (blk off cap : Nat) (zs : List Int) (w : World) (hH : Holds (Value.int .i64) w blk off zs.toArray) (hblk : blk < w.heap.size) (hsz : zs.length < 4611686018427387904) :
    Calls Tryz.prog 33 #[.slice (some ⟨blk, off, none⟩) zs.length cap] w fun e w' =>
      e = .returned (.tuple #[]) ∧ ∃ n os, w' = grow (putRow (Value.int .i64) (Sort.ahead w n) blk off (zs.mergeSort fun x y => decide (x ≤ y)).toArray) os :=
  AnyM.slices_Sort_int sortL blk off cap zs w hH hblk hsz
theorem sort_none (p : Option Addr) (cap : Nat) (w : World) : Calls Tryz.prog 33 #[.slice p 0 cap] w fun e w' => e = .returned (.tuple #[]) ∧ w' = w := AnyM.slices_Sort_int_none sortL p cap w
theorem sort_any (L : List Int) (v : Value) (B : Nat) (w : World) (hlen : L.length < 1000000) (h : w.ownsRow B 3 1 v L.length (L.map (Value.int .i64))) : Calls Tryz.prog 33 #[v] w fun e w' => e = .returned (.tuple #[]) ∧ w'.ownsRow B 3 1 v (srt L).length ((srt L).map (Value.int .i64)) ∧ w.grownBy w' v.ownBlock := by
  rcases h with ⟨hl, (⟨hn, h0⟩ | ⟨g, cap, cur, e', b1, b2, b3, b4, b5, b6⟩)⟩
  · obtain rfl : L = [] := List.length_eq_zero_iff.1 h0
    subst hn
    refine (sort_none _ _ w).mono ?_
    rintro e w' ⟨rfl, rfl⟩
    exact ⟨rfl, by simpa [srt] using World.ownsRow_nil w' B 3 1, ⟨rfl, rfl, rfl, Nat.le_refl _, fun _ _ _ => rfl⟩⟩
  · subst e'
    have hlt : g < w.heap.size := (Array.getElem?_eq_some_iff.1 b2).1
    have hH := holds_of_blockI (ss := L) b2 (by simpa using b6)
    refine (sort_some g 0 cap L w hH hlt (by omega)).mono ?_
    rintro e w' ⟨rfl, n, os, rfl⟩
    have hls : (srt L).length = L.length := List.length_mergeSort L
    refine ⟨rfl, ?_, grownBy_sortedI (w := w) (g := g) (n := n) (os := os) (srt L).toArray⟩
    have h2 := ownsRow_sortedI (n := n) (os := os) (ss := L) (ts := srt L) hls b1 b2 b3 b4 b5
    rw [hls]
    exact h2
end Go.Proofs.YtkpffnihnhlghaaGreatDoor
namespace Go.Proofs.YtkpffnihnhlghaaGreatDoor
open Go.RowKit

/-- What the lists of the first k classes have. -/
def PreF (x : Cfg) (f : Nat → Nat) (k : Nat) (L : List Int) : Prop := (k = 0 ∧ L = []) ∨ (k = 1 ∧ ListR x f 0 L []) ∨ (k = 2 ∧ ∃ L0 L1, ListR x f 0 L0 [] ∧ ListR x f 1 L1 [] ∧ L = L0 ++ L1)
/-- What Free tells of a right config's words. -/
def FreeR (x : Cfg) (f : Nat → Nat) (L : List Int) (E : List (Int × Int)) : Prop :=
  (¬ E = [] ∧ L = [] ∧ ((∃ L0, ListR x f 0 L0 E) ∨ (∃ L0 L1, ListR x f 0 L0 [] ∧ ListR x f 1 L1 E))) ∨ (E = [] ∧ ∃ L0 L1, ListR x f 0 L0 [] ∧ ListR x f 1 L1 [] ∧ L = srt (L0 ++ L1))
def FreeP (x : Cfg) (f : Nat → Nat) (w : World) (e : Ending) (w' : World) : Prop := ∃ v L E, e = .returned (.tuple #[v, Cs.enc E]) ∧ FreeR x f L E ∧ w'.ownsRow w.heap.size 3 1 v L.length (L.map (Value.int .i64)) ∧ Below w.heap.size w w'
theorem PreF.next {x : Cfg} {f : Nat → Nat} {k : Nat} {L M : List Int} (hk : k < 2) (h : PreF x f k L) (hM : ListR x f k M []) : PreF x f (k + 1) (L ++ M) := by
  rcases h with ⟨rfl, rfl⟩ | ⟨rfl, h⟩ | ⟨rfl, _⟩
  · exact .inr (.inl ⟨rfl, by simpa using hM⟩)
  · exact .inr (.inr ⟨rfl, L, M, h, hM, rfl⟩)
  · omega
theorem PreF.bad {x : Cfg} {f : Nat → Nat} {k : Nat} {L M : List Int} {E : List (Int × Int)} (hk : k < 2) (h : PreF x f k L) (hM : ListR x f k M E) (hE : ¬ E = []) : FreeR x f [] E := by
  rcases h with ⟨rfl, rfl⟩ | ⟨rfl, h⟩ | ⟨rfl, _⟩
  · exact .inl ⟨hE, rfl, .inl ⟨M, hM⟩⟩
  · exact .inl ⟨hE, rfl, .inr ⟨L, M, h, hM⟩⟩
  · omega
theorem PreF.done {x : Cfg} {f : Nat → Nat} {L : List Int} (h : PreF x f 2 L) : FreeR x f (srt L) [] := by
  rcases h with ⟨h, _⟩ | ⟨h, _⟩ | ⟨_, L0, L1, h0, h1, rfl⟩
  · omega
  · omega
  · exact .inr ⟨rfl, L0, L1, h0, h1, rfl⟩
theorem PreF.few {x : Cfg} {f : Nat → Nat} {k : Nat} {L : List Int} (hn : ∀ c, 0 ≤ cntC x c ∧ cntC x c ≤ 100000) (h : PreF x f k L) : L.length ≤ 200000 := by
  rcases h with ⟨_, rfl⟩ | ⟨_, h⟩ | ⟨_, L0, L1, h0, h1, rfl⟩
  · simp
  · have h1 := (h.once (hn 0).1).1
    have h2 := (hn 0).2
    omega
  · have h2 := (h0.once (hn 0).1).1
    have h3 := (hn 0).2
    have h4 := (h1.once (hn 1).1).1
    have h5 := (hn 1).2
    rw [List.length_append]
    omega
/-- A config in its box, words, and a row of the call's own. -/
structure FH (w : World) (x : Cfg) (b o N : Nat) (f : Nat → Nat) (v : Value) (L : List Int) (W : World) : Prop where
  cfg : CfgAt W w.heap.size x
  wh : WH W b o N f
  be : Below w.heap.size w W
  own : W.ownsRow (w.heap.size + 1) 3 1 v L.length (L.map (Value.int .i64))
section
variable {w : World} {x : Cfg} {b o N : Nat} {f : Nat → Nat} {v v' : Value} {L M : List Int} {W W' : World}
theorem WH.of_block {W W' : World} {b o N : Nat} {f : Nat → Nat} (h : WH W b o N f) (hb : W'.heap[b]? = W.heap[b]?) (hs : W.heap.size ≤ W'.heap.size) : WH W' b o N f :=
  ⟨Nat.lt_of_lt_of_le h.lt hs, fun j hj => (World.cell?_of_block (w := W) (a := ⟨b, o + j, none⟩) hb).trans (h.cell j hj)⟩
theorem FH.below (h : FH w x b o N f v L W) (hb : Below W.heap.size W W') : FH w x b o N f v L W' :=
  ⟨h.cfg.below hb, h.wh.below hb, Below.step h.be hb h.be.size, own_turn h.own fun k o' e _ => (hb.block k (Array.getElem?_eq_some_iff.1 e).1).trans e⟩
theorem FH.base (h : FH w x b o N f v L W) : w.heap.size + 1 ≤ W.heap.size := h.cfg.lt
theorem FH.grown (hbw : b < w.heap.size) (h : FH w x b o N f v L W) (hg : W.grownBy W' v.ownBlock) : CfgAt W' w.heap.size x ∧ WH W' b o N f ∧ Below w.heap.size w W' := by
  have hoc := own_cells h.own
  have hB := h.base
  exact ⟨h.cfg.of_block (hg.block _ h.cfg.lt (fun e => by have := (hoc _ e.symm).1; omega)), h.wh.of_block (hg.block _ h.wh.lt (fun e => by have := (hoc _ e.symm).1; omega)) hg.size,
    h.be.grown hg (by omega) fun k e => by have := (hoc k e).1; omega⟩
theorem FH.appended (hbw : b < w.heap.size) (h : FH w x b o N f v L W) (hown : W'.ownsRow (w.heap.size + 1) 3 1 v' (L.length + M.length) (L.map (Value.int .i64) ++ M.map (Value.int .i64))) (hg : W.grownBy W' v.ownBlock) : FH w x b o N f v' (L ++ M) W' := by
  obtain ⟨h1, h2, h3⟩ := h.grown hbw hg
  exact ⟨h1, h2, h3, by rw [List.length_append, List.map_append]; exact hown⟩
end
set_option maxRecDepth 100000 in
set_option maxHeartbeats 4000000 in
theorem free_good (x : Cfg) (hr : Right x) (hn : ∀ c, 0 ≤ cntC x c ∧ cntC x c ≤ 100000) (b o N cw : Nat) (hN : sizeC x = (N : Int)) (f : Nat → Nat) (w : World) (hL : Lim w) (hw : WH w b o N f) : Calls Tryz.prog 17 #[(.agg #[.int .i64 x.t, .int .i64 x.s, .int .i64 x.l, .int .i64 x.c, .int .i64 x.s0, .int .i64 x.n0, .int .i64 x.s1, .int .i64 x.n1, .int .i64 x.r]), .slice (some ⟨b, o, none⟩) N cw] w (FreeP x f w) := by
  have HL := Lib.hid hL
  have HR := Lib.hid hr
  have HNN := Lib.hid hN
  have HCN := Lib.hid hn
  have hbw := hw.lt
  have K0 : Hid (FH w x b o N f (.slice none 0 0) [] (w.alloc (.cells #[.int .i64 x.t, .int .i64 x.s, .int .i64 x.l, .int .i64 x.c, .int .i64 x.s0, .int .i64 x.n0, .int .i64 x.s1, .int .i64 x.n1, .int .i64 x.r] 30))) := Lib.hid ⟨cfgAt_box w x, hw.below ((Below.refl _ _).alloc (Nat.le_refl _) _), ((Below.refl _ _).alloc (Nat.le_refl _) _), World.ownsRow_nil _ _ _ _⟩
  clear hL hr hN hn hw
  go_enter Tryz.func17, Tryz.ntmps17
  go_wp2_with fail
  generalize w.alloc (.cells #[.int .i64 x.t, .int .i64 x.s, .int .i64 x.l, .int .i64 x.c, .int .i64 x.s0, .int .i64 x.n0, .int .i64 x.s1, .int .i64 x.n1, .int .i64 x.r] 30) = Wa at K0 ⊢
  go_loopw [6, 10] (fun fv iv wq => ∃ (i : Nat) (L : List Int), i ≤ 2 ∧ iv = .int .i64 i ∧ Hid (PreF x f i L) ∧ Hid (FH w x b o N f fv L wq)) (fun _ iv _ => 2 - (intOf iv).toNat)
  case atStart => exact ⟨0, [], by omega, rfl, Lib.hid (.inl ⟨rfl, rfl⟩), K0⟩
  case round =>
    clear K0
    obtain ⟨i, L, hi, rfl, HP, K⟩ := hrel
    obtain ⟨Af, cf, ef⟩ := own_form K.out.own
    subst ef
    by_cases hin : i < 2
    · have g1 : (i : Int) < 2 := by omega
      obtain ⟨c0, c1, c2, c3, c4, c5, c6, c7, c8⟩ := K.out.cfg.cells
      go_wp2_with fail
      refine (list_good x HR.out i (by omega) b o N cw HNN.out f _ (HL.out.below K.out.be) K.out.wh).mono ?_
      rintro e w4 ⟨va, M, E, rfl, hLa, hoa, hb⟩
      have K4 := Lib.hid (K.out.below hb)
      have HRM := Lib.hid hLa
      have hfew := (HP.out.few HCN.out)
      obtain ⟨hlen, -, -, hE⟩ := hLa.once (HCN.out i).1
      have hcn := (HCN.out i).2
      have hml : M.length ≤ 100000 := by omega
      clear c0 c1 c2 c3 c4 c5 c6 c7 c8 K hb hLa hcn hlen
      rcases hE with rfl | ⟨rfl, p, kk, rfl, hkk⟩
      · rw [show Cs.enc [] = .nilIface from rfl]
        have HPN := Lib.hid (HP.out.next hin HRM.out)
        have hB4 := K4.out.base
        obtain ⟨i0, hi0, hz0, hz1, hz2⟩ := info_parts infoI
        rcases hoa with ⟨hl, (⟨hn, h0⟩ | ⟨g, cap, cur, e', b1, b2, b3, b4, b5, b6⟩)⟩
        · obtain rfl : M = [] := List.length_eq_zero_iff.1 h0
          subst hn
          rw [List.append_nil] at HPN
          go_wp2_with (at_builtin; refine wpList_append_own_none rfl _ _ 44 rfl (w.heap.size + 1) 3 i0 1 Tryz.underlying44 hi0 _ _ _ rfl K4.out.own rfl ?_)
          go_roundw
          case rel => exact ⟨i + 1, L, by omega, by go_num, HPN, K4⟩
          case measure => simp [intOf]; omega
        · subst e'
          have hcell : ∀ (j : Nat) (u : Value), (M.map (Value.int .i64))[j]? = some u → w4.cell? ((⟨g, 0, none⟩ : Addr).add j) = some u := World.ownsRow.cells (v := .slice (some ⟨g, 0, none⟩) M.length cap) (base := g) ⟨hl, .inr ⟨g, cap, cur, rfl, Nat.le_refl g, b2, b3, b4, b5, b6⟩⟩ rfl
          have HCE := Lib.hid hcell
          clear b6 b5 b4 b3 b2 b1 hcell hl
          go_wp2_with (at_builtin; refine wpList_append_own w4 rfl _ _ 44 rfl (w.heap.size + 1) 3 i0 (.int .i64 0) 1 8 Tryz.underlying44 hi0 hz0 hz1 hz2 rfl (by decide) _ _ _ rfl K4.out.own ⟨g, 0, none⟩ M.length cap (M.map (Value.int .i64)) rfl (by simp) HCE.out (by simp [Value.oneCell']) (by unfold maxLen; omega) (by omega) hB4 ?_; intro v' w5 hown5 hgrow _; have K5 := Lib.hid (K4.out.appended hbw hown5 hgrow); clear hown5 hgrow)
          go_roundw
          case rel => exact ⟨i + 1, L ++ M, by omega, by go_num, HPN, K5⟩
          case measure => simp [intOf]; omega
      · have hkk0 : ¬ kk = 0 := by omega
        obtain ⟨T, X, hX⟩ : ∃ T X, Cs.enc [(0, p), (kk, 0)] = .iface T X := by rw [Cs.enc_word]; exact ⟨_, _, rfl⟩
        have HX := Lib.hid hX
        rw [hX]
        clear hX
        go_wp2_with fail
        go_ret2
        exact ⟨.slice none 0 0, [], _, by rw [← HX.out]; rfl, HP.out.bad hin HRM.out (by simp), World.ownsRow_nil _ _ _ _, K4.out.be⟩
    · obtain rfl : i = 2 := by omega
      have g1 : ¬ ((2 : Nat) : Int) < 2 := by omega
      have hfew := HP.out.few HCN.out
      go_wp2_with fail
      refine (sort_any L _ _ _ (by omega) K.out.own).mono ?_
      rintro e w6 ⟨rfl, hown, hg⟩
      have K6 := Lib.hid (K.out.grown hbw hg)
      have HO := Lib.hid (own_mono hown (Nat.le_succ w.heap.size))
      clear hown hg
      go_wp2
      go_ret2
      exact ⟨_, srt L, [], rfl, HP.out.done, HO.out, K6.out.2.2⟩
end Go.Proofs.YtkpffnihnhlghaaGreatDoor
namespace Go.Proofs.YtkpffnihnhlghaaGreatDoor
open Go.RowKit

theorem take_nodup {L : List Int} (h : ∀ (i : Nat) (hi : i < L.length), ¬ L[i] ∈ L.take i) : L.Pairwise (· ≠ ·) := by
  rw [List.pairwise_iff_getElem]
  intro i j hi hj hij e
  apply h j hj
  rw [← e]
  have h2 : i < (L.take j).length := by rw [List.length_take]; omega
  have h3 := List.getElem_mem h2
  rwa [List.getElem_take] at h3
theorem srt_perm (L : List Int) : (srt L).Perm L := List.mergeSort_perm L _
theorem srt_len (L : List Int) : (srt L).length = L.length := (srt_perm L).length_eq
theorem srt_le (L : List Int) : (srt L).Pairwise (fun a b => a ≤ b) := by
  have h := List.pairwise_mergeSort (le := fun x y : Int => decide (x ≤ y)) (fun a b c h1 h2 => by simp at *; omega) (fun a b => by simp; omega) L
  exact h.imp fun h => by simpa using h
theorem srt_rising {L : List Int} (h : L.Pairwise (· ≠ ·)) (i : Nat) (h0 : 0 < i) (hi : i < (srt L).length) : (srt L)[i - 1]'(by omega) < (srt L)[i] := by
  have h1 := List.pairwise_iff_getElem.1 (srt_le L) (i - 1) i (by omega) hi (by omega)
  have h2 := List.pairwise_iff_getElem.1 (((srt_perm L).pairwise_iff (R := (· ≠ ·)) (fun h => Ne.symm h)).2 h) (i - 1) i (by omega) hi (by omega)
  omega
/-- Both lists: each number once. -/
theorem both_once {x : Cfg} {f : Nat → Nat} {L0 L1 : List Int} {E0 E1 : List (Int × Int)} (hn : ∀ c, 0 ≤ cntC x c) (h0 : ListR x f 0 L0 E0) (h1 : ListR x f 1 L1 E1) : (L0 ++ L1).Pairwise (· ≠ ·) := by
  obtain ⟨_, a1, a2, _⟩ := h0.once (hn 0)
  obtain ⟨_, b1, b2, _⟩ := h1.once (hn 1)
  rw [List.pairwise_append]
  refine ⟨take_nodup a2, take_nodup b2, fun a ha b hb e => ?_⟩
  obtain ⟨i, hi, rfl⟩ := List.getElem_of_mem ha
  obtain ⟨j, hj, e2⟩ := List.getElem_of_mem hb
  have h3 := a1 i hi
  have h4 := b1 j hj
  rw [e2, ← e] at h4
  rw [h3] at h4
  omega
theorem FreeR.first {x : Cfg} {f : Nat → Nat} {L L0 : List Int} {E E0 : List (Int × Int)} (h : FreeR x f L E) (h0 : ListR x f 0 L0 E0) (hE : ¬ E0 = []) : L = [] ∧ E = E0 := by
  rcases h with ⟨h1, rfl, (⟨M, hM⟩ | ⟨M, M', hM, _⟩)⟩ | ⟨rfl, M, M', hM, _, _⟩
  · exact ⟨rfl, (hM.unique h0).2⟩
  · exact absurd (h0.unique hM).2 hE
  · exact absurd (h0.unique hM).2 hE
theorem FreeR.second {x : Cfg} {f : Nat → Nat} {L L0 L1 : List Int} {E E1 : List (Int × Int)} (h : FreeR x f L E) (h0 : ListR x f 0 L0 []) (h1 : ListR x f 1 L1 E1) (hE : ¬ E1 = []) : L = [] ∧ E = E1 := by
  rcases h with ⟨h2, rfl, (⟨M, hM⟩ | ⟨M, M', _, hM⟩)⟩ | ⟨rfl, M, M', _, hM, _⟩
  · exact absurd (hM.unique h0).2 h2
  · exact ⟨rfl, (hM.unique h1).2⟩
  · exact absurd (h1.unique hM).2 hE
theorem FreeR.both {x : Cfg} {f : Nat → Nat} {L L0 L1 : List Int} {E : List (Int × Int)} (h : FreeR x f L E) (h0 : ListR x f 0 L0 []) (h1 : ListR x f 1 L1 []) : L = srt (L0 ++ L1) ∧ E = [] := by
  rcases h with ⟨h2, rfl, (⟨M, hM⟩ | ⟨M, M', _, hM⟩)⟩ | ⟨rfl, M, M', hM, hM', rfl⟩
  · exact absurd (hM.unique h0).2 h2
  · exact absurd (hM.unique h1).2 h2
  · rw [(hM.unique h0).1, (hM'.unique h1).1]; exact ⟨rfl, rfl⟩
/-- Of an arena as made, all blocks. -/
theorem FreeR.made {x : Cfg} (hr : Right x) {L : List Int} {E : List (Int × Int)} (h : FreeR x (madeF x) L E) : E = [] ∧ (L.length : Int) = x.n0 + x.n1 ∧ ∀ (i : Nat) (hi : i < L.length), L[i] = (i : Int) + 1 := by
  have hb := hr.b
  have c0 : cntC x 0 = x.n0 := rfl
  have c1 : cntC x 1 = x.n1 := rfl
  obtain ⟨rfl, rfl⟩ := h.both (made_list hr 0 (by omega)) (made_list hr 1 (by omega))
  have key : (List.range (cntC x 0).toNat).map (nthB x 0) ++ (List.range (cntC x 1).toNat).map (nthB x 1) = (List.range (x.n0 + x.n1).toNat).map (fun i : Nat => (i : Int) + 1) := by
    apply List.ext_getElem
    · simp [c0, c1]; omega
    · intro i h1 h2
      simp only [List.length_append, List.length_map, List.length_range] at h1
      rw [List.getElem_append]
      split
      · rename_i h3
        simp [nthB]; omega
      · rename_i h3
        simp [c0, c1] at h3 ⊢
        simp [nthB]; omega
  have hs : srt ((List.range (cntC x 0).toNat).map (nthB x 0) ++ (List.range (cntC x 1).toNat).map (nthB x 1)) = (List.range (x.n0 + x.n1).toNat).map (fun i : Nat => (i : Int) + 1) := by
    rw [key]
    apply List.mergeSort_of_pairwise
    rw [List.pairwise_iff_getElem]
    intro i j hi hj hij
    simp; omega
  rw [hs]
  refine ⟨rfl, by simp; omega, fun i hi => by simp⟩

end Go.Proofs.YtkpffnihnhlghaaGreatDoor
