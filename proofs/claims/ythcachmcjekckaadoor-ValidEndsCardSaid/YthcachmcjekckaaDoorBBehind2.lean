/- What a field refers to is laid behind: the walks. -/
import Derived.Test.YthcachmcjekckaaDoorBBehind
import Derived.Deep.AppendLies
namespace Go.Proofs.YthcachmcjekckaaDoor
open Go.ChangeShapes Go.WideShapes Go.ChangeAt Go.RowKit
theorem wpList_append_none {P : Program} (w : World) {ops : Array Oper} {rest : List Oper} {o : Oper} {a : Act} {Q : Exit → Act → World → Prop} (hgd : o.guard = none) (s x : Operand) (t : TypeId) (ho : o.op = .call { callee := .builtin .append, args := #[s, x], argTypes := #[t, t] }) (e : TypeId) (i : TypeInfo) (ht : P.underlying t = some (.slice e)) (hi : P.info? e = some i) (base : Option Addr) (n c : Nat) (hle : n ≤ c) (hs : a.eval s = .slice base n c) (A : Option Addr) (cc : Nat) (hx : a.eval x = .slice A 0 cc) (h : wpList P ops Q rest (a.put o.dst (.slice base n c)) w) :
    wpList P ops Q (o :: rest) a w :=
  wpList_plain hgd fun _ hK => by
    have src : Src P i.size t (.slice A 0 cc) 0 [] w := ⟨.inl ⟨e, ht⟩, fun w' => rfl, by cases A <;> simp [Builtin.firstCells, loadCells, loadCellsFrom], by cases A <;> simp [Builtin.firstCells, loadCells, loadCellsFrom], by simp, fun _ h => by cases h⟩
    have hr := run_append_nothing w t t o.type e i ht hi base n c hle _ src
    unfold Oper.wp execOp
    simp only [ho, resolve, invoke, builtin, Sem.run_bind, Sem.run_pure, Result.andThen_ok, List.map_toArray, List.map_cons, List.map_nil, hs, hx, hr]
    exact hK _ _ h
theorem BW.le {q : Nat} {s : Sch} {A : Option Addr} {c : Nat} {L : List Nat} {g cap : Nat} {W : World} (h : BW q s A c L g cap W) : L.length ≤ cap := by
  rcases h.own.2 with ⟨e, _⟩ | ⟨g', cap', cur, e, _, _, h3, _⟩
  · cases e
  · injection e with e1 e2 e3; omega
/-- What layBehind does. -/
def Behind (s : Sch) (A : Option Addr) (c : Nat) (Ws W : World) (q g : Nat) (A2 : Option Addr) (y : Tr) (L2 : List Nat) : Ending → World → Prop := fun e W' => e = .returned (.tuple #[]) ∧ ∃ g2 cap2, EO Ws W q s A c (kidsX y) A2 g L2 g2 cap2 W'
theorem HB.start {Ws W : World} {q : Nat} {s : Sch} {A : Option Addr} {c g cap : Nat} {p k τ : Int} {y : Tr} {A1 : Option Addr} {k1 : Nat} {A2 : Option Addr} {k2 : Nat} {L : List Nat} (h : EO Ws W q s A c (kidsX y) A2 g L g cap W) (hn : NRow W (fun b => b ≠ q ∧ b ≠ g) A1 y.nl y.nf) : HB Ws W q s A c g p k τ y A1 k1 A2 k2 W.heap.size L g cap (W.alloc (.cells #[.int .i64 p, .int .i64 k, .int .i64 τ, .int .u64 (y.num : Nat), .string y.bs, .slice A1 y.nl k1, .slice A2 y.kl k2] 168)) :=
  ⟨h.below ((Below.refl _ _).alloc (Nat.le_refl _) _), hn.below ((Below.refl _ _).alloc (Nat.le_refl _) _), boxF_row W p k τ y A1 k1 A2 k2, by have := h.bw.box.lt; omega, by have := h.bw.gq; omega⟩
/-- Words were appended, and the box is told. -/
theorem HB.grown {Ws W : World} {q : Nat} {s : Sch} {A : Option Addr} {c g : Nat} {p k τ : Int} {y : Tr} {A1 : Option Addr} {k1 : Nat} {A2 : Option Addr} {k2 : Nat} {fq : Nat} {L' M : List Nat} {g' cap' : Nat} {V : World} (H : Hid (HB Ws W q s A c g p k τ y A1 k1 A2 k2 fq L' g' cap' V)) {g2 cap2 n : Nat} {w1 : World} (hg : V.grownBy w1 (some g')) (hn : n = (L' ++ M).length) (hat : some g' = some g2 ∨ g2 = V.heap.size) (ho : w1.ownsRow 0 28 1 (.slice (some ⟨g2, 0, none⟩) n cap2) n (wcells L' ++ wcells M)) :
    ∃ g3 cap3, EO Ws W q s A c (kidsX y) A2 g (L' ++ M) g3 cap3 (w1.setCell ⟨q, 1, none⟩ (.slice (some ⟨g2, 0, none⟩) n cap2)) := by
  obtain ⟨t1, t2⟩ := H.out.eo.bw.grow (M := M) (V := V) (Below.refl _ _) hg hn hat ho
  exact ⟨g2, cap2, H.out.eo.step (by
    rcases hat with e | e
    · exact .inl (Option.some.inj e).symm
    · exact .inr (by omega)) t1 t2⟩
theorem HB.nothing {Ws W : World} {q : Nat} {s : Sch} {A : Option Addr} {c g : Nat} {p k τ : Int} {y : Tr} {A1 : Option Addr} {k1 : Nat} {A2 : Option Addr} {k2 : Nat} {fq : Nat} {L' : List Nat} {g' cap' : Nat} {V : World} (H : Hid (HB Ws W q s A c g p k τ y A1 k1 A2 k2 fq L' g' cap' V)) {M : List Nat} (hM : M = []) :
    ∃ g2 cap2, EO Ws W q s A c (kidsX y) A2 g (L' ++ M) g2 cap2 (V.setCell ⟨q, 1, none⟩ (.slice (some ⟨g', 0, none⟩) L'.length cap')) := by
  have hqne := H.out.eo.bw.ne
  refine ⟨g', cap', ?_⟩
  rw [hM, List.append_nil]
  exact (H.out.same (L2 := L') (cap2 := cap') ⟨(H.out.eo.bw.box.set 1 _).congr fun j hj => (by match j, hj with | 0, _ => rfl | 1, _ => rfl), own_of H.out.eo.bw.own fun k hk => Below.heap_setCell _ ⟨q, 1, none⟩ _ k (by have e : g' = k := Option.some.inj hk; show k ≠ q; omega), hqne⟩ (ButP.set (ButP.refl _ _) (.inl rfl) _)).eo
theorem grown_eo {Ws W : World} {q : Nat} {s : Sch} {A : Option Addr} {c g : Nat} {X : Tr} {A2 : Option Addr} {L2 : List Nat} {w2 : World} (h : ∃ g2 cap2, EO Ws W q s A c X A2 g L2 g2 cap2 w2) {L3 : List Nat} (e : L3 = L2) : ∃ g2 cap2, EO Ws W q s A c X A2 g L3 g2 cap2 w2 := by rw [e]; exact h

set_option maxRecDepth 100000 in
set_option maxHeartbeats 4000000 in
theorem behind1_any (s : Sch) (A : Option Addr) (c : Nat) (Ws : World) (q p : Nat) (τ : Int) (y : Tr) (A1 : Option Addr) (k1 : Nat) (A2 : Option Addr) (k2 : Nat) (L : List Nat) (g cap : Nat) (W : World) (h : EO Ws W q s A c (kidsX y) A2 g L g cap W) (hn : NRow W (fun b => b ≠ q ∧ b ≠ g) A1 y.nl y.nf) :
    Calls Tryd.prog 63 #[.pointer (some ⟨q, 0, none⟩), .agg #[.int .i64 (p : Int), .int .i64 1, .int .i64 τ, .int .u64 (y.num : Nat), .string y.bs, .slice A1 y.nl k1, .slice A2 y.kl k2]] W (Behind s A c Ws W q g A2 y L) := by
  have HH : Hid (HB Ws W q s A c g (p : Int) 1 τ y A1 k1 A2 k2 W.heap.size L g cap _) := Lib.hid (HB.start h hn)
  clear h hn
  go_enter Tryd.func63, Tryd.ntmps63
  go_wp2_with fail
  obtain ⟨c0, c1, c2, c4, c5, c6⟩ := HH.out.cells
  generalize W.heap.size = fq at HH c0 c1 c2 c4 c5 c6 ⊢
  generalize W.alloc (.cells #[.int .i64 (p : Int), .int .i64 1, .int .i64 τ, .int .u64 (y.num : Nat), .string y.bs, .slice A1 y.nl k1, .slice A2 y.kl k2] 168) = V at HH c0 c1 c2 c4 c5 c6 ⊢
  go_quiet (fail)
  go_wp2
  exact bodyPost_end (v := .tuple #[]) (by simp [results, Tryd.results63, go_sem]) rfl ⟨rfl, g, cap, (HH.out.below (below_drewN (Below.refl _ _) _)).eo⟩

set_option maxRecDepth 100000 in
set_option maxHeartbeats 4000000 in
theorem behind3_any (s : Sch) (A : Option Addr) (c : Nat) (Ws : World) (q p : Nat) (τ : Int) (y : Tr) (A1 : Option Addr) (k1 : Nat) (A2 : Option Addr) (k2 : Nat) (L : List Nat) (g cap : Nat) (W : World) (h : EO Ws W q s A c (kidsX y) A2 g L g cap W) (hn : NRow W (fun b => b ≠ q ∧ b ≠ g) A1 y.nl y.nf) (hp : p < L.length) (hL : L.length ≤ 1000) (hy : y.nl ≤ 15) :
    Calls Tryd.prog 63 #[.pointer (some ⟨q, 0, none⟩), .agg #[.int .i64 (p : Int), .int .i64 3, .int .i64 τ, .int .u64 (y.num : Nat), .string y.bs, .slice A1 y.nl k1, .slice A2 y.kl k2]] W (Behind s A c Ws W q g A2 y (referL p y.nl L ++ numsL y)) := by
  obtain ⟨i0, hi0, hz1, hz2, hz3⟩ := info_parts info_u64
  have HH : Hid (HB Ws W q s A c g (p : Int) 3 τ y A1 k1 A2 k2 W.heap.size L g cap _) := Lib.hid (HB.start h hn)
  clear h hn
  go_enter Tryd.func63, Tryd.ntmps63
  go_wp2_with fail
  obtain ⟨c0, c1, c2, c4, c5, c6⟩ := HH.out.cells
  generalize W.heap.size = fq at HH c0 c1 c2 c4 c5 c6 ⊢
  generalize W.alloc (.cells #[.int .i64 (p : Int), .int .i64 3, .int .i64 τ, .int .u64 (y.num : Nat), .string y.bs, .slice A1 y.nl k1, .slice A2 y.kl k2] 168) = V at HH c0 c1 c2 c4 c5 c6 ⊢
  go_quiet (fail)
  have HH2 := Lib.hid (HH.out.below (below_drewN (Below.refl _ V) nq))
  clear HH c0 c1 c2 c4 c5 c6
  generalize V.drewN nq = V2 at HH2 ⊢
  obtain ⟨c0, c1, c2, c4, c5, c6⟩ := HH2.out.cells
  go_wp2_with fail
  refine (HB.refer y.nl HH2 hp (by omega)).mono ?_
  rintro e V3 ⟨rfl, H3, -⟩
  clear HH2 c0 c1 c2 c4 c5 c6
  obtain ⟨L2, HL2⟩ : ∃ L2, Hid (referL p y.nl L = L2) := ⟨_, Lib.hid rfl⟩
  have hl2 : L2.length ≤ 1000 := by rw [← HL2.out, referL_length]; exact hL
  unfold Behind
  rw [HL2.out] at H3 ⊢
  have b1 := H3.out.eo.bw.box.cell (i := 1) (by omega)
  simp only [show ((1 : Nat) = 0) = False by simp, if_false] at b1
  have bf := H3.out.eo.bw.box.frozen
  have hql := H3.out.eo.bw.box.lt
  have hqne := H3.out.eo.bw.ne
  by_cases hy0 : y.nl = 0
  · have he : numsL y = [] := List.length_eq_zero_iff.1 (by rw [numsL_length, hy0])
    have HF := Lib.hid (HB.nothing H3 he)
    have hle := H3.out.eo.bw.le
    have HY0 := Lib.hid hy0
    clear hy0
    go_wp2_with (at_builtin; refine wpList_append_none _ rfl _ _ 29 rfl 28 i0 Tryd.underlying29 hi0 (some ⟨_, 0, none⟩) L2.length _ hle rfl _ _ (by rw [HY0.out]; rfl) ?_)
    exact bodyPost_end (v := .tuple #[]) (by simp [results, Tryd.results63, go_sem]) rfl ⟨rfl, by rw [HL2.out]; exact HF.out⟩
  · obtain ⟨a, rfl, -, hcl⟩ := nrow_cells H3.out.nr (by omega)
    have HN := Lib.hid hcl
    have HO := Lib.hid H3.out.eo.bw.own
    clear hcl
    go_wp2_with (at_builtin; refine wpList_append_lies _ rfl _ _ 29 rfl 0 28 i0 (.int .u64 0) 1 8 Tryd.underlying29 hi0 hz1 hz2 hz3 rfl (by omega) _ _ _ rfl HO.out _ (y.nl) _ (wcells (numsL y)) rfl (by simp [wcells, numsL_length]) HN.out (wcells_one _) (by omega) (by unfold maxLen; omega) (by omega) (Nat.zero_le _) _ rfl ?_; intro g2 cap2 w10 hown hgrow hat hlt; have m1 := (World.grownBy.cell_far hgrow ⟨q, 1, none⟩ hql (by intro e; exact hqne (Option.some.inj e))).trans b1; have m2 := (World.grownBy.frozen_far hgrow ⟨q, 1, none⟩ hql (by intro e; exact hqne (Option.some.inj e))).trans (bf 1); have HF := Lib.hid (HB.grown H3 hgrow (by simp [numsL_length]) hat hown); clear hown hgrow hat hlt)
    exact bodyPost_end (v := .tuple #[]) (by simp [results, Tryd.results63, go_sem]) rfl ⟨rfl, by rw [HL2.out]; exact HF.out⟩
set_option maxRecDepth 100000 in
set_option maxHeartbeats 4000000 in
theorem behind2_any (s : Sch) (A : Option Addr) (c : Nat) (Ws : World) (q p : Nat) (τ : Int) (y : Tr) (A1 : Option Addr) (k1 : Nat) (A2 : Option Addr) (k2 : Nat) (L : List Nat) (g cap : Nat) (W : World) (h : EO Ws W q s A c (kidsX y) A2 g L g cap W) (hn : NRow W (fun b => b ≠ q ∧ b ≠ g) A1 y.nl y.nf) (hp : p < L.length) (hL : L.length ≤ 1000) (hy : y.bs.size ≤ 50) :
    Calls Tryd.prog 63 #[.pointer (some ⟨q, 0, none⟩), .agg #[.int .i64 (p : Int), .int .i64 2, .int .i64 τ, .int .u64 (y.num : Nat), .string y.bs, .slice A1 y.nl k1, .slice A2 y.kl k2]] W (Behind s A c Ws W q g A2 y (referL p y.bs.size L ++ wordsB y.bs)) := by
  obtain ⟨i0, hi0, hz1, hz2, hz3⟩ := info_parts info_u64
  have HH : Hid (HB Ws W q s A c g (p : Int) 2 τ y A1 k1 A2 k2 W.heap.size L g cap _) := Lib.hid (HB.start h hn)
  clear h hn
  go_enter Tryd.func63, Tryd.ntmps63
  go_wp2_with fail
  obtain ⟨c0, c1, c2, c4, c5, c6⟩ := HH.out.cells
  generalize W.heap.size = fq at HH c0 c1 c2 c4 c5 c6 ⊢
  generalize W.alloc (.cells #[.int .i64 (p : Int), .int .i64 2, .int .i64 τ, .int .u64 (y.num : Nat), .string y.bs, .slice A1 y.nl k1, .slice A2 y.kl k2] 168) = V at HH c0 c1 c2 c4 c5 c6 ⊢
  go_quiet (fail)
  have HH2 := Lib.hid (HH.out.below (below_drewN (Below.refl _ V) nq))
  clear HH c0 c1 c2 c4 c5 c6
  generalize V.drewN nq = V2 at HH2 ⊢
  obtain ⟨c0, c1, c2, c4, c5, c6⟩ := HH2.out.cells
  go_wp2_with fail
  have KD := Lib.hid (HH2.out.below (Below.refl _ _).drew)
  clear HH2 c0 c1 c2 c4 c5 c6
  go_region_held3 (fun w' => w'.cell? ⟨fq, 0, none⟩ = some (.int .i64 (p : Int)) ∧ w'.cell? ⟨fq, 4, none⟩ = some (.string y.bs))
    (first | exact ⟨(HB.cells (Hid.out (by assumption))).1, (HB.cells (Hid.out (by assumption))).2.2.2.1⟩)
    (first
      | (go_at_call 98; (with_reducible refine (HB.words (by assumption) hy).mono ?_); rintro e w5 ⟨z, rfl, K3, HZ⟩))
  all_goals
    go_wp2_with fail
    refine (HB.refer y.bs.size K3 hp (by omega)).mono ?_
    rintro e V3 ⟨rfl, H3, HP⟩
    have HZ3 := Lib.hid (HZ.out.1.of_block (HP.out.block z HZ.out.1.lt HZ.out.2.2))
    have hct : cnt y.bs.size ≤ 20 := by unfold cnt; omega
    clear K3 HP HZ
    obtain ⟨L2, HL2⟩ : ∃ L2, Hid (referL p y.bs.size L = L2) := ⟨_, Lib.hid rfl⟩
    have hl2 : L2.length ≤ 1000 := by rw [← HL2.out, referL_length]; exact hL
    unfold Behind
    rw [HL2.out] at H3 ⊢
    have b1 := H3.out.eo.bw.box.cell (i := 1) (by omega)
    simp only [show ((1 : Nat) = 0) = False by simp, if_false] at b1
    have bf := H3.out.eo.bw.box.frozen
    have hql := H3.out.eo.bw.box.lt
    have hqne := H3.out.eo.bw.ne
    by_cases hy0 : y.bs.size = 0
    · have he : wordsB y.bs = [] := List.length_eq_zero_iff.1 (by rw [wordsB_length, hy0]; rfl)
      have HF := Lib.hid (HB.nothing H3 he)
      have hle := H3.out.eo.bw.le
      have HY0 := Lib.hid hy0
      clear hy0
      go_wp2_with (at_builtin; refine wpList_append_none _ rfl _ _ 29 rfl 28 i0 Tryd.underlying29 hi0 (some ⟨_, 0, none⟩) L2.length _ hle rfl _ _ (by rw [HY0.out]; rfl) ?_)
      exact bodyPost_end (v := .tuple #[]) (by simp [results, Tryd.results63, go_sem]) rfl ⟨rfl, by rw [HL2.out]; exact HF.out⟩
    · have hcl := row_cells HZ3.out
      have hcp : 0 < cnt y.bs.size := by unfold cnt; omega
      have HN := Lib.hid hcl
      have HO := Lib.hid H3.out.eo.bw.own
      clear hcl
      go_wp2_with (at_builtin; refine wpList_append_lies _ rfl _ _ 29 rfl 0 28 i0 (.int .u64 0) 1 8 Tryd.underlying29 hi0 hz1 hz2 hz3 rfl (by omega) _ _ _ rfl HO.out _ (cnt y.bs.size) _ (wcells (wordsB y.bs)) rfl (by simp [wcells, wordsB_length]) HN.out (wcells_one _) (by omega) (by unfold maxLen; omega) (by omega) (Nat.zero_le _) _ rfl ?_; intro g2 cap2 w10 hown hgrow hat hlt; have m1 := (World.grownBy.cell_far hgrow ⟨q, 1, none⟩ hql (by intro e; exact hqne (Option.some.inj e))).trans b1; have m2 := (World.grownBy.frozen_far hgrow ⟨q, 1, none⟩ hql (by intro e; exact hqne (Option.some.inj e))).trans (bf 1); have HF := Lib.hid (HB.grown H3 hgrow (by simp [wordsB_length]) hat hown); clear hown hgrow hat hlt)
      exact bodyPost_end (v := .tuple #[]) (by simp [results, Tryd.results63, go_sem]) rfl ⟨rfl, by rw [HL2.out]; exact HF.out⟩
set_option maxRecDepth 100000 in
set_option maxHeartbeats 4000000 in
theorem behind4_any (s : Sch) (A : Option Addr) (c : Nat) (Ws : World) (q p : Nat) (τ : Nat) (y : Tr) (A1 : Option Addr) (k1 : Nat) (A2 : Option Addr) (k2 : Nat) (L : List Nat) (g cap : Nat) (W : World) (h : EO Ws W q s A c (kidsX y) A2 g L g cap W) (hn : NRow W (fun b => b ≠ q ∧ b ≠ g) A1 y.nl y.nf) (n : Nat) (IH : LayC s A c Ws n) (ht : τ < s.n) (hc : ∀ j, j < y.kl → chk s n τ (y.kf j) = 0) (hK : y.kl ≤ 12) (hp : p < L.length) (hL : L.length + sumN (fun j => wds true (y.kf j)) y.kl ≤ 1000) :
    Calls Tryd.prog 63 #[.pointer (some ⟨q, 0, none⟩), .agg #[.int .i64 (p : Int), .int .i64 4, .int .i64 (τ : Int), .int .u64 (y.num : Nat), .string y.bs, .slice A1 y.nl k1, .slice A2 y.kl k2]] W (Behind s A c Ws W q g A2 y (layL s n τ y.kl y.kf (referL p y.kl L))) := by
  have HH : Hid (HB Ws W q s A c g (p : Int) 4 (τ : Int) y A1 k1 A2 k2 W.heap.size L g cap _) := Lib.hid (HB.start h hn)
  clear h hn
  go_enter Tryd.func63, Tryd.ntmps63
  go_wp2_with fail
  obtain ⟨c0, c1, c2, c4, c5, c6⟩ := HH.out.cells
  generalize W.heap.size = fq at HH c0 c1 c2 c4 c5 c6 ⊢
  generalize W.alloc (.cells #[.int .i64 (p : Int), .int .i64 4, .int .i64 (τ : Int), .int .u64 (y.num : Nat), .string y.bs, .slice A1 y.nl k1, .slice A2 y.kl k2] 168) = V at HH c0 c1 c2 c4 c5 c6 ⊢
  go_quiet (fail)
  have HH2 := Lib.hid (HH.out.below (below_drewN (Below.refl _ V) nq))
  clear HH c0 c1 c2 c4 c5 c6
  generalize V.drewN nq = V2 at HH2 ⊢
  obtain ⟨c0, c1, c2, c4, c5, c6⟩ := HH2.out.cells
  have HC := Lib.hid hc
  clear hc
  go_wp2_with fail
  refine (HB.refer y.kl HH2 hp (by omega)).mono ?_
  rintro e V3 ⟨rfl, H3, -⟩
  clear HH2 c0 c1 c2 c4 c5 c6
  obtain ⟨L2, HL2⟩ : ∃ L2, Hid (referL p y.kl L = L2) := ⟨_, Lib.hid rfl⟩
  have hl2 : L2.length + sumN (fun j => wds true (y.kf j)) y.kl ≤ 1000 := by rw [← HL2.out, referL_length]; exact hL
  rw [HL2.out] at H3
  obtain ⟨c0, c1, c2, c4, c5, c6⟩ := H3.out.cells
  go_wp2_with fail
  refine (IH.go τ H3 ht HC.out hK hl2).mono ?_
  rintro e V4 ⟨rfl, g4, cap4, H4⟩
  clear H3 c0 c1 c2 c4 c5 c6
  go_wp2
  exact bodyPost_end (v := .tuple #[]) (by simp [results, Tryd.results63, go_sem]) rfl ⟨rfl, g4, cap4, by rw [HL2.out]; exact H4.out⟩
set_option maxRecDepth 100000 in
set_option maxHeartbeats 4000000 in
theorem behind5_any (s : Sch) (A : Option Addr) (c : Nat) (Ws : World) (q p : Nat) (τ : Nat) (y : Tr) (A1 : Option Addr) (k1 : Nat) (A2 : Option Addr) (k2 : Nat) (L : List Nat) (g cap : Nat) (W : World) (h : EO Ws W q s A c (kidsX y) A2 g L g cap W) (hn : NRow W (fun b => b ≠ q ∧ b ≠ g) A1 y.nl y.nf) (n : Nat) (IH : LayC s A c Ws n) (ht : τ < s.n) (hc : ∀ j, j < y.kl → chk s n τ (y.kf j) = 0) (hK : y.kl ≤ 12) (hp : p < L.length) (hL : L.length + sumN (fun j => wds true (y.kf j)) y.kl ≤ 1000) :
    Calls Tryd.prog 63 #[.pointer (some ⟨q, 0, none⟩), .agg #[.int .i64 (p : Int), .int .i64 5, .int .i64 (τ : Int), .int .u64 (y.num : Nat), .string y.bs, .slice A1 y.nl k1, .slice A2 y.kl k2]] W (Behind s A c Ws W q g A2 y (layL s n τ y.kl y.kf (referL p y.kl L))) := by
  have HH : Hid (HB Ws W q s A c g (p : Int) 5 (τ : Int) y A1 k1 A2 k2 W.heap.size L g cap _) := Lib.hid (HB.start h hn)
  clear h hn
  go_enter Tryd.func63, Tryd.ntmps63
  go_wp2_with fail
  obtain ⟨c0, c1, c2, c4, c5, c6⟩ := HH.out.cells
  generalize W.heap.size = fq at HH c0 c1 c2 c4 c5 c6 ⊢
  generalize W.alloc (.cells #[.int .i64 (p : Int), .int .i64 5, .int .i64 (τ : Int), .int .u64 (y.num : Nat), .string y.bs, .slice A1 y.nl k1, .slice A2 y.kl k2] 168) = V at HH c0 c1 c2 c4 c5 c6 ⊢
  go_quiet (fail)
  have HH2 := Lib.hid (HH.out.below (below_drewN (Below.refl _ V) nq))
  clear HH c0 c1 c2 c4 c5 c6
  generalize V.drewN nq = V2 at HH2 ⊢
  obtain ⟨c0, c1, c2, c4, c5, c6⟩ := HH2.out.cells
  have HC := Lib.hid hc
  clear hc
  go_wp2_with fail
  refine (HB.refer y.kl HH2 hp (by omega)).mono ?_
  rintro e V3 ⟨rfl, H3, -⟩
  clear HH2 c0 c1 c2 c4 c5 c6
  obtain ⟨L2, HL2⟩ : ∃ L2, Hid (referL p y.kl L = L2) := ⟨_, Lib.hid rfl⟩
  have hl2 : L2.length + sumN (fun j => wds true (y.kf j)) y.kl ≤ 1000 := by rw [← HL2.out, referL_length]; exact hL
  rw [HL2.out] at H3
  obtain ⟨c0, c1, c2, c4, c5, c6⟩ := H3.out.cells
  go_wp2_with fail
  refine (IH.go τ H3 ht HC.out hK hl2).mono ?_
  rintro e V4 ⟨rfl, g4, cap4, H4⟩
  clear H3 c0 c1 c2 c4 c5 c6
  go_wp2
  exact bodyPost_end (v := .tuple #[]) (by simp [results, Tryd.results63, go_sem]) rfl ⟨rfl, g4, cap4, by rw [HL2.out]; exact H4.out⟩
/-- All kinds. -/
theorem layBehind_any (s : Sch) (A : Option Addr) (c : Nat) (Ws : World) (n : Nat) (q p : Nat) (k : Int) (τ : Nat) (y : Tr) (A1 : Option Addr) (k1 : Nat) (A2 : Option Addr) (k2 : Nat) (L : List Nat) (g cap : Nat) (W : World) (h : EO Ws W q s A c (kidsX y) A2 g L g cap W) (hn : NRow W (fun b => b ≠ q ∧ b ≠ g) A1 y.nl y.nf) (hk1 : 1 ≤ k) (hk5 : k ≤ 5) (IH : LayC s A c Ws n) (ht : τ < s.n) (hko : kindOk k y) (hc : ∀ j, j < y.kl → chk s n τ (y.kf j) = 0) (hp : p < L.length) (hL : L.length + wds false y ≤ 1000) :
    Calls Tryd.prog 63 #[.pointer (some ⟨q, 0, none⟩), .agg #[.int .i64 (p : Int), .int .i64 k, .int .i64 (τ : Int), .int .u64 (y.num : Nat), .string y.bs, .slice A1 y.nl k1, .slice A2 y.kl k2]] W (Behind s A c Ws W q g A2 y (behindL (layL s n) k τ p y L)) := by
  obtain ⟨o1, o2, o3, o4, o5, o6, o7, -⟩ := hko
  have hw := wds_false y
  obtain rfl | rfl | rfl | rfl | rfl : k = 1 ∨ k = 2 ∨ k = 3 ∨ k = 4 ∨ k = 5 := by omega
  · exact behind1_any s A c Ws q p τ y A1 k1 A2 k2 L g cap W h hn
  · exact behind2_any s A c Ws q p τ y A1 k1 A2 k2 L g cap W h hn hp (by omega) (by omega)
  · exact behind3_any s A c Ws q p τ y A1 k1 A2 k2 L g cap W h hn hp (by omega) (by omega)
  · exact behind4_any s A c Ws q p τ y A1 k1 A2 k2 L g cap W h hn n IH ht hc (by omega) hp (by omega)
  · exact behind5_any s A c Ws q p τ y A1 k1 A2 k2 L g cap W h hn n IH ht hc (by omega) hp (by omega)

end Go.Proofs.YthcachmcjekckaaDoor
