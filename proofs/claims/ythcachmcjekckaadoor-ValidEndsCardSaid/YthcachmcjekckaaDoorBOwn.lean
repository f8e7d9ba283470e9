/- The builder in memory; a field's own word is laid. -/
import Derived.Test.YthcachmcjekckaaDoorBMath
import Derived.Test.YthcachmcjekckaaDoorTSize
import Derived.Test.YthcachmcjekckaaDoorQApp
import Derived.Deep.AppendLies
import Derived.Deep.RegionLaw
namespace Go.Proofs.YthcachmcjekckaaDoor
open Go.ChangeShapes Go.WideShapes Go.ChangeAt Go.RowKit
def wcells (L : List Nat) : List Value := L.map fun x => Value.int .u64 (x : Nat)
/-- The builder's box at q; its words, a row of its own, at g. -/
structure BW (q : Nat) (s : Sch) (A : Option Addr) (c : Nat) (L : List Nat) (g cap : Nat) (W : World) : Prop where
  box : W.rowIs q 84 2 (fun j => if j = 0 then .slice A s.n c else .slice (some ⟨g, 0, none⟩) L.length cap)
  own : W.ownsRow 0 28 1 (.slice (some ⟨g, 0, none⟩) L.length cap) L.length (wcells L)
  ne : q ≠ g
theorem BW.gq {q : Nat} {s : Sch} {A : Option Addr} {c : Nat} {L : List Nat} {g cap : Nat} {W : World} (h : BW q s A c L g cap W) : g < W.heap.size := (h.own.lt g rfl).2
theorem BW.below {q : Nat} {s : Sch} {A : Option Addr} {c : Nat} {L : List Nat} {g cap : Nat} {W W' : World} (h : BW q s A c L g cap W) (hb : Below W.heap.size W W') : BW q s A c L g cap W' :=
  ⟨h.box.of_block (hb.block _ h.box.lt), own_of h.own fun k hk => hb.block k (h.own.lt k hk).2, h.ne⟩
/-- Words are appended, and the box is told. -/
theorem BW.grow {q : Nat} {s : Sch} {A : Option Addr} {c : Nat} {L M : List Nat} {g cap g' cap' n : Nat} {W V w1 : World} (h : BW q s A c L g cap W) (hV : Below W.heap.size W V) (hg : V.grownBy w1 (some g)) (hn : n = (L ++ M).length) (hat : some g = some g' ∨ g' = V.heap.size) (ho : w1.ownsRow 0 28 1 (.slice (some ⟨g', 0, none⟩) n cap') n (wcells L ++ wcells M)) :
    BW q s A c (L ++ M) g' cap' (w1.setCell ⟨q, 1, none⟩ (.slice (some ⟨g', 0, none⟩) n cap')) ∧ ButP (fun b => b = q ∨ b = g) W (w1.setCell ⟨q, 1, none⟩ (.slice (some ⟨g', 0, none⟩) n cap')) := by
  subst hn
  have hne := h.ne
  have hgl := h.gq
  have hql := h.box.lt
  have h' := h.below hV
  have hVs := hV.size
  have hqg : q ≠ g' := by
    rcases hat with e | e
    · have := Option.some.inj e; omega
    · omega
  have hb1 : ∀ k, k < V.heap.size → k ≠ g → w1.heap[k]? = V.heap[k]? := fun k hk hne => hg.block k hk (fun e => hne (Option.some.inj e))
  have hbox := h'.box.of_block (hb1 q (Nat.lt_of_lt_of_le hql hV.size) hne)
  refine ⟨⟨(hbox.set 1 _).congr fun j hj => ?_, ?_, hqg⟩, ?_⟩
  · match j, hj with
    | 0, _ => rfl
    | 1, _ => rfl
  · have e : wcells (L ++ M) = wcells L ++ wcells M := by simp [wcells]
    rw [e]
    exact own_of ho fun k hk => Below.heap_setCell w1 ⟨q, 1, none⟩ _ k (by have e : g' = k := Option.some.inj hk; show k ≠ q; omega)
  · have hs := ((Below.refl 0 w1).setCell (p := ⟨q, 1, none⟩) (Nat.zero_le _) (.slice (some ⟨g', 0, none⟩) (L ++ M).length cap'))
    refine ⟨hs.os.trans (hg.os.trans hV.os), hs.tape.trans (hg.tape.trans hV.tape), hs.output.trans (hg.output.trans hV.output), Nat.le_trans hV.size (Nat.le_trans hg.size hs.size), fun k hk hne => ?_⟩
    rw [Below.heap_setCell w1 ⟨q, 1, none⟩ _ k (fun e => hne (.inl e)), hb1 k (Nat.lt_of_lt_of_le hk hV.size) (fun e => hne (.inr e))]
    exact hV.block k hk

set_option maxRecDepth 100000 in
set_option maxHeartbeats 4000000 in
theorem layOwn_any (q : Nat) (s : Sch) (A : Option Addr) (c : Nat) (L : List Nat) (g cap : Nat) (p k τ : Int) (y : Tr) (A1 : Option Addr) (k1 : Nat) (A2 : Option Addr) (k2 : Nat) (W : World) (h : BW q s A c L g cap W) (hL : L.length ≤ 10000) :
    Calls Tryd.prog 62 #[.pointer (some ⟨q, 0, none⟩), .agg #[.int .i64 p, .int .i64 k, .int .i64 τ, .int .u64 (y.num : Nat), .string y.bs, .slice A1 y.nl k1, .slice A2 y.kl k2]] W fun e W' => e = .returned (.tuple #[]) ∧ (∃ g' cap', (g' = g ∨ W.heap.size ≤ g') ∧ BW q s A c (L ++ [y.num]) g' cap' W') ∧ ButP (fun b => b = q ∨ b = g) W W' := by
  obtain ⟨i0, hi0, hz1, hz2, hz3⟩ := info_parts info_u64
  have H := Lib.hid h
  have c1 := h.box.cell (i := 1) (by omega)
  simp only [show ((1 : Nat) = 0) = False by simp, if_false] at c1
  have cf := h.box.frozen
  have hql := h.box.lt
  have hgl := h.gq
  have hqne := h.ne
  have hV : Below W.heap.size W (((W.alloc (.cells #[.int .i64 p, .int .i64 k, .int .i64 τ, .int .u64 (y.num : Nat), .string y.bs, .slice A1 y.nl k1, .slice A2 y.kl k2] 168)).alloc (.cells #[.int .u64 (y.num : Nat)] 28)).drew) := by (repeat (first | with_reducible exact Below.refl _ _ | with_reducible refine Below.drew ?_ | (with_reducible refine Below.setCell ?_ ?side _; case side => exact (by first | (simp; done) | (simp; omega) | omega)) | (with_reducible refine Below.alloc ?_ ?side _; case side => exact (by first | (simp; done) | (simp; omega) | omega))))
  have HV := Lib.hid hV
  have HO : Hid ((((W.alloc (.cells #[.int .i64 p, .int .i64 k, .int .i64 τ, .int .u64 (y.num : Nat), .string y.bs, .slice A1 y.nl k1, .slice A2 y.kl k2] 168)).alloc (.cells #[.int .u64 (y.num : Nat)] 28)).drew).ownsRow 0 28 1 (.slice (some ⟨g, 0, none⟩) L.length cap) L.length (wcells L)) := Lib.hid (h.below hV).own
  have HC : Hid (∀ j u, [Value.int .u64 (y.num : Nat)][j]? = some u → (((W.alloc (.cells #[.int .i64 p, .int .i64 k, .int .i64 τ, .int .u64 (y.num : Nat), .string y.bs, .slice A1 y.nl k1, .slice A2 y.kl k2] 168)).alloc (.cells #[.int .u64 (y.num : Nat)] 28)).drew).cell? ((⟨W.heap.size + 1, 0, none⟩ : Addr).add j) = some u) := Lib.hid (fun j u hu => by
    have r := (World.rowIs_alloc (W.alloc (.cells #[.int .i64 p, .int .i64 k, .int .i64 τ, .int .u64 (y.num : Nat), .string y.bs, .slice A1 y.nl k1, .slice A2 y.kl k2] 168)) #[.int .u64 (y.num : Nat)] 28 (fun _ => .int .u64 (y.num : Nat)) (by intro j hj; match j, hj with | 0, _ => rfl)).drew
    match j, hu with
    | 0, hu => rw [addr_add]; simp only [World.size_alloc] at r; rw [r.cell (i := 0) (by simp)]; simpa using hu)
  clear h hV
  have n1 : q ≠ W.heap.size := by omega
  have n2 : q ≠ W.heap.size + 1 := by omega
  go_enter Tryd.func62, Tryd.ntmps62
  go_wp2_with fail
  go_region_law (first
    | (refine step_append_lies _ (by rfl) _ _ 29 (by rfl) 0 28 i0 (.int .u64 0) 1 8 Tryd.underlying29 hi0 hz1 hz2 hz3 rfl (by omega) _ _ _ (by rfl) HO.out ⟨W.heap.size + 1, 0, none⟩ 1 1 [.int .u64 (y.num : Nat)] (by rfl) (by rfl) HC.out (by simp [Value.oneCell']) (by omega) (by unfold maxLen; omega) (by omega) (Nat.zero_le _) _ rfl ?_; intro g1 cap1 w10 hown hgrow hat hlt; have HW := Lib.hid hown; have HG := Lib.hid hgrow; have m1 := (World.grownBy.cell_far hgrow ⟨q, 1, none⟩ (by simp; omega) (by intro e; have := Option.some.inj e; show False; simp at this; omega)); have m2 := (World.grownBy.frozen_far hgrow ⟨q, 1, none⟩ (by simp; omega) (by intro e; have := Option.some.inj e; show False; simp at this; omega)); have HAT := Lib.hid hat; clear hown hgrow hat hlt))
  all_goals
    clear m1 m2 c1 cf
    go_wp2
    obtain ⟨t1, t2⟩ := H.out.grow (M := [y.num]) HV.out HG.out (by simp) HAT.out HW.out
    exact bodyPost_end (v := .tuple #[]) (by simp [results, Tryd.results62, go_sem]) rfl ⟨rfl, ⟨g1, cap1, by
      rcases HAT.out with e | e
      · exact .inl (Option.some.inj e).symm
      · exact .inr (by rw [e]; exact HV.out.size), t1⟩, t2⟩

end Go.Proofs.YthcachmcjekckaaDoor
