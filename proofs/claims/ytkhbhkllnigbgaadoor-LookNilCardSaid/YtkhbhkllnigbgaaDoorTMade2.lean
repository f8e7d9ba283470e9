/- A struct by numbers, of a schema by numbers. -/
import Derived.Test.YtkhbhkllnigbgaaDoorTMade
namespace Go.Proofs.YtkhbhkllnigbgaaDoor
open Go.ChangeShapes Go.WideShapes Go.ChangeAt Go.RowKit
set_option maxRecDepth 100000 in
set_option maxHeartbeats 1000000 in
theorem r6Made_any (s : Sch) (hR : RightS s) (A : Option Addr) (c d t : Nat) (D : Int) (Al : Option Addr) (L cl : Nat) (w : World) (ht : t < s.n) (hs : SAt w A s) (hN : NumsAt w Al L cl) (hd : d ≤ 6) (hD1 : D ≤ d + 1) (hD2 : d + 1 ≤ D) :
    Calls Tryd.prog 43 #[.slice A s.n c, .int .i64 (t : Int), .slice Al L cl, .int .i64 D] w fun e w' => ∃ (x : Tr) (An : Option Addr) (cn : Nat) (Ak : Option Addr) (ck : Nat), e = .returned (.agg #[.int .u64 ((x).num : Nat), .string (x).bs, .slice An (x).nl cn, .slice Ak (x).kl ck]) ∧ MadeT s (d + 1) t x ∧ TAt w' (fun b => w.heap.size ≤ b) x An Ak ∧ Below w.heap.size w w' := by
  have HS := Lib.hid hs
  have HN := Lib.hid hN
  clear hs hN
  go_enter Tryd.func43, Tryd.ntmps43
  go_wp2_with fail
  refine (r6made_any s hR A c d t D Al L cl _ ht (HS.out.below ((Below.refl _ _).alloc (Nat.le_refl _) _)) (HN.out.below ((Below.refl _ _).alloc (Nat.le_refl _) _)) hd hD1 hD2).mono ?_
  rintro e w1 ⟨x, An, cn, Ak, ck, Al', L', cl', rfl, -, hMd, hT, hb⟩
  have hr0 := ((zero_row w).of_block (hb.block _ (by simp)))
  have r0 : w1.cell? ⟨w.heap.size, 0, none⟩ = some (.int .u64 0) := hr0.cell (i := 0) (by omega)
  have r1 : w1.cell? ⟨w.heap.size, 1, none⟩ = some (.string ⟨#[]⟩) := hr0.cell (i := 1) (by omega)
  have r2 : w1.cell? ⟨w.heap.size, 2, none⟩ = some (.slice none 0 0) := hr0.cell (i := 2) (by omega)
  have r3 : w1.cell? ⟨w.heap.size, 3, none⟩ = some (.slice none 0 0) := hr0.cell (i := 3) (by omega)
  have rf := hr0.frozen
  have hlt := hr0.lt
  have HR0 := Lib.hid hr0
  have HM := Lib.hid hMd
  have HT := Lib.hid hT
  have HB := Lib.hid (Below.step (B := w.heap.size) (a := w) (by (repeat (first | with_reducible exact Below.refl _ _ | with_reducible refine Below.drew ?_ | (with_reducible refine Below.setCell ?_ ?side _; case side => exact (by first | (simp; done) | (simp; omega) | omega)) | (with_reducible refine Below.alloc ?_ ?side _; case side => exact (by first | (simp; done) | (simp; omega) | omega))))) hb (by first | (simp; done) | (simp; omega) | omega))
  clear hr0 hMd hT hb
  go_wp2
  have hWT : TAt ((((w1.setCell ⟨w.heap.size, 0, none⟩ (.int .u64 (x.num : Nat))).setCell ⟨w.heap.size, 1, none⟩ (.string x.bs)).setCell ⟨w.heap.size, 2, none⟩ (.slice An x.nl cn)).setCell ⟨w.heap.size, 3, none⟩ (.slice Ak x.kl ck)) (fun b => w.heap.size ≤ b) x An Ak := by
    have hz : w.heap.size + 1 = (w.alloc (.cells #[.int .u64 0, .string ⟨#[]⟩, .slice none 0 0, .slice none 0 0] 41)).heap.size := by simp
    have hT := HT.out
    rw [← hz] at hT
    refine hT.keep (fun b hP _ => ?_) (fun b h _ => by omega) ?_
    · rw [Below.heap_setCell _ ⟨w.heap.size, 3, none⟩ _ b (by show b ≠ w.heap.size; omega), Below.heap_setCell _ ⟨w.heap.size, 2, none⟩ _ b (by show b ≠ w.heap.size; omega), Below.heap_setCell _ ⟨w.heap.size, 1, none⟩ _ b (by show b ≠ w.heap.size; omega), Below.heap_setCell _ ⟨w.heap.size, 0, none⟩ _ b (by show b ≠ w.heap.size; omega)]
    · exact (((((Below.refl 0 w1).setCell (Nat.zero_le _) _).setCell (Nat.zero_le _) _).setCell (Nat.zero_le _) _).setCell (Nat.zero_le _) _).size
  have r := ((((HR0.out.set 0 (.int .u64 (x.num : Nat))).set 1 (.string x.bs)).set 2 (.slice An x.nl cn)).set 3 (.slice Ak x.kl ck)).alloc (.cells #[.int .u64 ((x).num : Nat), .string (x).bs, .slice An (x).nl cn, .slice Ak (x).kl ck] 41)
  have hW9 := hWT.below ((Below.refl _ _).alloc (Nat.le_refl _) (.cells #[.int .u64 ((x).num : Nat), .string (x).bs, .slice An (x).nl cn, .slice Ak (x).kl ck] 41))
  have hB9 := (((((HB.out.setCell (p := ⟨w.heap.size, 0, none⟩) (Nat.le_refl _) (.int .u64 (x.num : Nat))).setCell (p := ⟨w.heap.size, 1, none⟩) (Nat.le_refl _) (.string x.bs)).setCell (p := ⟨w.heap.size, 2, none⟩) (Nat.le_refl _) (.slice An x.nl cn)).setCell (p := ⟨w.heap.size, 3, none⟩) (Nat.le_refl _) (.slice Ak x.kl ck)).alloc (by simp; omega) (.cells #[.int .u64 ((x).num : Nat), .string (x).bs, .slice An (x).nl cn, .slice Ak (x).kl ck] 41))
  generalize (((((w1.setCell ⟨w.heap.size, 0, none⟩ (.int .u64 (x.num : Nat))).setCell ⟨w.heap.size, 1, none⟩ (.string x.bs)).setCell ⟨w.heap.size, 2, none⟩ (.slice An x.nl cn)).setCell ⟨w.heap.size, 3, none⟩ (.slice Ak x.kl ck)).alloc (.cells #[.int .u64 ((x).num : Nat), .string (x).bs, .slice An (x).nl cn, .slice Ak (x).kl ck] 41)) = W9 at r hW9 hB9 ⊢
  have g0 : W9.cell? ⟨w.heap.size, 0, none⟩ = some (.int .u64 (x.num : Nat)) := r.cell (i := 0) (by omega)
  have g1 : W9.cell? ⟨w.heap.size, 1, none⟩ = some (.string x.bs) := r.cell (i := 1) (by omega)
  have g2 : W9.cell? ⟨w.heap.size, 2, none⟩ = some (.slice An x.nl cn) := r.cell (i := 2) (by omega)
  have g3 : W9.cell? ⟨w.heap.size, 3, none⟩ = some (.slice Ak x.kl ck) := r.cell (i := 3) (by omega)
  exact bodyPost_ret (v := (.agg #[.int .u64 ((x).num : Nat), .string (x).bs, .slice An (x).nl cn, .slice Ak (x).kl ck])) (by simp [results, Tryd.results43, go_sem, g0, g1, g2, g3]) rfl ⟨x, An, cn, Ak, ck, rfl, HM.out, hW9, hB9⟩

/-- What Spec.made makes. -/
structure MadeQ (w : World) (d : Nat) (s : Sch) (A : Option Addr) (t : Nat) (x : Tr) (An Ak : Option Addr) (W : World) : Prop where
  right : RightS s
  four : ∀ i, i < s.n → s.len i ≤ 4
  sat : SAt W A s
  lt : t < s.n
  made : MadeT s d t x
  tat : TAt W (fun b => w.heap.size ≤ b) x An Ak
  be : Below w.heap.size w W
theorem MadeQ.below {w : World} {d : Nat} {s : Sch} {A : Option Addr} {t : Nat} {x : Tr} {An Ak : Option Addr} {W W' : World} (h : MadeQ w d s A t x An Ak W) (hb : Below W.heap.size W W') : MadeQ w d s A t x An Ak W' := ⟨h.right, h.four, h.sat.below hb, h.lt, h.made, h.tat.below hb, Below.step h.be hb h.be.size⟩
theorem MadeQ.sm {w : World} {d : Nat} {s : Sch} {A : Option Addr} {t : Nat} {x : Tr} {An Ak : Option Addr} {W : World} (h : MadeQ w d s A t x An Ak W) (hd : d ≤ 7) : Sm (2 * d) x := h.made.sm (fun i hi => by have := h.four i hi; omega) h.lt (fun i j hi hj => h.right.tlt hi hj) hd
theorem NumsAt.cut {w : World} {A : Option Addr} {L c : Nat} (h : NumsAt w A L c) (h60 : 60 ≤ L) : NumsAt w A 60 c := by
  have h1 := h.cap
  refine ⟨fun _ => ?_, by omega, by omega⟩
  obtain ⟨b, off, hA, hlt, hc⟩ := h.row (by omega)
  exact ⟨b, off, hA, hlt, fun j hj => hc j (by omega)⟩

theorem NumsAt.cut90 {w : World} {A : Option Addr} {L c : Nat} (h : NumsAt w A L c) (h60 : 90 ≤ L) : NumsAt w A 90 c := by
  have h1 := h.cap
  refine ⟨fun _ => ?_, by omega, by omega⟩
  obtain ⟨b, off, hA, hlt, hc⟩ := h.row (by omega)
  exact ⟨b, off, hA, hlt, fun j hj => hc j (by omega)⟩

theorem zero_cell {W : World} {q o : Nat} {v : Value} (h : W.rowIs q 41 4 zeroT) (hc : W.cell? ⟨q, o, none⟩ = some v) : v = .int .u64 0 ∨ v = .string ⟨#[]⟩ ∨ v = .slice none 0 0 := by
  by_cases ho : o < 4
  · rw [h.cell ho] at hc
    have e := Option.some.inj hc
    subst e
    unfold zeroT
    by_cases e0 : o = 0
    · exact .inl (if_pos e0)
    · rw [if_neg e0]
      by_cases e1 : o = 1
      · exact .inr (.inl (if_pos e1))
      · exact .inr (.inr (if_neg e1))
  · obtain ⟨c, hb, hn, _⟩ := h
    rw [World.cell?] at hc
    simp [hb] at hc
    rw [Array.getElem?_eq_none (by omega)] at hc
    cases hc
/-- A right schema does not lie in a tree's empty box. -/
theorem SAt.keepZ {W W' : World} {A : Option Addr} {s : Sch} (h : SAt W A s) (hR : RightS s) {q : Nat} (hz : W.rowIs q 41 4 zeroT) (hb : ∀ k, k ≠ q → k < W.heap.size → W'.heap[k]? = W.heap[k]?) (hs : W.heap.size ≤ W'.heap.size) : SAt W' A s :=
  ⟨fun h0 => by
    obtain ⟨b, off, hA, hlt, hc⟩ := h.some_ h0
    have hbq : b ≠ q := fun e => by
      obtain ⟨Ai, ci, h1, _⟩ := hc 0 h0
      rw [e] at h1
      have hl := (hR.2.2 0 h0).1
      rcases zero_cell hz h1 with g | g | g
      · cases g
      · cases g
      · injection g with g1 g2 g3; omega
    refine ⟨b, off, hA, Nat.lt_of_lt_of_le hlt hs, fun i hi => ?_⟩
    obtain ⟨Ai, ci, h1, h2⟩ := hc i hi
    refine ⟨Ai, ci, (World.cell?_of_block (w := W) (a := ⟨b, off + i, none⟩) (hb b hbq hlt)).trans h1, ⟨fun hl0 => ?_⟩⟩
    obtain ⟨b', off', hA', hlt', hc'⟩ := h2.some_ hl0
    have hbq' : b' ≠ q := fun e => by
      have h3 := (hc' 0 hl0).1
      rw [e] at h3
      rcases zero_cell hz h3 with g | g | g
      · injection g with g1 g2; cases g1
      · cases g
      · cases g
    exact ⟨b', off', hA', Nat.lt_of_lt_of_le hlt' hs, fun j hj => ⟨(World.cell?_of_block (w := W) (a := ⟨b', off' + j * 2, none⟩) (hb b' hbq' hlt')).trans (hc' j hj).1, (World.cell?_of_block (w := W) (a := ⟨b', off' + j * 2 + 1, none⟩) (hb b' hbq' hlt')).trans (hc' j hj).2⟩⟩⟩
theorem madeq_store {w w1 w2 : World} {d : Nat} {s : Sch} {A : Option Addr} {t : Nat} {x : Tr} {An Ak : Option Addr} (hR : RightS s) (h4 : ∀ i, i < s.n → s.len i ≤ 4) (hS : SAt w1 A s) (ht : t < s.n) (hM : MadeT s d t x) (hT : TAt w2 (fun b => w1.heap.size ≤ b) x An Ak) (hB : Below w.heap.size w w1) (hB2 : Below w1.heap.size w1 w2) (hz : w.heap.size + 1 < w1.heap.size) (hz2 : w2.rowIs (w.heap.size + 1) 41 4 zeroT) (u0 u1 u2 u3 : Value) :
    MadeQ w d s A t x An Ak ((((w2.setCell ⟨w.heap.size + 1, 0, none⟩ u0).setCell ⟨w.heap.size + 1, 1, none⟩ u1).setCell ⟨w.heap.size + 1, 2, none⟩ u2).setCell ⟨w.heap.size + 1, 3, none⟩ u3) := by
  have hblk : ∀ k, k ≠ w.heap.size + 1 → ((((w2.setCell ⟨w.heap.size + 1, 0, none⟩ u0).setCell ⟨w.heap.size + 1, 1, none⟩ u1).setCell ⟨w.heap.size + 1, 2, none⟩ u2).setCell ⟨w.heap.size + 1, 3, none⟩ u3).heap[k]? = w2.heap[k]? := fun k hk => by
    rw [Below.heap_setCell _ ⟨w.heap.size + 1, 3, none⟩ _ k hk, Below.heap_setCell _ ⟨w.heap.size + 1, 2, none⟩ _ k hk, Below.heap_setCell _ ⟨w.heap.size + 1, 1, none⟩ _ k hk, Below.heap_setCell _ ⟨w.heap.size + 1, 0, none⟩ _ k hk]
  have hsz : w2.heap.size ≤ ((((w2.setCell ⟨w.heap.size + 1, 0, none⟩ u0).setCell ⟨w.heap.size + 1, 1, none⟩ u1).setCell ⟨w.heap.size + 1, 2, none⟩ u2).setCell ⟨w.heap.size + 1, 3, none⟩ u3).heap.size := (((((Below.refl 0 w2).setCell (Nat.zero_le _) _).setCell (Nat.zero_le _) _).setCell (Nat.zero_le _) _).setCell (Nat.zero_le _) _).size
  have hB3 := Below.step hB hB2 hB.size
  have hle : ∀ j, w.heap.size ≤ (⟨w.heap.size + 1, j, none⟩ : Addr).block := fun j => by show w.heap.size ≤ w.heap.size + 1; omega
  exact ⟨hR, h4, (hS.below hB2).keepZ hR hz2 (fun k hk _ => hblk k hk) hsz, ht, hM, hT.keep (fun b hP _ => hblk b (by omega)) (fun b hb _ => by omega) hsz, (((hB3.setCell (hle 0) _).setCell (hle 1) _).setCell (hle 2) _).setCell (hle 3) _⟩

end Go.Proofs.YtkhbhkllnigbgaaDoor
