/- The document's own answers (intaglioref01): New, Because, At, as rows of parts. -/
import Derived.Test.YtplkeakkjkkfmaaDoorMake
import Derived.Maps.AppendAt
import Derived.Deep.AppendLies
import Derived.OwnWalk
import Derived.Laws.AppendOwnNone
namespace Go.Proofs.YtplkeakkjkkfmaaDoor
open Go.RowKit

def cellsP : List (Int × Int) → List Value
  | [] => []
  | (c, n) :: r => .int .i64 c :: .int .i64 n :: cellsP r

theorem cellsP_length : ∀ p : List (Int × Int), (cellsP p).length = p.length * 2
  | [] => rfl
  | (c, n) :: r => by simp [cellsP, cellsP_length r]; omega

/-- v is a row of p's parts, made since B. -/
structure Row (B : Nat) (v : Value) (p : List (Int × Int)) (W : World) : Prop where
  own : W.ownsRow B 64 2 v p.length (cellsP p)
  nil : p = [] → v = .slice none 0 0

theorem Row.below {B : Nat} {v : Value} {p : List (Int × Int)} {W W' : World} (h : Row B v p W) (hb : Below W.heap.size W W') : Row B v p W' :=
  ⟨h.own.kept (row := none) ⟨hb.os, hb.tape, hb.output, hb.size, fun k hk _ => hb.block k hk⟩ (by cases v.ownBlock <;> simp), h.nil⟩
theorem row_nil (B : Nat) (W : World) : Row B (.slice none 0 0) [] W := ⟨World.ownsRow_nil _ _ _ _, fun _ => rfl⟩

theorem cellsP_one : ∀ (p : List (Int × Int)), ∀ u ∈ cellsP p, u.oneCell' = true
  | [], u, h => by simp [cellsP] at h
  | (c, n) :: r, u, h => by
    simp only [cellsP, List.mem_cons] at h
    rcases h with rfl | rfl | h
    · rfl
    · rfl
    · exact cellsP_one r u h

/-- A row of one part, just made. -/
theorem row_one (B : Nat) (W : World) (hB : B ≤ W.heap.size) (c n : Int) : (W.alloc (.cells #[.int .i64 c, .int .i64 n] 64)).ownsRow B 64 2 (.slice (some ⟨W.heap.size, 0, none⟩) 1 1) 1 (cellsP [(c, n)]) :=
  ⟨rfl, .inr ⟨_, _, _, rfl, hB, heap_alloc_new W _, Nat.le_refl _, by unfold maxLen; omega, rfl, rfl⟩⟩


theorem info64 : (Tryd.prog.info? 64).map (fun i => (i.zero, i.size, i.bytes)) = some (some (.agg #[.int .i64 0, .int .i64 0]), 2, 16) := by kernel_rfl

set_option maxRecDepth 100000 in
set_option maxHeartbeats 400000 in
theorem ref_new_nil (w : World) : Calls Tryd.prog 43 #[.int .i64 0] w fun e w' => e = .returned (.slice none 0 0) ∧ w = w' := by
  go_enter Tryd.func43, Tryd.ntmps43
  go_wp2
  go_ret
  exact ⟨rfl, rfl⟩

set_option maxRecDepth 100000 in
set_option maxHeartbeats 400000 in
theorem ref_new_code (c : Int) (hc : (c == 0) = false) (w : World) : Calls Tryd.prog 43 #[.int .i64 c] w fun e w' => e = .returned (.slice (some ⟨w.heap.size, 0, none⟩) 1 1) ∧ w' = w.alloc (.cells #[.int .i64 c, .int .i64 0] 64) := by
  go_enter Tryd.func43, Tryd.ntmps43
  go_wp2
  go_ret
  exact ⟨rfl, rfl⟩

theorem own_mono {w : World} {B B' : Nat} {e : TypeId} {size : Nat} {v : Value} {n : Nat} {xs : List Value} (h : w.ownsRow B e size v n xs) (hb : B' ≤ B) : w.ownsRow B' e size v n xs := by
  rcases h with ⟨h1, h2 | ⟨g, cap, cur, hv, hg, rest⟩⟩
  · exact ⟨h1, .inl h2⟩
  · exact ⟨h1, .inr ⟨g, cap, cur, hv, by omega, rest⟩⟩

/-- A row's value, and its cells, where it has a part at least. -/
theorem row_form {B : Nat} {v : Value} {x : Int × Int} {r : List (Int × Int)} {w : World} (h : Row B v (x :: r) w) :
    ∃ g cap, v = .slice (some ⟨g, 0, none⟩) (r.length + 1) cap ∧ g < w.heap.size ∧ (∀ j u, (cellsP (x :: r))[j]? = some u → w.cell? ((⟨g, 0, none⟩ : Addr).add j) = some u) := by
  rcases h.own.2 with ⟨_, h0⟩ | ⟨g, cap, cur, rfl, _, hg, _⟩
  · simp at h0
  · exact ⟨g, cap, rfl, (Array.getElem?_eq_some_iff.1 hg).1, h.own.cells (g := g) rfl⟩

theorem grown_below {w w1 w2 : World} {row : Option Nat} (hb : Below w.heap.size w w1) (hg : w1.grownBy w2 row) (hr : ∀ k, row = some k → w.heap.size ≤ k) : Below w.heap.size w w2 :=
  hb.grown hg hb.size hr

set_option maxRecDepth 100000 in
set_option maxHeartbeats 1000000 in
theorem ref_because_ok (B : Nat) (p : List (Int × Int)) (hp : p.length ≤ 100) (v : Value) (w : World) (hB : B ≤ w.heap.size) (h : Row B v p w) :
    Calls Tryd.prog 28 #[.int .i64 0, v] w fun e w' => ∃ v', e = .returned v' ∧ Row B v' p w' ∧ Below w.heap.size w w' := by
  obtain ⟨i0, hi, hz0, hz1, hz2⟩ := info_parts info64
  cases p with
  | nil =>
    obtain rfl := h.nil rfl
    have hown := World.ownsRow_nil w B 64 2
    have H := Lib.hid h; clear h
    go_enter Tryd.func28, Tryd.ntmps28
    go_wp2_with (first | (go_at_call 43; refine (ref_new_nil _).mono ?_; rintro e w' ⟨rfl, rfl⟩) | (at_builtin; refine wpList_append_own_none rfl _ _ 27 rfl B 64 i0 2 Tryd.underlying27 hi _ _ _ rfl hown rfl ?_))
    go_ret
    exact ⟨_, rfl, H.out, Below.refl _ _⟩
  | cons x r =>
    obtain ⟨g, cap, rfl, hg, hcl⟩ := row_form h
    have Hcl := Lib.hid hcl; clear hcl
    have Hl := Lib.hid h.own.1
    have hown := World.ownsRow_nil w w.heap.size 64 2
    simp only [List.length_cons] at hp
    clear h
    go_enter Tryd.func28, Tryd.ntmps28
    go_wp2_with (first | (go_at_call 43; refine (ref_new_nil _).mono ?_; rintro e w' ⟨rfl, rfl⟩) | (at_builtin; refine wpList_append_own _ rfl _ _ 27 rfl w.heap.size 64 i0 (.agg #[.int .i64 0, .int .i64 0]) 2 16 Tryd.underlying27 hi hz0 hz1 hz2 rfl (by decide) _ _ _ rfl hown ⟨g, 0, none⟩ (r.length + 1) cap (cellsP (x :: r)) rfl Hl.out Hcl.out (cellsP_one _) (by unfold maxLen; omega) (by omega) (Nat.le_refl _) ?_; intro v' w1 hown' hgrow hnil))
    go_ret
    refine ⟨_, rfl, ⟨?_, fun h => by cases h⟩, grown_below (Below.refl _ _) hgrow (fun k hk => by cases hk)⟩
    have := own_mono hown' hB
    simpa using this

set_option maxRecDepth 100000 in
set_option maxHeartbeats 1000000 in
theorem ref_because_code (B : Nat) (c : Int) (hc : (c == 0) = false) (p : List (Int × Int)) (hp : p.length ≤ 100) (v : Value) (w : World) (hB : B ≤ w.heap.size) (h : Row B v p w) :
    Calls Tryd.prog 28 #[.int .i64 c, v] w fun e w' => ∃ v', e = .returned v' ∧ Row B v' ((c, 0) :: p) w' ∧ Below w.heap.size w w' := by
  obtain ⟨i0, hi, hz0, hz1, hz2⟩ := info_parts info64
  have hown := row_one w.heap.size w (Nat.le_refl _) c 0
  cases p with
  | nil =>
    obtain rfl := h.nil rfl
    clear h
    have Hown := Lib.hid hown; clear hown
    go_enter Tryd.func28, Tryd.ntmps28
    go_wp2_with (first | (go_at_call 43; refine (ref_new_code c hc _).mono ?_; rintro e w' ⟨rfl, rfl⟩) | (at_builtin; refine wpList_append_own_none rfl _ _ 27 rfl w.heap.size 64 i0 2 Tryd.underlying27 hi _ _ _ rfl Hown.out rfl ?_))
    go_ret
    exact ⟨_, rfl, ⟨own_mono Hown.out hB, fun h => by cases h⟩, (Below.refl _ _).alloc (Nat.le_refl _) _⟩
  | cons x r =>
    obtain ⟨g, cap, rfl, hg, hcl⟩ := row_form h
    have hcl1 : ∀ j u, (cellsP (x :: r))[j]? = some u → (w.alloc (.cells #[.int .i64 c, .int .i64 0] 64)).cell? ((⟨g, 0, none⟩ : Addr).add j) = some u := fun j u hu => by
      refine (World.cell?_of_block (w := w) ?_).trans (hcl j u hu)
      exact Below.heap_alloc w _ _ (by rw [show ((⟨g, 0, none⟩ : Addr).add j).block = g from by unfold Addr.add; split <;> rfl]; exact hg)
    have Hcl := Lib.hid hcl1; clear hcl hcl1
    have Hl := Lib.hid h.own.1
    have Hown := Lib.hid hown; clear hown
    simp only [List.length_cons] at hp
    clear h
    go_enter Tryd.func28, Tryd.ntmps28
    go_wp2_with (first | (go_at_call 43; refine (ref_new_code c hc _).mono ?_; rintro e w' ⟨rfl, rfl⟩) | (at_builtin; refine wpList_append_own _ rfl _ _ 27 rfl w.heap.size 64 i0 (.agg #[.int .i64 0, .int .i64 0]) 2 16 Tryd.underlying27 hi hz0 hz1 hz2 rfl (by decide) _ _ _ rfl Hown.out ⟨g, 0, none⟩ (r.length + 1) cap (cellsP (x :: r)) rfl Hl.out Hcl.out (cellsP_one _) (by unfold maxLen; omega) (by omega) (by simp) ?_; intro v' w1 hown' hgrow hnil))
    go_ret
    refine ⟨_, rfl, ⟨?_, fun h => by cases h⟩, grown_below ((Below.refl _ _).alloc (Nat.le_refl _) _) hgrow (fun k hk => by cases hk; exact Nat.le_refl _)⟩
    have := own_mono hown' hB
    simpa [cellsP, Nat.add_comm] using this

theorem ref_because (B : Nat) (c : Int) (p : List (Int × Int)) (hp : p.length ≤ 100) (v : Value) (w : World) (hB : B ≤ w.heap.size) (h : Row B v p w) :
    Calls Tryd.prog 28 #[.int .i64 c, v] w fun e w' => ∃ v', e = .returned v' ∧ Row B v' (becauseP c p) w' ∧ Below w.heap.size w w' := by
  by_cases hc : c = 0
  · subst hc; simpa [becauseP] using ref_because_ok B p hp v w hB h
  · simpa [becauseP, hc] using ref_because_code B c (by simpa using hc) p hp v w hB h

set_option maxRecDepth 100000 in
set_option maxHeartbeats 1000000 in
theorem ref_at (B : Nat) (n : Int) (p : List (Int × Int)) (hp : p.length ≤ 100) (v : Value) (w : World) (hB : B ≤ w.heap.size) (h : Row B v p w) :
    Calls Tryd.prog 27 #[v, .int .i64 n] w fun e w' => ∃ v', e = .returned v' ∧ Row B v' (atP p n) w' ∧ Below w.heap.size w w' := by
  obtain ⟨i0, hi, hz0, hz1, hz2⟩ := info_parts info64
  cases p with
  | nil =>
    obtain rfl := h.nil rfl
    clear h
    go_enter Tryd.func27, Tryd.ntmps27
    go_wp2
    go_ret
    exact ⟨_, rfl, row_nil B w, Below.refl _ _⟩
  | cons x r =>
    have hown := row_one w.heap.size w (Nat.le_refl _) 0 n
    obtain ⟨g, cap, rfl, hg, hcl⟩ := row_form h
    have hcl1 : ∀ j u, (cellsP (x :: r))[j]? = some u → (w.alloc (.cells #[.int .i64 0, .int .i64 n] 64)).cell? ((⟨g, 0, none⟩ : Addr).add j) = some u := fun j u hu => by
      refine (World.cell?_of_block (w := w) ?_).trans (hcl j u hu)
      exact Below.heap_alloc w _ _ (by rw [show ((⟨g, 0, none⟩ : Addr).add j).block = g from by unfold Addr.add; split <;> rfl]; exact hg)
    have Hcl := Lib.hid hcl1; clear hcl hcl1
    have Hl := Lib.hid h.own.1
    have Hown := Lib.hid hown; clear hown
    simp only [List.length_cons] at hp
    clear h
    go_enter Tryd.func27, Tryd.ntmps27
    go_wp2_with (at_builtin; refine wpList_append_own _ rfl _ _ 27 rfl w.heap.size 64 i0 (.agg #[.int .i64 0, .int .i64 0]) 2 16 Tryd.underlying27 hi hz0 hz1 hz2 rfl (by decide) _ _ _ rfl Hown.out ⟨g, 0, none⟩ (r.length + 1) cap (cellsP (x :: r)) rfl Hl.out Hcl.out (cellsP_one _) (by unfold maxLen; omega) (by omega) (by simp) ?_; intro v' w1 hown' hgrow hnil)
    go_ret
    refine ⟨_, rfl, ⟨?_, fun h => by cases h⟩, grown_below ((Below.refl _ _).alloc (Nat.le_refl _) _) hgrow (fun k hk => by cases hk; exact Nat.le_refl _)⟩
    have := own_mono hown' hB
    simpa [cellsP, atP, Nat.add_comm] using this

end Go.Proofs.YtplkeakkjkkfmaaDoor
