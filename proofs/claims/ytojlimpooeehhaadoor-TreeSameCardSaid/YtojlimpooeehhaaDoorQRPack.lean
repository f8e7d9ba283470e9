/- Rows of words; the document's Pack; Same. -/
import Derived.Test.YtojlimpooeehhaaDoorQPack
import Derived.Test.YtojlimpooeehhaaDoorQRight
import Derived.Maps.AppendAt
import Derived.Deep.AppendLies
import Derived.OwnWalk
import Derived.Laws.AppendOwnNone
import Derived.RangeFuncBox
namespace Go.Proofs.YtojlimpooeehhaaDoor
open Go.ChangeShapes Go.WideShapes Go.ChangeAt Go.RowKit
/-- A row of L words. -/
structure WRow (W : World) (A : Option Addr) (L : Nat) (f : Nat → Nat) : Prop where
  lt : ∀ j, j < L → f j < 18446744073709551616
  some_ : 0 < L → ∃ b off, A = some ⟨b, off, none⟩ ∧ b < W.heap.size ∧ ∀ j, j < L → W.cell? ⟨b, off + j, none⟩ = some (.int .u64 (f j : Nat))
theorem WRow.below {W W' : World} {A : Option Addr} {L : Nat} {f : Nat → Nat} (h : WRow W A L f) (hb : Below W.heap.size W W') : WRow W' A L f :=
  ⟨h.lt, fun h0 => by
    obtain ⟨b, off, hA, hlt, hc⟩ := h.some_ h0
    exact ⟨b, off, hA, Nat.lt_of_lt_of_le hlt hb.size, fun j hj => (hb.cell (p := ⟨b, off + j, none⟩) hlt).trans (hc j hj)⟩⟩
theorem wrow_of_rowIs {W : World} {g n : Nat} {f : Nat → Nat} (h : W.rowIs g 30 n (fun j => .int .u64 (f j : Nat))) (hf : ∀ j, j < n → f j < 18446744073709551616) : WRow W (some ⟨g, 0, none⟩) n f :=
  ⟨hf, fun _ => ⟨g, 0, rfl, h.lt, fun j hj => by rw [Nat.zero_add]; exact h.cell hj⟩⟩

def cellsW (f : Nat → Nat) (n : Nat) : List Value := (List.range n).map fun j => Value.int .u64 (f j : Nat)
theorem cellsW_succ (f : Nat → Nat) (n : Nat) : cellsW f (n + 1) = cellsW f n ++ [.int .u64 (f n : Nat)] := by
  simp [cellsW, List.range_succ]

/-- v is a row of the first m words, made since w. -/
structure RAt (f : Nat → Nat) (w : World) (m : Nat) (v : Value) (W : World) : Prop where
  own : W.ownsRow w.heap.size 30 1 v m (cellsW f m)
  below : Below w.heap.size w W
theorem RAt.next {f : Nat → Nat} {w W w1 : World} {m : Nat} {v v' : Value} (h : RAt f w m v W)
    (ho : w1.ownsRow w.heap.size 30 1 v' (m + 1) (cellsW f m ++ [.int .u64 (f m : Nat)])) (hg : (W.alloc (.cells #[.int .u64 (f m : Nat)] 30)).grownBy w1 v.ownBlock) : RAt f w (m + 1) v' w1 := by
  refine ⟨by rw [cellsW_succ]; exact ho, ?_⟩
  refine (h.below.alloc h.below.size _).trans ⟨hg.os, hg.tape, hg.output, hg.size, fun k hk => hg.block k ?_ ?_⟩
  · have := h.below.size; simp; omega
  · intro e
    have := (h.own.lt k e.symm).1
    omega
theorem addr_add (b off k : Nat) : (⟨b, off, none⟩ : Addr).add k = ⟨b, off + k, none⟩ := by
  unfold Addr.add
  by_cases h : k = 0 <;> simp [h]
theorem RAt.row {f : Nat → Nat} {w W : World} {m : Nat} {v : Value} (h : RAt f w m v W) (hf : ∀ j, j < m → f j < 18446744073709551616) : ∃ A c, v = .slice A m c ∧ WRow W A m f := by
  rcases h.own.2 with ⟨rfl, rfl⟩ | ⟨g, cap, cur, rfl, hg, hh, _⟩
  · exact ⟨none, 0, rfl, hf, fun h => absurd h (by omega)⟩
  · refine ⟨_, _, rfl, hf, fun _ => ⟨g, 0, rfl, (Array.getElem?_eq_some_iff.1 hh).1, fun j hj => ?_⟩⟩
    have := h.own.cells (g := g) rfl j (.int .u64 (f j : Nat)) (by simp [cellsW, hj])
    rw [addr_add] at this
    exact this

theorem RAt.drewN {f : Nat → Nat} {w W : World} {m : Nat} {v : Value} (h : RAt f w m v W) (k : Nat) : RAt f w m v (W.drewN k) := ⟨h.own, below_drewN h.below k⟩
theorem tl_lt (d : Nat → Nat) (c i : Nat) (h : ∀ j, j < i + c → d j < 64) : tl d i c < 64 ^ c := by
  induction c generalizing i with
  | zero => simp [tl]
  | succ c ih =>
    have h1 := ih (i + 1) fun j hj => h j (by omega)
    have h2 := h i (by omega)
    rw [tl, Nat.pow_succ]
    omega
theorem tl_prev (d : Nat → Nat) (L c : Nat) (h : c < L) : tl d (L - (c + 1)) (c + 1) = d (L - (c + 1)) + 64 * tl d (L - c) c := by
  rw [tl, show L - (c + 1) + 1 = L - c by omega]

/-- Rows of words that are the same. -/
def sameW (L L' : Nat) (f f' : Nat → Nat) : Prop := L = L' ∧ ∀ i, i < L → f i = f' i
noncomputable def sameWB (L L' : Nat) (f f' : Nat → Nat) : Bool := @decide (sameW L L' f f') (Classical.propDecidable _)
theorem sameWB_true {L L' : Nat} {f f' : Nat → Nat} (h : sameW L L' f f') : sameWB L L' f f' = true := by simp [sameWB, h]
theorem sameWB_false {L L' : Nat} {f f' : Nat → Nat} (h : ¬ sameW L L' f f') : sameWB L L' f f' = false := by simp [sameWB, h]
set_option maxRecDepth 100000 in
set_option maxHeartbeats 2000000 in
theorem same_any (w : World) (A A' : Option Addr) (L L' c c' : Nat) (f f' : Nat → Nat) (hL : L ≤ 1000) (hr : WRow w A L f) (hr' : WRow w A' L' f') : Calls Tryd.prog 29 #[.slice A L c, .slice A' L' c'] w fun e w' => e = .returned (.bool (sameWB L L' f f')) ∧ Below w.heap.size w w' := by
  have Hr := Lib.hid hr
  have Hr' := Lib.hid hr'
  clear hr hr'
  by_cases hLL : L = L'
  · subst hLL
    go_enter Tryd.func29, Tryd.ntmps29
    go_wp2
    go_loopw [5] (fun iv wr => ∃ i m : Nat, i ≤ L ∧ iv = .int .i64 i ∧ wr = w.drewN m ∧ ∀ j, j < i → f j = f' j) (fun iv _ => L - (intOf iv).toNat)
    case atStart => exact ⟨0, 0, by omega, rfl, rfl, fun j hj => by omega⟩
    case round =>
      obtain ⟨i, m, hi, rfl, rfl, hp⟩ := hrel
      have HP := Lib.hid hp
      clear hp
      by_cases hlt : i < L
      · obtain ⟨b, off, rfl, hb, hcl⟩ := Hr.out.some_ (by omega)
        obtain ⟨b', off', rfl, hb', hcl'⟩ := Hr'.out.some_ (by omega)
        have h1 := hcl i hlt
        have h2 := hcl' i hlt
        clear hcl hcl'
        have h3 := fun n : Nat => show (w.drewN n).cell? _ = _ from h1
        have h4 := fun n : Nat => show (w.drewN n).cell? _ = _ from h2
        by_cases he : f i = f' i
        · rw [← he] at h2 h4
          go_wp2
          go_quiet (fail)
          go_wp2
          go_roundw
          case rel =>
            refine ⟨i + 1, _, by omega, by go_num, rfl, fun j hj => ?_⟩
            by_cases e : j = i
            · rw [e]; exact he
            · exact HP.out j (by omega)
          case measure => simp [intOf]; omega
        · have hne : ((f i : Int) != (f' i : Int)) = true := by simp; omega
          have hne' : (f i != f' i) = true := by simp; omega
          have HF : Hid (sameWB L L f f' = false) := Lib.hid (sameWB_false fun h => he (h.2 i hlt))
          go_wp2
          go_quiet (fail)
          go_wp2
          go_ret
          exact ⟨ret_bool HF.out.symm, below_drewN (below_drewN (Below.refl _ _) _) _⟩
      · have he : i = L := by omega
        subst he
        go_wp2
        go_ret
        exact ⟨ret_bool (sameWB_true ⟨rfl, HP.out⟩).symm, below_drewN (Below.refl _ _) _⟩
  · rw [sameWB_false fun h => hLL h.1]
    have hne : ((L : Int) != (L' : Int)) = true := by simp; omega
    have hne' : (L != L') = true := by simp; omega
    go_enter Tryd.func29, Tryd.ntmps29
    go_wp2
    first
      | (go_ret; exact ⟨rfl, Below.refl _ _⟩)
      | (go_quiet (fail); go_wp2; go_ret; exact ⟨rfl, below_drewN (Below.refl _ _) _⟩)

/-- The chapter's example: one type, Num and Many of itself. -/
def exS : Sch := ⟨1, fun _ => 2, fun _ j => if j = 0 then 1 else 5, fun _ _ => 0⟩
theorem exS_right : RightS exS := by
  refine ⟨by decide, by decide, fun i hi => ⟨by show 1 ≤ 2; omega, by show 2 ≤ 6; omega, fun j _ => ?_⟩⟩
  by_cases h : j = 0
  · simp [exS, fieldOk, h]
  · simp [exS, fieldOk, h]
theorem exS_wd : wd exS 0 = 2570 := by decide
theorem exS_at (w : World) : SAt ((w.alloc (.cells #[.int .i64 1, .int .i64 0, .int .i64 5, .int .i64 0] 64)).alloc (.cells #[.slice (some ⟨w.heap.size, 0, none⟩) 2 2] 65)) (some ⟨w.heap.size + 1, 0, none⟩) exS := by
  have r1 := (World.rowIs_alloc w #[.int .i64 1, .int .i64 0, .int .i64 5, .int .i64 0] 64 (fun j => if j = 0 then .int .i64 1 else if j = 2 then .int .i64 5 else .int .i64 0) (by intro j hj; match j, hj with | 0, _ => rfl | 1, _ => rfl | 2, _ => rfl | 3, _ => rfl)).alloc (.cells #[.slice (some ⟨w.heap.size, 0, none⟩) 2 2] 65)
  have r2 := World.rowIs_alloc (w.alloc (.cells #[.int .i64 1, .int .i64 0, .int .i64 5, .int .i64 0] 64)) #[.slice (some ⟨w.heap.size, 0, none⟩) 2 2] 65 (fun _ => .slice (some ⟨w.heap.size, 0, none⟩) 2 2) (by intro j hj; match j, hj with | 0, _ => rfl)
  simp only [World.size_alloc] at r2
  refine ⟨fun _ => ⟨w.heap.size + 1, 0, rfl, by simp, fun i hi => ?_⟩⟩
  obtain rfl : i = 0 := by have : i < 1 := hi; omega
  refine ⟨_, 2, r2.cell (i := 0) (by simp), ⟨fun _ => ⟨w.heap.size, 0, rfl, by simp; omega, fun j hj => ?_⟩⟩⟩
  obtain rfl | rfl : j = 0 ∨ j = 1 := by have : j < 2 := hj; omega
  · exact ⟨r1.cell (i := 0) (by simp), r1.cell (i := 1) (by simp)⟩
  · exact ⟨r1.cell (i := 2) (by simp), r1.cell (i := 3) (by simp)⟩

end Go.Proofs.YtojlimpooeehhaaDoor
