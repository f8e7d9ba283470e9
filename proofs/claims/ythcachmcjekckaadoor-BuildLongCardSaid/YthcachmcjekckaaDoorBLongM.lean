/- A long message's struct: mathematics. -/
import Derived.Test.YthcachmcjekckaaDoorBMsg
import Derived.Test.YthcachmcjekckaaDoorBPiece
import Derived.Test.YthcachmcjekckaaDoorTKids
import Derived.Laws.MakeOwn
namespace Go.Proofs.YthcachmcjekckaaDoor
open Go.ChangeShapes Go.WideShapes Go.ChangeAt Go.RowKit
/-- A type that has many structs of the other, which has three rows of numbers. -/
def lgS : Sch := ⟨2, fun i => if i = 0 then 1 else 3, fun i _ => if i = 0 then 5 else 3, fun i _ => if i = 0 then 1 else 0⟩
theorem lgS_right : RightS lgS := by
  refine ⟨by decide, by decide, fun i hi => ?_⟩
  obtain rfl | rfl : i = 0 ∨ i = 1 := by have : i < 2 := hi; omega
  · refine ⟨by show 1 ≤ 1; omega, by show 1 ≤ 6; omega, fun j _ => ?_⟩
    simp [lgS, fieldOk]
  · refine ⟨by show 1 ≤ 3; omega, by show 3 ≤ 6; omega, fun j _ => ?_⟩
    simp [lgS, fieldOk]
/-- How many numbers the q-th row has; a field of so many; the i-th struct; k of them in one field; the struct of that. -/
def lgA (n q : Nat) : Nat := min (n - 12 * q) 12
def lgF (m : Nat) : Tr := .mk 0 ⟨#[]⟩ m (fun _ => 0) 0 (fun _ => .leaf)
def lgO (n i : Nat) : Tr := .mk 0 ⟨#[]⟩ 0 (fun _ => 0) 3 (fun j => lgF (lgA n (3 * i + j)))
def lgY (n k : Nat) : Tr := .mk 0 ⟨#[]⟩ 0 (fun _ => 0) k (fun i => lgO n i)
def lgX (n k : Nat) : Tr := .mk 0 ⟨#[]⟩ 0 (fun _ => 0) 1 (fun _ => lgY n k)
theorem lgA_le (n q : Nat) : lgA n q ≤ 12 := Nat.min_le_right _ _
theorem lgA_left (n q : Nat) : (n - 12 * q) - lgA n q = n - 12 * (q + 1) := by unfold lgA; omega
theorem lgO_sum (n i : Nat) : sumN (fun j => lgA n (3 * i + j)) 3 + (n - 12 * (3 * (i + 1))) = n - 12 * (3 * i) := by
  simp only [sumN, lgA]; omega
theorem lg_sum (n k : Nat) : sumN (fun i => sumN (fun j => lgA n (3 * i + j)) 3) k + (n - 12 * (3 * k)) = n := by
  induction k with
  | zero => simp [sumN]
  | succ k ih =>
    have h := lgO_sum n k
    rw [sumN]
    omega
theorem wds_lgF (m : Nat) : wds false (lgF m) = m := by
  rw [wds_false]
  show cnt 0 + m + 0 = m
  simp [cnt]
theorem wds_lgO (n i : Nat) : wds true (lgO n i) = 3 + sumN (fun j => lgA n (3 * i + j)) 3 := by
  rw [wds_true]
  show 3 + sumN (fun j => wds false (lgF (lgA n (3 * i + j)))) 3 = _
  simp only [wds_lgF]
theorem sumN_three (f : Nat → Nat) (k : Nat) : sumN (fun i => 3 + f i) k = 3 * k + sumN f k := by
  induction k with
  | zero => simp [sumN]
  | succ k ih => rw [sumN, sumN, ih]; omega
theorem wds_lgX (n k : Nat) : wds true (lgX n k) = 1 + 3 * k + n - (n - 12 * (3 * k)) := by
  have e : wds true (lgX n k) = 1 + wds false (lgY n k) := by
    rw [wds_true]
    show 1 + (0 + wds false (lgY n k)) = _
    omega
  have e2 : wds false (lgY n k) = sumN (fun i => wds true (lgO n i)) k := by
    rw [wds_false]
    show cnt 0 + 0 + sumN (fun i => wds true (lgO n i)) k = _
    simp [cnt]
  rw [e, e2]
  simp only [wds_lgO]
  rw [sumN_three]
  have := lg_sum n k
  omega
theorem lgF_kind (m : Nat) (hm : m ≤ 12) : kindOk 3 (lgF m) := by
  refine ⟨fun _ => rfl, fun _ => rfl, fun h => absurd rfl h, fun _ => rfl, by show (0 : Nat) ≤ 40; omega, hm, by show (0 : Nat) ≤ 12; omega, fun h => by omega⟩
theorem lgO_chk (n i d : Nat) : chk lgS (d + 1) 1 (lgO n i) = 0 := by
  rw [chk_succ, if_pos (show structOk lgS 1 (lgO n i) from ⟨rfl, rfl, rfl, rfl⟩)]
  refine fe_zero.2 fun j _ => ?_
  show (if kindOk 3 (lgF (lgA n (3 * i + j))) then fe _ 0 else 24) = 0
  rw [if_pos (lgF_kind _ (lgA_le n _))]
  rfl
theorem lgY_kind (n k : Nat) (hk : k ≤ 12) : kindOk 5 (lgY n k) := by
  refine ⟨fun _ => rfl, fun _ => rfl, fun _ => rfl, fun h => by omega, by show (0 : Nat) ≤ 40; omega, by show (0 : Nat) ≤ 12; omega, hk, fun h => by omega⟩
theorem lgX_chk (n k : Nat) (hk : k ≤ 12) : chkC lgS 0 (lgX n k) = 0 := by
  have h : chkC lgS ((0 : Nat) : Int) (lgX n k) = chk lgS 5 0 (lgX n k) := chkC_ok lgS_right (by decide) _
  rw [Int.natCast_zero] at h
  rw [h, chk_succ, if_pos (show structOk lgS 0 (lgX n k) from ⟨rfl, rfl, rfl, rfl⟩)]
  refine fe_zero.2 fun j _ => ?_
  show (if kindOk 5 (lgY n k) then fe (fun i => chk lgS 4 1 (lgO n i)) k else 24) = 0
  rw [if_pos (lgY_kind n k hk)]
  exact fe_zero.2 fun i _ => lgO_chk n i 3
theorem lgX_size (n k : Nat) (hk : k ≤ 12) : sizeC lgS 0 (lgX n k) = 2 + 3 * k + n - (n - 12 * (3 * k)) := by
  rw [sizeC, if_pos (lgX_chk n k hk), wds_lgX]
  omega
theorem cnt_lgF (m : Nat) : cntT (lgF m) = 1 := by rw [cntT_eq]; rfl
theorem cnt_lgO (n i : Nat) : cntT (lgO n i) = 4 := by
  rw [cntT_eq]
  show 1 + sumN (fun j => cntT (lgF (lgA n (3 * i + j)))) 3 = 4
  simp only [cnt_lgF, sumN]
theorem cnt_lgY (n k : Nat) (hk : k ≤ 12) : cntT (lgY n k) ≤ 49 := by
  rw [cntT_eq]
  have h : sumN (fun i => cntT (lgO n i)) k ≤ k * 4 := sumN_le fun i _ => by rw [cnt_lgO]; exact Nat.le_refl _
  show 1 + sumN (fun i => cntT (lgO n i)) k ≤ 49
  omega
theorem cnt_lgX (n k : Nat) (hk : k ≤ 12) : cntT (lgX n k) ≤ 50 := by
  rw [cntT_eq]
  have := cnt_lgY n k hk
  show 1 + (0 + cntT (lgY n k)) ≤ 50
  omega
theorem lgF_sm (m : Nat) (hm : m ≤ 12) : Sm 1 (lgF m) :=
  ⟨by show (0 : Nat) < _; omega, by show (0 : Nat) ≤ 50; omega, by show m ≤ 15; omega, ⟨by show (0 : Nat) ≤ 12; omega, by rw [cnt_lgF]; omega⟩, fun _ _ => by show (0 : Nat) < _; omega, fun j hj => absurd hj (Nat.not_lt_zero j)⟩
theorem lgO_sm (n i : Nat) : Sm 2 (lgO n i) :=
  ⟨by show (0 : Nat) < _; omega, by show (0 : Nat) ≤ 50; omega, by show (0 : Nat) ≤ 15; omega, ⟨by show (3 : Nat) ≤ 12; omega, by rw [cnt_lgO]; omega⟩, fun j hj => absurd hj (Nat.not_lt_zero j), fun _ _ => lgF_sm _ (lgA_le _ _)⟩
theorem lgX_sm (n k : Nat) (hk : k ≤ 12) : Sm 4 (lgX n k) :=
  ⟨by show (0 : Nat) < _; omega, by show (0 : Nat) ≤ 50; omega, by show (0 : Nat) ≤ 15; omega, ⟨by show (1 : Nat) ≤ 12; omega, by have := cnt_lgX n k hk; omega⟩, fun j hj => absurd hj (Nat.not_lt_zero j), fun _ _ =>
    ⟨by show (0 : Nat) < _; omega, by show (0 : Nat) ≤ 50; omega, by show (0 : Nat) ≤ 15; omega, ⟨hk, by have := cnt_lgY n k hk; show cntT (lgY n k) ≤ _; omega⟩, fun j hj => absurd hj (Nat.not_lt_zero j), fun i _ => lgO_sm n i⟩⟩
theorem lgX_code (n k : Nat) (hk : k ≤ 12) : bcode lgS 0 (lgX n k) = if 200 < 2 + 3 * k + n - (n - 12 * (3 * k)) then 21 else 0 := by
  rw [bcode, if_pos (lgX_chk n k hk), lgX_size n k hk]
/-- The head's lower half. -/
theorem lgX_head (n k : Nat) (hk : k ≤ 12) (h : 2 + 3 * k + n - (n - 12 * (3 * k)) ≤ 200) : ∃ r, bmsg lgS 0 (lgX n k) = (2 + 3 * k + n - (n - 12 * (3 * k))) :: r ∧ (bmsg lgS 0 (lgX n k)).length = 2 + 3 * k + n - (n - 12 * (3 * k)) := by
  have hc : bcode lgS 0 (lgX n k) = 0 := by rw [lgX_code n k hk, if_neg (by omega)]
  have hl := (bmsg_len hc).1
  rw [lgX_size n k hk] at hl
  have e : bmsg lgS 0 (lgX n k) = msgL lgS 0 (lgX n k) := by rw [bmsg, if_pos hc]; rfl
  refine ⟨piece lgS 5 0 1 (fun _ => lgX n k), ?_, hl⟩
  rw [e, msgL_piece, wds_lgX]
  have e3 : 1 + (1 + 3 * k + n - (n - 12 * (3 * k))) = 2 + 3 * k + n - (n - 12 * (3 * k)) := by omega
  rw [e3]
  generalize 2 + 3 * k + n - (n - 12 * (3 * k)) = z at h ⊢
  have e4 : refN ((z : Nat) : Int) ((0 : Nat) : Int) = z := by
    unfold refN
    rw [show (((0 : Nat) : Int) % 4294967296).toNat = 0 from rfl]
    omega
  rw [e4]
theorem lg_rest (q : Int) (n : Nat) (h1 : 1 ≤ n) (h2 : n ≤ 1000) : ∃ m : Nat, m < n ∧ (wrap64 (q.tmod (n : Int) + (n : Int))).tmod (n : Int) = (m : Int) := by
  have b1 : -(n : Int) < q.tmod (n : Int) := Int.lt_tmod_of_pos q (by omega)
  have b2 : q.tmod (n : Int) < (n : Int) := Int.tmod_lt_of_pos q (by omega)
  have e1 : wrap64 (q.tmod (n : Int) + (n : Int)) = q.tmod (n : Int) + (n : Int) := by unfold wrap64; omega
  rw [e1]
  have b3 : (q.tmod (n : Int) + (n : Int)).tmod (n : Int) < (n : Int) := Int.tmod_lt_of_pos _ (by omega)
  have b4 : 0 ≤ (q.tmod (n : Int) + (n : Int)).tmod (n : Int) := Int.tmod_nonneg _ (by omega)
  exact ⟨((q.tmod (n : Int) + (n : Int)).tmod (n : Int)).toNat, by omega, by omega⟩
theorem lgS_at (w : World) : SAt (((w.alloc (.cells #[.int .i64 5, .int .i64 1] 24)).alloc (.cells #[.int .i64 3, .int .i64 0, .int .i64 3, .int .i64 0, .int .i64 3, .int .i64 0] 24)).alloc (.cells #[.slice (some ⟨w.heap.size, 0, none⟩) 1 1, .slice (some ⟨w.heap.size + 1, 0, none⟩) 3 3] 25)) (some ⟨w.heap.size + 1 + 1, 0, none⟩) lgS := by
  have r1 := ((World.rowIs_alloc w #[.int .i64 5, .int .i64 1] 24 (fun j => if j = 0 then .int .i64 5 else .int .i64 1) (by intro j hj; match j, hj with | 0, _ => rfl | 1, _ => rfl)).alloc (.cells #[.int .i64 3, .int .i64 0, .int .i64 3, .int .i64 0, .int .i64 3, .int .i64 0] 24)).alloc (.cells #[.slice (some ⟨w.heap.size, 0, none⟩) 1 1, .slice (some ⟨w.heap.size + 1, 0, none⟩) 3 3] 25)
  have r2 := (World.rowIs_alloc (w.alloc (.cells #[.int .i64 5, .int .i64 1] 24)) #[.int .i64 3, .int .i64 0, .int .i64 3, .int .i64 0, .int .i64 3, .int .i64 0] 24 (fun j => if j % 2 = 0 then .int .i64 3 else .int .i64 0) (by intro j hj; match j, hj with | 0, _ => rfl | 1, _ => rfl | 2, _ => rfl | 3, _ => rfl | 4, _ => rfl | 5, _ => rfl)).alloc (.cells #[.slice (some ⟨w.heap.size, 0, none⟩) 1 1, .slice (some ⟨w.heap.size + 1, 0, none⟩) 3 3] 25)
  have r3 := World.rowIs_alloc ((w.alloc (.cells #[.int .i64 5, .int .i64 1] 24)).alloc (.cells #[.int .i64 3, .int .i64 0, .int .i64 3, .int .i64 0, .int .i64 3, .int .i64 0] 24)) #[.slice (some ⟨w.heap.size, 0, none⟩) 1 1, .slice (some ⟨w.heap.size + 1, 0, none⟩) 3 3] 25 (fun j => if j = 0 then .slice (some ⟨w.heap.size, 0, none⟩) 1 1 else .slice (some ⟨w.heap.size + 1, 0, none⟩) 3 3) (by intro j hj; match j, hj with | 0, _ => rfl | 1, _ => rfl)
  simp only [World.size_alloc] at r2 r3
  refine ⟨fun _ => ⟨w.heap.size + 1 + 1, 0, rfl, by simp, fun i hi => ?_⟩⟩
  obtain rfl | rfl : i = 0 ∨ i = 1 := by have : i < 2 := hi; omega
  · refine ⟨_, 1, r3.cell (i := 0) (by simp), ⟨fun _ => ⟨w.heap.size, 0, rfl, by simp; omega, fun j hj => ?_⟩⟩⟩
    obtain rfl : j = 0 := by have : j < 1 := hj; omega
    exact ⟨r1.cell (i := 0) (by simp), r1.cell (i := 1) (by simp)⟩
  · refine ⟨_, 3, r3.cell (i := 1) (by simp), ⟨fun _ => ⟨w.heap.size + 1, 0, rfl, by simp, fun j hj => ?_⟩⟩⟩
    obtain rfl | rfl | rfl : j = 0 ∨ j = 1 ∨ j = 2 := by have : j < 3 := hj; omega
    · exact ⟨r2.cell (i := 0) (by simp), r2.cell (i := 1) (by simp)⟩
    · exact ⟨r2.cell (i := 2) (by simp), r2.cell (i := 3) (by simp)⟩
    · exact ⟨r2.cell (i := 4) (by simp), r2.cell (i := 5) (by simp)⟩
/-- The cells of three fields, of which j have their numbers. -/
def lgR (A : Nat → Nat) (n i j p : Nat) : Value := if p % 4 = 0 then .int .u64 0 else if p % 4 = 1 then .string ⟨#[]⟩ else if p % 4 = 2 then (if p / 4 < j then .slice (some ⟨A (p / 4), 0, none⟩) (lgA n (3 * i + p / 4)) (lgA n (3 * i + p / 4)) else .slice none 0 0) else .slice none 0 0
structure L2g (Wm : World) (A : Nat → Nat) (n i j : Nat) (W : World) : Prop where
  be : Below Wm.heap.size Wm W
  bx : Cell4 W (Wm.heap.size + 1) 0 (lgO n i) none 0 (some ⟨Wm.heap.size, 0, none⟩) 3
  row : W.rowIs Wm.heap.size 32 12 (lgR A n i j)
  lt : Wm.heap.size + 2 ≤ W.heap.size
  nums : ∀ q, q < j → Wm.heap.size + 2 ≤ A q ∧ WRow W (some ⟨A q, 0, none⟩) (lgA n (3 * i + q)) (fun _ => 0)
theorem L2g.below {Wm : World} {A : Nat → Nat} {n i j : Nat} {W W' : World} (h : L2g Wm A n i j W) (hb : Below W.heap.size W W') : L2g Wm A n i j W' := ⟨Below.step h.be hb h.be.size, h.bx.of_block (hb.block _ (by have := h.lt; omega)), h.row.of_block (hb.block _ h.row.lt), Nat.le_trans h.lt hb.size, fun q hq => ⟨(h.nums q hq).1, (h.nums q hq).2.below hb⟩⟩
/-- One field more has its numbers: a row of zeros was made, and stored. -/
theorem L2g.next {Wm : World} {A : Nat → Nat} {n i j : Nat} {W : World} (h : L2g Wm A n i j W) {W' : World} (hs : W.heap.size + 1 = W'.heap.size) (hos : W'.os = W.os) (ht : W'.tape = W.tape) (hout : W'.output = W.output) (hb : ∀ b, b < W.heap.size → b ≠ Wm.heap.size → W'.heap[b]? = W.heap[b]?)
    (hr : W'.rowIs Wm.heap.size 32 12 (fun p => if p = j * 4 + 2 then .slice (some ⟨W.heap.size, 0, none⟩) (lgA n (3 * i + j)) (lgA n (3 * i + j)) else lgR A n i j p)) (hz : W'.rowIs W.heap.size 28 (lgA n (3 * i + j)) (fun _ => .int .u64 0)) : L2g Wm (adPut A j W.heap.size) n i (j + 1) W' := by
  have hlt := h.lt
  refine ⟨⟨hos.trans h.be.os, ht.trans h.be.tape, hout.trans h.be.output, by have := h.be.size; omega, fun b hb' => (hb b (by omega) (by omega)).trans (h.be.block b hb')⟩, h.bx.of_block (hb _ (by omega) (by omega)), hr.congr fun p hp => ?_, by omega, fun q hq => ?_⟩
  · by_cases e : p = j * 4 + 2
    · subst e
      have e1 : (j * 4 + 2) % 4 = 2 := by omega
      have e2 : (j * 4 + 2) / 4 = j := by omega
      simp [lgR, e1, e2, adPut_at]
    · rw [if_neg e]
      unfold lgR
      by_cases e0 : p % 4 = 2
      · have hne : ¬ p / 4 = j := by omega
        rw [e0]
        by_cases e3 : p / 4 < j
        · rw [if_pos e3, if_pos (show p / 4 < j + 1 by omega), show adPut A j W.heap.size (p / 4) = A (p / 4) by simp [adPut, hne]]
        · rw [if_neg e3, if_neg (show ¬ p / 4 < j + 1 by omega)]
      · rw [if_neg e0, if_neg e0]
  · by_cases e : q = j
    · subst e
      rw [adPut_at]
      exact ⟨hlt, fun _ _ => by omega, fun _ => ⟨W.heap.size, 0, rfl, by omega, fun t ht => by rw [Nat.zero_add]; exact hz.cell ht⟩⟩
    · rw [show adPut A j W.heap.size q = A q by simp [adPut, e]]
      have hq' := h.nums q (by omega)
      exact ⟨hq'.1, hq'.2.of_block (fun _ a ea hl => by cases ea; exact hb _ hl (by show A q ≠ _; omega)) (by omega)⟩
/-- All three have. -/
theorem L2g.tat {Wm : World} {A : Nat → Nat} {n i : Nat} {W : World} (h : L2g Wm A n i 3 W) : TAt W (fun b => Wm.heap.size ≤ b) (lgO n i) none (some ⟨Wm.heap.size, 0, none⟩) := by
  refine ⟨none_row _ _ _, fun _ => ⟨Wm.heap.size, 0, rfl, Nat.le_refl _, h.row.lt, fun j hj => ?_⟩⟩
  have hj' : j < 3 := hj
  have e0 : (j * 4) % 4 = 0 := by omega
  have e1 : (j * 4 + 1) % 4 = 1 := by omega
  have e2 : (j * 4 + 2) % 4 = 2 := by omega
  have e3 : (j * 4 + 3) % 4 = 3 := by omega
  have d2 : (j * 4 + 2) / 4 = j := by omega
  have c0 := h.row.cell (i := j * 4) (by omega)
  have c1 := h.row.cell (i := j * 4 + 1) (by omega)
  have c2 := h.row.cell (i := j * 4 + 2) (by omega)
  have c3 := h.row.cell (i := j * 4 + 3) (by omega)
  simp [lgR, e0] at c0
  simp [lgR, e1] at c1
  simp [lgR, e2, d2, hj'] at c2
  simp [lgR, e3] at c3
  rw [Nat.zero_add]
  have hq := h.nums j hj'
  refine ⟨some ⟨A j, 0, none⟩, lgA n (3 * i + j), none, 0, ⟨c0, c1, c2, c3⟩, ⟨hq.2, fun _ a ea => by cases ea; show Wm.heap.size ≤ A j; omega⟩, fun h => absurd h (Nat.lt_irrefl 0)⟩
/-- A box with no kids but v. -/
def kbT (v : Value) (p : Nat) : Value := if p = 0 then .int .u64 0 else if p = 1 then .string ⟨#[]⟩ else if p = 2 then .slice none 0 0 else v
/-- i structs have been appended. -/
structure L1g (Ws : World) (n k i : Nat) (v : Value) (f : Nat → Tr) (a1 : Nat → Option Addr) (k1 : Nat → Nat) (a2 : Nat → Option Addr) (k2 : Nat → Nat) (W : World) : Prop where
  be : Below Ws.heap.size Ws W
  vb : Cell4 W (Ws.heap.size + 1) 0 (lgX n k) none 0 (some ⟨Ws.heap.size, 0, none⟩) 1
  kb : W.rowIs Ws.heap.size 32 4 (kbT v)
  ka : KA (fun c => Ws.heap.size + 2 ≤ c) (Ws.heap.size + 2) f a1 k1 a2 k2 i v W
  lt : Ws.heap.size + 2 ≤ W.heap.size
theorem L1g.below {Ws : World} {n k i : Nat} {v : Value} {f : Nat → Tr} {a1 : Nat → Option Addr} {k1 : Nat → Nat} {a2 : Nat → Option Addr} {k2 : Nat → Nat} {W W' : World} (h : L1g Ws n k i v f a1 k1 a2 k2 W) (hb : Below W.heap.size W W') : L1g Ws n k i v f a1 k1 a2 k2 W' := ⟨Below.step h.be hb h.be.size, h.vb.of_block (hb.block _ (by have := h.lt; omega)), h.kb.of_block (hb.block _ h.kb.lt), h.ka.below hb, Nat.le_trans h.lt hb.size⟩
theorem L1g.start (Ws : World) (n k : Nat) : L1g Ws n k 0 (.slice none 0 0) (fun _ => .leaf) (fun _ => none) (fun _ => 0) (fun _ => none) (fun _ => 0) ((Ws.alloc (.cells #[.int .u64 0, .string ⟨#[]⟩, .slice none 0 0, .slice none 0 0] 32)).alloc (.cells #[.int .u64 0, .string ⟨#[]⟩, .slice none 0 0, .slice (some ⟨Ws.heap.size, 0, none⟩) 1 1] 32)) := by
  have r1 := (World.rowIs_alloc Ws #[.int .u64 0, .string ⟨#[]⟩, .slice none 0 0, .slice none 0 0] 32 (kbT (.slice none 0 0)) (by intro j hj; match j, hj with | 0, _ => rfl | 1, _ => rfl | 2, _ => rfl | 3, _ => rfl)).alloc (.cells #[.int .u64 0, .string ⟨#[]⟩, .slice none 0 0, .slice (some ⟨Ws.heap.size, 0, none⟩) 1 1] 32)
  have r2 := World.rowIs_alloc (Ws.alloc (.cells #[.int .u64 0, .string ⟨#[]⟩, .slice none 0 0, .slice none 0 0] 32)) #[.int .u64 0, .string ⟨#[]⟩, .slice none 0 0, .slice (some ⟨Ws.heap.size, 0, none⟩) 1 1] 32 (kbT (.slice (some ⟨Ws.heap.size, 0, none⟩) 1 1)) (by intro j hj; match j, hj with | 0, _ => rfl | 1, _ => rfl | 2, _ => rfl | 3, _ => rfl)
  simp only [World.size_alloc] at r2
  exact ⟨by (repeat (first | with_reducible exact Below.refl _ _ | with_reducible refine Below.drew ?_ | (with_reducible refine Below.setCell ?_ ?side _; case side => exact (by first | (simp; done) | (simp; omega) | omega)) | (with_reducible refine Below.alloc ?_ ?side _; case side => exact (by first | (simp; done) | (simp; omega) | omega)))), ⟨r2.cell (i := 0) (by simp), r2.cell (i := 1) (by simp), r2.cell (i := 2) (by simp), r2.cell (i := 3) (by simp)⟩, r1, KA.nil _ _ _ _ _ _ _ _, by simp⟩
theorem mk_three (w : World) : (Instr.makeSlice 30 (.int .i64 3) (.int .i64 3)).run Tryd.prog w = .ok (.slice (some ⟨w.heap.size, 0, none⟩) 3 3) (w.alloc (.cells #[.int .u64 0, .string ⟨#[]⟩, .slice none 0 0, .slice none 0 0, .int .u64 0, .string ⟨#[]⟩, .slice none 0 0, .slice none 0 0, .int .u64 0, .string ⟨#[]⟩, .slice none 0 0, .slice none 0 0] 32)) := by
  obtain ⟨i, hi, hz1, hz2, hz3⟩ := info_parts info_tree
  have hr := run_make (P := Tryd.prog) w 30 32 i (.agg #[.int .u64 0, .string ⟨#[]⟩, .slice none 0 0, .slice none 0 0]) Tryd.underlying30 hi hz1 .i64 .i64 3 3 (by omega) (by omega) (by rw [hz3]; omega) (by omega)
  rw [hz2] at hr
  have e : madeCells (Value.agg #[.int .u64 0, .string ⟨#[]⟩, .slice none 0 0, .slice none 0 0]).cells ((3 : Int).toNat * 4) = #[.int .u64 0, .string ⟨#[]⟩, .slice none 0 0, .slice none 0 0, .int .u64 0, .string ⟨#[]⟩, .slice none 0 0, .slice none 0 0, .int .u64 0, .string ⟨#[]⟩, .slice none 0 0, .slice none 0 0] := by kernel_rfl
  rw [e] at hr
  exact hr
theorem L2g.start (Wm : World) (A : Nat → Nat) (n i : Nat) : L2g Wm A n i 0 ((Wm.alloc (.cells #[.int .u64 0, .string ⟨#[]⟩, .slice none 0 0, .slice none 0 0, .int .u64 0, .string ⟨#[]⟩, .slice none 0 0, .slice none 0 0, .int .u64 0, .string ⟨#[]⟩, .slice none 0 0, .slice none 0 0] 32)).alloc (.cells #[.int .u64 0, .string ⟨#[]⟩, .slice none 0 0, .slice (some ⟨Wm.heap.size, 0, none⟩) 3 3] 32)) := by
  have r1 := (World.rowIs_alloc Wm #[.int .u64 0, .string ⟨#[]⟩, .slice none 0 0, .slice none 0 0, .int .u64 0, .string ⟨#[]⟩, .slice none 0 0, .slice none 0 0, .int .u64 0, .string ⟨#[]⟩, .slice none 0 0, .slice none 0 0] 32 (lgR A n i 0) (by intro j hj; match j, hj with | 0, _ => rfl | 1, _ => rfl | 2, _ => rfl | 3, _ => rfl | 4, _ => rfl | 5, _ => rfl | 6, _ => rfl | 7, _ => rfl | 8, _ => rfl | 9, _ => rfl | 10, _ => rfl | 11, _ => rfl)).alloc (.cells #[.int .u64 0, .string ⟨#[]⟩, .slice none 0 0, .slice (some ⟨Wm.heap.size, 0, none⟩) 3 3] 32)
  have r2 := World.rowIs_alloc (Wm.alloc (.cells #[.int .u64 0, .string ⟨#[]⟩, .slice none 0 0, .slice none 0 0, .int .u64 0, .string ⟨#[]⟩, .slice none 0 0, .slice none 0 0, .int .u64 0, .string ⟨#[]⟩, .slice none 0 0, .slice none 0 0] 32)) #[.int .u64 0, .string ⟨#[]⟩, .slice none 0 0, .slice (some ⟨Wm.heap.size, 0, none⟩) 3 3] 32 (kbT (.slice (some ⟨Wm.heap.size, 0, none⟩) 3 3)) (by intro j hj; match j, hj with | 0, _ => rfl | 1, _ => rfl | 2, _ => rfl | 3, _ => rfl)
  simp only [World.size_alloc] at r2
  exact ⟨by (repeat (first | with_reducible exact Below.refl _ _ | with_reducible refine Below.drew ?_ | (with_reducible refine Below.setCell ?_ ?side _; case side => exact (by first | (simp; done) | (simp; omega) | omega)) | (with_reducible refine Below.alloc ?_ ?side _; case side => exact (by first | (simp; done) | (simp; omega) | omega)))), ⟨r2.cell (i := 0) (by simp), r2.cell (i := 1) (by simp), r2.cell (i := 2) (by simp), r2.cell (i := 3) (by simp)⟩, r1, by simp, fun q hq => absurd hq (Nat.not_lt_zero q)⟩
theorem L2g.made {Wm : World} {A : Nat → Nat} {n i j a : Nat} {W : World} (h : L2g Wm A n i j W) (ha : lgA n (3 * i + j) = a) : L2g Wm (adPut A j W.heap.size) n i (j + 1) ((W.alloc (.cells (madeCells #[.int .u64 0] a) 28)).setCell ⟨Wm.heap.size, j * 4 + 2, none⟩ (.slice (some ⟨W.heap.size, 0, none⟩) a a)).drew := by
  subst ha
  have h2 := h.below ((Below.refl _ W).alloc (Nat.le_refl _) (.cells (madeCells #[.int .u64 0] (lgA n (3 * i + j))) 28))
  have hlt := h.lt
  refine h.next (by simp) rfl rfl rfl (fun b hb hne => (Below.heap_setCell (W.alloc (.cells (madeCells #[.int .u64 0] (lgA n (3 * i + j))) 28)) ⟨Wm.heap.size, j * 4 + 2, none⟩ _ b hne).trans (((Below.refl W.heap.size W).alloc (Nat.le_refl _) _).block b hb)) ?_ ?_
  · exact (h2.row.set (j * 4 + 2) _).drew
  · exact ((World.rowIs_made W (.int .u64 0) (lgA n (3 * i + j)) 28).setOther (a := ⟨Wm.heap.size, j * 4 + 2, none⟩) (by show W.heap.size ≠ Wm.heap.size; omega) _).drew
/-- One struct more was appended, and the row stored. -/
theorem L1g.next {Ws : World} {n k i : Nat} {v : Value} {f : Nat → Tr} {a1 : Nat → Option Addr} {k1 : Nat → Nat} {a2 : Nat → Option Addr} {k2 : Nat → Nat} {W Wx w1 : World} (h : L1g Ws n k i v f a1 k1 a2 k2 W) {y : Tr} {A1 : Option Addr} {K1 : Nat} {A2 : Option Addr} {K2 : Nat} (hx : Below W.heap.size W Wx) (hl : W.heap.size < Wx.heap.size) (hy : TAt W (fun c => Ws.heap.size + 2 ≤ c ∧ v.ownBlock ≠ some c) y A1 A2) {g cap : Nat}
    (ho : w1.ownsRow (Ws.heap.size + 2) 32 4 (.slice (some ⟨g, 0, none⟩) (i + 1) cap) (i + 1) (cells4 f a1 k1 a2 k2 i ++ [.int .u64 (y.num : Nat), .string y.bs, .slice A1 y.nl K1, .slice A2 y.kl K2])) (hg : Wx.grownBy w1 v.ownBlock) (hv : v.ownBlock = some g ∨ g = Wx.heap.size) :
    w1.cell? ⟨Ws.heap.size, 3, none⟩ = some v ∧ w1.frozen? ⟨Ws.heap.size, 3, none⟩ = false ∧ L1g Ws n k (i + 1) (.slice (some ⟨g, 0, none⟩) (i + 1) cap) (adPut f i y) (adPut a1 i A1) (adPut k1 i K1) (adPut a2 i A2) (adPut k2 i K2) (w1.setCell ⟨Ws.heap.size, 3, none⟩ (.slice (some ⟨g, 0, none⟩) (i + 1) cap)) := by
  have hvb : ∀ b, v.ownBlock = some b → Ws.heap.size + 2 ≤ b := fun b e => (World.ownsRow.lt h.ka.own b e).1
  have hlt := h.lt
  have hsz := hg.size
  have hxs := hx.size
  have hgb : Ws.heap.size + 2 ≤ g := by rcases hv with e | e; exact hvb g e; omega
  have blk : ∀ b, b < W.heap.size → v.ownBlock ≠ some b → w1.heap[b]? = W.heap[b]? := fun b hb hne => (hg.block b (by omega) (fun e => hne e.symm)).trans (hx.block b hb)
  have blk2 : ∀ b, b < W.heap.size → v.ownBlock ≠ some b → b ≠ Ws.heap.size → (w1.setCell ⟨Ws.heap.size, 3, none⟩ (.slice (some ⟨g, 0, none⟩) (i + 1) cap)).heap[b]? = W.heap[b]? := fun b hb hne h2 => (Below.heap_setCell w1 ⟨Ws.heap.size, 3, none⟩ _ b h2).trans (blk b hb hne)
  have hsz2 : w1.heap.size ≤ (w1.setCell ⟨Ws.heap.size, 3, none⟩ (.slice (some ⟨g, 0, none⟩) (i + 1) cap)).heap.size := ((Below.refl 0 w1).setCell (Nat.zero_le _) _).size
  have low : ∀ b, b < Ws.heap.size + 2 → v.ownBlock ≠ some b := fun b hb e => by have := hvb b e; omega
  have kb1 := h.kb.of_block (blk _ (by omega) (low _ (by omega)))
  have keep : ∀ {x : Tr} {B1 B2 : Option Addr}, TAt W (fun c => Ws.heap.size + 2 ≤ c ∧ v.ownBlock ≠ some c) x B1 B2 → TAt (w1.setCell ⟨Ws.heap.size, 3, none⟩ (.slice (some ⟨g, 0, none⟩) (i + 1) cap)) (fun c => Ws.heap.size + 2 ≤ c ∧ (Value.slice (some ⟨g, 0, none⟩) (i + 1) cap).ownBlock ≠ some c) x B1 B2 := fun hx' =>
    hx'.keep (fun b hb hl' => blk2 b hl' hb.2 (by have := hb.1; omega)) (fun b hb hl' => ⟨hb.1, fun e => by
      have e' : g = b := Option.some.inj e
      rcases hv with e2 | e2
      · exact hb.2 (e2.trans (by rw [e']))
      · omega⟩) (by omega)
  refine ⟨kb1.cell (i := 3) (by omega), kb1.frozen 3, ⟨⟨hg.os.trans (hx.os.trans h.be.os), hg.tape.trans (hx.tape.trans h.be.tape), hg.output.trans (hx.output.trans h.be.output), by have := h.be.size; omega, fun b hb => (blk2 b (by omega) (low b (by omega)) (by omega)).trans (h.be.block b hb)⟩, h.vb.of_block (blk2 _ (by omega) (low _ (by omega)) (by omega)), (kb1.set 3 _).congr fun p hp => ?_, ⟨by rw [cells4_put]; exact own_of ho (fun b e => Below.heap_setCell w1 ⟨Ws.heap.size, 3, none⟩ _ b (by have e' : g = b := Option.some.inj e; show b ≠ Ws.heap.size; omega)), fun j hj => ?_⟩, by omega⟩⟩
  · match p, hp with
    | 0, _ => rfl
    | 1, _ => rfl
    | 2, _ => rfl
    | 3, _ => rfl
  · by_cases e : j = i
    · subst e
      rw [adPut_at, adPut_at, adPut_at]
      exact keep hy
    · rw [adPut_ne _ _ (show j < i by omega), adPut_ne _ _ (show j < i by omega), adPut_ne _ _ (show j < i by omega)]
      exact keep (h.ka.kids j (by omega))
theorem cells4_set (f : Nat → Tr) (a1 : Nat → Option Addr) (k1 : Nat → Nat) (a2 : Nat → Option Addr) (k2 : Nat → Nat) (m i : Nat) (hi : i < m) (y : Tr) (A1 : Option Addr) (K1 : Nat) (A2 : Option Addr) (K2 : Nat) : ((((cells4 f a1 k1 a2 k2 m).set (i * 4) (.int .u64 (y.num : Nat))).set (i * 4 + 1) (.string y.bs)).set (i * 4 + 2) (.slice A1 y.nl K1)).set (i * 4 + 3) (.slice A2 y.kl K2) = cells4 (adPut f i y) (adPut a1 i A1) (adPut k1 i K1) (adPut a2 i A2) (adPut k2 i K2) m := by
  have l1 := cells4_length f a1 k1 a2 k2 m
  have l2 := cells4_length (adPut f i y) (adPut a1 i A1) (adPut k1 i K1) (adPut a2 i A2) (adPut k2 i K2) m
  refine List.ext_getElem? fun p => ?_
  by_cases hp : p < m * 4
  · obtain ⟨e0, e1, e2, e3⟩ := cells4_get f a1 k1 a2 k2 m (p / 4) (by omega)
    obtain ⟨d0, d1, d2, d3⟩ := cells4_get (adPut f i y) (adPut a1 i A1) (adPut k1 i K1) (adPut a2 i A2) (adPut k2 i K2) m (p / 4) (by omega)
    obtain c | c | c | c : p = p / 4 * 4 ∨ p = p / 4 * 4 + 1 ∨ p = p / 4 * 4 + 2 ∨ p = p / 4 * 4 + 3 := by omega
    all_goals
      generalize p / 4 = q at *
      subst c
      by_cases e : q = i
      · subst e
        simp [List.getElem?_set, l1, d0, d1, d2, d3, adPut_at]
        try omega
      · rw [List.getElem?_set_ne (by omega), List.getElem?_set_ne (by omega), List.getElem?_set_ne (by omega), List.getElem?_set_ne (by omega)]
        first | rw [e0, d0] | rw [e1, d1] | rw [e2, d2] | rw [e3, d3]
        simp [adPut, e]
  · rw [List.getElem?_eq_none (by simp [l1]; omega), List.getElem?_eq_none (by rw [l2]; omega)]
/-- Another tree is stored at i, cell by cell. -/
theorem L1g.put {Ws : World} {n k i m g cap : Nat} {f : Nat → Tr} {a1 : Nat → Option Addr} {k1 : Nat → Nat} {a2 : Nat → Option Addr} {k2 : Nat → Nat} {W : World} (h : L1g Ws n k m (.slice (some ⟨g, 0, none⟩) m cap) f a1 k1 a2 k2 W) (hi : i < m) {y : Tr} {A1 : Option Addr} {K1 : Nat} {A2 : Option Addr} {K2 : Nat} (hy : TAt W (fun c => Ws.heap.size + 2 ≤ c ∧ c ≠ g) y A1 A2) :
    L1g Ws n k m (.slice (some ⟨g, 0, none⟩) m cap) (adPut f i y) (adPut a1 i A1) (adPut k1 i K1) (adPut a2 i A2) (adPut k2 i K2) ((((W.setCell ⟨g, i * 4, none⟩ (.int .u64 (y.num : Nat))).setCell ⟨g, i * 4 + 1, none⟩ (.string y.bs)).setCell ⟨g, i * 4 + 2, none⟩ (.slice A1 y.nl K1)).setCell ⟨g, i * 4 + 3, none⟩ (.slice A2 y.kl K2)) := by
  have hlt := h.lt
  have hgb : Ws.heap.size + 2 ≤ g := (World.ownsRow.lt h.ka.own g rfl).1
  have o4 := (World.ownsRow.stored (World.ownsRow.stored (World.ownsRow.stored (World.ownsRow.stored h.ka.own (i * 4) (.int .u64 (y.num : Nat))).1 (i * 4 + 1) (.string y.bs)).1 (i * 4 + 2) (.slice A1 y.nl K1)).1 (i * 4 + 3) (.slice A2 y.kl K2)).1
  rw [cells4_set f a1 k1 a2 k2 m i hi] at o4
  have hsz : W.heap.size ≤ ((((W.setCell ⟨g, i * 4, none⟩ (.int .u64 (y.num : Nat))).setCell ⟨g, i * 4 + 1, none⟩ (.string y.bs)).setCell ⟨g, i * 4 + 2, none⟩ (.slice A1 y.nl K1)).setCell ⟨g, i * 4 + 3, none⟩ (.slice A2 y.kl K2)).heap.size := (((((Below.refl 0 W).setCell (Nat.zero_le _) _).setCell (Nat.zero_le _) _).setCell (Nat.zero_le _) _).setCell (Nat.zero_le _) _).size
  have blk : ∀ b, b ≠ g → ((((W.setCell ⟨g, i * 4, none⟩ (.int .u64 (y.num : Nat))).setCell ⟨g, i * 4 + 1, none⟩ (.string y.bs)).setCell ⟨g, i * 4 + 2, none⟩ (.slice A1 y.nl K1)).setCell ⟨g, i * 4 + 3, none⟩ (.slice A2 y.kl K2)).heap[b]? = W.heap[b]? := fun b hne => by
    rw [Below.heap_setCell _ ⟨g, i * 4 + 3, none⟩ _ b hne, Below.heap_setCell _ ⟨g, i * 4 + 2, none⟩ _ b hne, Below.heap_setCell _ ⟨g, i * 4 + 1, none⟩ _ b hne, Below.heap_setCell _ ⟨g, i * 4, none⟩ _ b hne]
  have keep : ∀ {x : Tr} {B1 B2 : Option Addr}, TAt W (fun c => Ws.heap.size + 2 ≤ c ∧ c ≠ g) x B1 B2 → TAt ((((W.setCell ⟨g, i * 4, none⟩ (.int .u64 (y.num : Nat))).setCell ⟨g, i * 4 + 1, none⟩ (.string y.bs)).setCell ⟨g, i * 4 + 2, none⟩ (.slice A1 y.nl K1)).setCell ⟨g, i * 4 + 3, none⟩ (.slice A2 y.kl K2)) (fun c => Ws.heap.size + 2 ≤ c ∧ (Value.slice (some ⟨g, 0, none⟩) m cap).ownBlock ≠ some c) x B1 B2 := fun hx =>
    hx.keep (fun b hb _ => blk b hb.2) (fun b hb _ => ⟨hb.1, fun e => hb.2 (Option.some.inj e).symm⟩) hsz
  have hle : ∀ o, Ws.heap.size ≤ (⟨g, o, none⟩ : Addr).block := fun o => by show Ws.heap.size ≤ g; omega
  refine ⟨(((h.be.setCell (hle _) _).setCell (hle _) _).setCell (hle _) _).setCell (hle _) _, h.vb.of_block (blk _ (by omega)), h.kb.of_block (blk _ (by omega)), ⟨o4, fun j hj => ?_⟩, by omega⟩
  by_cases e : j = i
  · subst e
    rw [adPut_at, adPut_at, adPut_at]
    exact keep hy
  · have e1 : ∀ {α : Type} (u : Nat → α) (z : α), adPut u i z j = u j := fun u z => by simp [adPut, e]
    rw [e1, e1, e1]
    exact keep ((h.ka.kids j hj).mono fun b hb _ => ⟨hb.1, fun ee => hb.2 (by rw [ee]; rfl)⟩)
/-- The struct, when all are in. -/
theorem L1g.tat {Ws : World} {n k : Nat} {v : Value} {f : Nat → Tr} {a1 : Nat → Option Addr} {k1 : Nat → Nat} {a2 : Nat → Option Addr} {k2 : Nat → Nat} {W : World} (h : L1g Ws n k k v f a1 k1 a2 k2 W) (hf : ∀ j, j < k → f j = lgO n j) : TAt W (fun _ => True) (lgX n k) none (some ⟨Ws.heap.size, 0, none⟩) := by
  obtain ⟨A, c, hv, hr⟩ := h.ka.row
  subst hv
  refine ⟨none_row _ _ _, fun _ => ⟨Ws.heap.size, 0, rfl, trivial, h.kb.lt, fun j hj => ?_⟩⟩
  obtain rfl : j = 0 := by have : j < 1 := hj; omega
  refine ⟨none, 0, A, c, ⟨h.kb.cell (i := 0) (by omega), h.kb.cell (i := 1) (by omega), h.kb.cell (i := 2) (by omega), h.kb.cell (i := 3) (by omega)⟩, none_row _ _ _, fun h0 => ?_⟩
  obtain ⟨b, hA, hb, hlt, hc⟩ := hr h0
  refine ⟨b, 0, hA, trivial, hlt, fun j hj => ⟨a1 j, k1 j, a2 j, k2 j, ?_, ?_⟩⟩
  · have h1 := (hc j hj).1
    rw [hf j hj] at h1
    exact h1
  · have h2 := (hc j hj).2.mono (Q := fun _ => True) fun _ _ _ => trivial
    rw [hf j hj] at h2
    exact h2

end Go.Proofs.YthcachmcjekckaaDoor
