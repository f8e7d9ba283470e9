/- BuildApart: each word is counted once. -/
import Derived.Test.YtkhbhkllnigbgaaDoorBLawB
import Derived.Test.YtkhbhkllnigbgaaDoorBAt
import Derived.Deep.RegionHeld3
namespace Go.Proofs.YtkhbhkllnigbgaaDoor
open Go.ChangeShapes Go.WideShapes Go.ChangeAt Go.RowKit
/-- The counts, in a row at qi; what was there at Ws stays. -/
structure CI (Ws W0 : World) (qi N : Nat) (G : Nat → Nat) (W : World) : Prop where
  row : W.rowIs qi 3 N (fun j => .int .i64 (G j : Nat))
  wb : Below Ws.heap.size Ws W
  bp : ButP (fun b => b = qi) W0 W
theorem CI.below {Ws W0 : World} {qi N : Nat} {G : Nat → Nat} {W W' : World} (h : CI Ws W0 qi N G W) (hb : Below W.heap.size W W') : CI Ws W0 qi N G W' := ⟨h.row.of_block (hb.block _ h.row.lt), Below.step h.wb hb h.wb.size, ButP.trans h.bp (ButP.of_below hb)⟩
theorem CI.put {Ws W0 : World} {qi N : Nat} {G G' : Nat → Nat} {W : World} (h : CI Ws W0 qi N G W) (hq : Ws.heap.size ≤ qi) (p : Nat) (hG : ∀ j, (if j = p then 1 else G j) = G' j) : CI Ws W0 qi N G' (W.setCell ⟨qi, p, none⟩ (.int .i64 1)) :=
  ⟨(h.row.set p _).congr fun j _ => by rw [← hG j]; split <;> rfl, h.wb.setCell hq _, ButP.set h.bp rfl _⟩
theorem CI.step {Ws W0 : World} {qi N : Nat} {G G' : Nat → Nat} {W W' : World} (h : CI Ws W0 qi N G W) (h2 : CI Ws W qi N G' W') : CI Ws W0 qi N G' W' := ⟨h2.row, h2.wb, ButP.trans h.bp h2.bp⟩
theorem CI.congr {Ws W0 : World} {qi N : Nat} {G G' : Nat → Nat} {W : World} (h : CI Ws W0 qi N G W) (e : G = G') : CI Ws W0 qi N G' W := e ▸ h
/-- Within a field: its box, too. -/
structure CF (Ws W0 : World) (qi N : Nat) (G : Nat → Nat) (fq : Nat) (κ : Int) (τ : Nat) (W : World) : Prop where
  ci : CI Ws W0 qi N G W
  box : W.rowIs fq 95 2 (fun j => if j = 0 then .int .i64 κ else .int .i64 (τ : Int))
  ne : fq ≠ qi
theorem CF.below {Ws W0 : World} {qi N : Nat} {G : Nat → Nat} {fq : Nat} {κ : Int} {τ : Nat} {W W' : World} (h : CF Ws W0 qi N G fq κ τ W) (hb : Below W.heap.size W W') : CF Ws W0 qi N G fq κ τ W' := ⟨h.ci.below hb, h.box.of_block (hb.block _ h.box.lt), h.ne⟩
theorem CF.put {Ws W0 : World} {qi N : Nat} {G G' : Nat → Nat} {fq : Nat} {κ : Int} {τ : Nat} {W : World} (h : CF Ws W0 qi N G fq κ τ W) (hq : Ws.heap.size ≤ qi) (p : Nat) (hG : ∀ j, (if j = p then 1 else G j) = G' j) : CF Ws W0 qi N G' fq κ τ (W.setCell ⟨qi, p, none⟩ (.int .i64 1)) :=
  ⟨h.ci.put hq p hG, h.box.setOther (a := ⟨qi, p, none⟩) h.ne _, h.ne⟩
theorem CF.step {Ws W0 : World} {qi N : Nat} {G G' : Nat → Nat} {fq : Nat} {κ : Int} {τ : Nat} {W W' : World} (h : CF Ws W0 qi N G fq κ τ W) (h2 : CI Ws W qi N G' W') : CF Ws W0 qi N G' fq κ τ W' := ⟨h.ci.step h2, h.box.of_block (h2.bp.block _ h.box.lt h.ne), h.ne⟩
theorem CF.congr {Ws W0 : World} {qi N : Nat} {G G' : Nat → Nat} {fq : Nat} {κ : Int} {τ : Nat} {W : World} (h : CF Ws W0 qi N G fq κ τ W) (e : G = G') : CF Ws W0 qi N G' fq κ τ W := e ▸ h
theorem CF.cells {Ws W0 : World} {qi N : Nat} {G : Nat → Nat} {fq : Nat} {κ : Int} {τ : Nat} {W : World} (h : CF Ws W0 qi N G fq κ τ W) {bs o : Nat} {v : Value} (hb : bs < Ws.heap.size) (hv : Ws.cell? ⟨bs, o, none⟩ = some v) : W.cell? ⟨fq, 1, none⟩ = some (.int .i64 (τ : Int)) ∧ W.cell? ⟨bs, o, none⟩ = some v :=
  ⟨h.box.cell (i := 1) (by omega), (h.ci.wb.cell (p := ⟨bs, o, none⟩) hb).trans hv⟩
theorem fld_box (w : World) (κ : Int) (τ : Nat) : (w.alloc (.cells #[.int .i64 κ, .int .i64 (τ : Int)] 95)).rowIs w.heap.size 95 2 (fun j => if j = 0 then .int .i64 κ else .int .i64 (τ : Int)) := World.rowIs_alloc w #[.int .i64 κ, .int .i64 (τ : Int)] 95 _ (by intro j hj; match j, hj with | 0, _ => rfl | 1, _ => rfl)
/-- Where the counts are 0: x, that lies at a, and what it refers to, from r on. -/
def Zr (G : Nat → Nat) (a i r m : Nat) : Prop := ∀ j, ((a ≤ j ∧ j < a + i) ∨ (r ≤ j ∧ j < r + m)) → G j = 0
theorem fd_word {f : Fd} {o : Nat} (hk : kindOk f.k f.y) (h1 : f.k ≠ 1) (h0 : f.n = 0) : ownWd f o = 0 := by
  rw [ownWd, if_neg (by omega)]
  exact hk.1 h1
theorem fd_ref {f : Fd} {o : Nat} (h0 : 0 < f.n) (hn : f.n ≤ 50) (ho : o ≤ 1000) : ownWd f o = refN (o : Int) (f.n : Int) ∧ refN (o : Int) (f.n : Int) % 4294967296 = o ∧ refN (o : Int) (f.n : Int) / 4294967296 = f.n ∧ 0 < refN (o : Int) (f.n : Int) := by
  refine ⟨by rw [ownWd, if_pos h0], ?_, ?_, ?_⟩ <;> unfold refN <;> omega
theorem fd_none {pc : Nat → Nat → (Nat → Tr) → List Nat} {f : Fd} (hk : kindOk f.k f.y) (h : f.k = 1 ∨ f.n = 0) (hp : ∀ τ kf, pc τ 0 kf = []) : fpc pc f = [] := by
  unfold fpc
  unfold Fd.n at h
  by_cases h2 : f.k = 2
  · rw [if_pos h2]; rw [if_pos h2] at h
    exact List.length_eq_zero_iff.1 (by rw [wordsB_length]; unfold cnt; omega)
  · rw [if_neg h2]; rw [if_neg h2] at h
    by_cases h3 : f.k = 3
    · rw [if_pos h3]; rw [if_pos h3] at h
      exact List.length_eq_zero_iff.1 (by rw [numsL_length]; omega)
    · rw [if_neg h3]; rw [if_neg h3] at h
      by_cases h4 : f.k = 4 ∨ f.k = 5
      · rw [if_pos h4]; rw [if_pos h4] at h
        rw [show f.y.kl = 0 by omega]
        exact hp _ _
      · rw [if_neg h4]
theorem piece_zero (s : Sch) (n t : Nat) (kf : Nat → Tr) : piece s n t 0 kf = [] := by cases n <;> rfl
theorem fd_n_le {f : Fd} (hk : kindOk f.k f.y) : f.n ≤ 40 := by
  obtain ⟨-, -, -, -, h5, h6, h7, -⟩ := hk
  unfold Fd.n
  split
  · omega
  · split
    · omega
    · split <;> omega
theorem fpc_pos {s : Sch} (hR : RightS s) {n : Nat} {f : Fd} (hk : kindOk f.k f.y) (hc : ∀ j, j < f.y.kl → chk s n f.τ (f.y.kf j) = 0) (ht : f.τ < s.n) (h0 : 0 < f.n) : 0 < (fpc (piece s n) f).length := by
  unfold fpc
  unfold Fd.n at h0
  by_cases h2 : f.k = 2
  · rw [if_pos h2]; rw [if_pos h2] at h0
    rw [wordsB_length]; unfold cnt; omega
  · rw [if_neg h2]; rw [if_neg h2] at h0
    by_cases h3 : f.k = 3
    · rw [if_pos h3]; rw [if_pos h3] at h0
      rw [numsL_length]; exact h0
    · rw [if_neg h3]; rw [if_neg h3] at h0
      by_cases h4 : f.k = 4 ∨ f.k = 5
      · rw [if_pos h4]; rw [if_pos h4] at h0
        obtain ⟨m, rfl, hso, _⟩ := chk_inv (hc 0 h0)
        have hF : ∀ j, j < f.y.kl → (f.y.kf j).kl = s.len f.τ := fun j hj => by
          obtain ⟨_, _, hso, _⟩ := chk_inv (hc j hj)
          exact hso.2.2.2
        rw [piece_len hF]
        have := (hR.2.2 f.τ ht).1
        have := Nat.mul_pos h0 this
        omega
      · rw [if_neg h4] at h0; omega

end Go.Proofs.YtkhbhkllnigbgaaDoor
