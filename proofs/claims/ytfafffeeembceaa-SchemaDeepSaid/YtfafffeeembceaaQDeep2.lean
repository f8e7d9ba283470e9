/- Deep; the document's Deep. -/
import Derived.Test.YtfafffeeembceaaQDeep
import Derived.Test.YtfafffeeembceaaQRPack
namespace Go.Proofs.Ytfafffeeembceaa
open Go.RowKit
/-- What Deep tells. -/
noncomputable def dpAt (s : Sch) (t : Int) : Int := if okS s = true ∧ hasT s t then (deepS s t.toNat : Nat) else 0

set_option maxRecDepth 100000 in
set_option maxHeartbeats 2000000 in
theorem deep_any (s : Sch) (A : Option Addr) (c : Nat) (t : Int) (w : World) (hr : SAt w A s) : Calls Try.prog 6 #[.slice A s.n c, .int .i64 t] w fun e w' => e = .returned (.int .i64 (dpAt s t)) ∧ Below w.heap.size w w' := by
  have HS := Lib.hid hr
  clear hr
  by_cases ho : okS s = true
  · have hk := check_yes s A c w HS.out ho
    by_cases ht : hasT s t
    · have hd : dpAt s t = (deepS s t.toNat : Nat) := if_pos ⟨ho, ht⟩
      rw [hd]
      have ht' := ht
      unfold hasT at ht'
      obtain ⟨m, rfl⟩ : ∃ m : Nat, t = m := ⟨t.toNat, by omega⟩
      have hm : m < s.n := by omega
      have HM := Lib.hid hm
      have hm8 : m < 8 := by have := (right_of_okS ho).2.1; omega
      simp only [Int.toNat_natCast]
      clear hd ht' hm
      go_enter Try.func6, Try.ntmps6
      go_wp2_with fail
      refine hk.mono ?_
      rintro e w1 ⟨rfl, hb⟩
      have HB := Lib.hid hb
      clear hb hk
      go_wp2_with fail
      refine (hasType_any s A c m _).mono ?_
      rintro e w' ⟨rfl, rfl⟩
      rw [decide_eq_true ht]
      go_wp2_with fail
      refine (depths_any s A c _ (HS.out.below HB.out) (right_of_okS ho)).mono ?_
      rintro e w2 ⟨B, v, rfl, hrow, hv, hb⟩
      have HB2 := Lib.hid (Below.step HB.out hb HB.out.size)
      have HV := Lib.hid (hv m HM.out)
      have HRow := Lib.hid hrow
      clear hb hv hrow
      go_wp2_with fail
      refine (deepf_any B v m hm8 _ HRow.out).mono ?_
      rintro e w' ⟨rfl, rfl⟩
      rw [HV.out]
      go_wp2
      go_ret
      exact ⟨rfl, HB2.out⟩
    · have hd : dpAt s t = 0 := if_neg fun g => ht g.2
      rw [hd]
      go_enter Try.func6, Try.ntmps6
      go_wp2_with fail
      refine hk.mono ?_
      rintro e w1 ⟨rfl, hb⟩
      have HB := Lib.hid hb
      clear hb hk
      go_wp2_with fail
      refine (hasType_any s A c t _).mono ?_
      rintro e w' ⟨rfl, rfl⟩
      rw [decide_eq_false ht]
      go_wp2
      go_ret
      exact ⟨rfl, HB.out⟩
  · have hk := check_no s A c w HS.out (by simpa using ho)
    have hd : dpAt s t = 0 := if_neg fun g => ho g.1
    rw [hd]
    go_enter Try.func6, Try.ntmps6
    go_wp2_with fail
    refine hk.mono ?_
    rintro e w1 ⟨rfl, hb⟩
    have HB := Lib.hid hb
    clear hb hk
    go_wp2
    go_ret
    exact ⟨rfl, HB.out⟩

theorem info_int : (Try.prog.info? 3).map (fun i => (i.zero, i.size, i.bytes)) = some (some (.int .i64 0), 1, 8) := by kernel_rfl

/-- Two rows of n depths, both made since w. -/
structure R2 (w : World) (n g g2 : Nat) (u v : Nat → Nat) (wr : World) : Prop where
  ne : g ≠ g2
  lo : w.heap.size ≤ g2
  old : wr.rowIs g 3 n (fun j => .int .i64 (u j : Nat))
  new : wr.rowIs g2 3 n (fun j => .int .i64 (v j : Nat))
  below : Below w.heap.size w wr
theorem R2.alloc {w : World} {n g g2 : Nat} {u v : Nat → Nat} {wr : World} (h : R2 w n g g2 u v wr) (o : Obj) : R2 w n g g2 u v (wr.alloc o) := ⟨h.ne, h.lo, h.old.alloc o, h.new.alloc o, h.below.alloc h.below.size o⟩
theorem R2.drewN {w : World} {n g g2 : Nat} {u v : Nat → Nat} {wr : World} (h : R2 w n g g2 u v wr) (m : Nat) : R2 w n g g2 u v (wr.drewN m) := ⟨h.ne, h.lo, h.old.of_block rfl, h.new.of_block rfl, below_drewN h.below m⟩
theorem R2.drew {w : World} {n g g2 : Nat} {u v : Nat → Nat} {wr : World} (h : R2 w n g g2 u v wr) : R2 w n g g2 u v wr.drew := ⟨h.ne, h.lo, h.old.of_block rfl, h.new.of_block rfl, h.below.drew⟩
theorem R2.set {w : World} {n g g2 : Nat} {u v v' : Nat → Nat} {wr : World} (h : R2 w n g g2 u v wr) (k : Nat) (x : Int) (hv : ∀ j, (if j = k then Value.int .i64 x else .int .i64 (v j : Nat)) = .int .i64 (v' j : Nat)) : R2 w n g g2 u v' (wr.setCell ⟨g2, k, none⟩ (.int .i64 x)) :=
  ⟨h.ne, h.lo, h.old.setOther (a := ⟨g2, k, none⟩) h.ne _, (h.new.set k _).congr fun j _ => hv j, h.below.setCell (p := ⟨g2, k, none⟩) h.lo _⟩
theorem R2.congr {w : World} {n g g2 : Nat} {u v v' : Nat → Nat} {wr : World} (h : R2 w n g g2 u v wr) (hv : ∀ j, j < n → v j = v' j) : R2 w n g g2 u v' wr :=
  ⟨h.ne, h.lo, h.old, h.new.congr fun j hj => by rw [hv j hj], h.below⟩
/-- What a field adds to a type's depth. -/
def fdp (s : Sch) (r k j : Nat) : Nat := if 4 ≤ s.k k j then dr s r (s.t k j).toNat + 1 else 0
theorem dr_succ (s : Sch) (r k : Nat) : dr s (r + 1) k = max 1 (mx (fdp s r k) (s.len k)) := rfl
/-- The new row, when k types are done, and the next one is x. -/
def nrow (s : Sch) (r k x j : Nat) : Nat := if j < k then dr s (r + 1) j else if j = k then x else 0
theorem nrow_put (s : Sch) (r k x y j : Nat) (z : Int) (hz : z = (y : Nat)) : (if j = k then Value.int .i64 z else .int .i64 (nrow s r k x j : Nat)) = .int .i64 (nrow s r k y j : Nat) := by
  subst hz
  unfold nrow
  by_cases e : j = k
  · subst e; simp
  · by_cases h : j < k
    · rw [if_neg e, if_pos h, if_pos h]
    · rw [if_neg e, if_neg h, if_neg h, if_neg e, if_neg e]
theorem nrow_next (s : Sch) (r k x : Nat) (hx : x = dr s (r + 1) k) (j : Nat) : nrow s r k x j = nrow s r (k + 1) 0 j := by
  subst hx
  unfold nrow
  by_cases e : j = k
  · subst e; simp
  · by_cases h : j < k
    · rw [if_pos h, if_pos (by omega)]
    · rw [if_neg h, if_neg e, if_neg (by omega)]
      by_cases e2 : j = k + 1
      · rw [if_pos e2]
      · rw [if_neg e2]
theorem nrow_at (s : Sch) (r k x : Nat) : nrow s r k x k = x := by simp [nrow]


end Go.Proofs.Ytfafffeeembceaa
