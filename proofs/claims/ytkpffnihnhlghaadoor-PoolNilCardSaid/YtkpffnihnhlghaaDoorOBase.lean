/- Runs upon an arena: what a step changes; the way to a class's head. -/
import Derived.Test.YtkpffnihnhlghaaDoorYMath
import Derived.Test.YtkpffnihnhlghaaDoorHTell
import Derived.Test.YtkpffnihnhlghaaDoorHIter
import Derived.Deep.RegionHeld3
namespace Go.Proofs.YtkpffnihnhlghaaDoor
open Go.RowKit
/-- Only these blocks have changed. -/
structure OnlS (S : List Nat) (w w' : World) : Prop where
  os : w'.os = w.os
  tape : w'.tape = w.tape
  output : w'.output = w.output
  size : w.heap.size ≤ w'.heap.size
  block : ∀ k, k < w.heap.size → ¬ k ∈ S → w'.heap[k]? = w.heap[k]?
theorem OnlS.refl (S : List Nat) (w : World) : OnlS S w w := ⟨rfl, rfl, rfl, Nat.le_refl _, fun _ _ _ => rfl⟩
theorem OnlS.trans {S : List Nat} {a b d : World} (h : OnlS S a b) (k : OnlS S b d) : OnlS S a d :=
  ⟨k.os.trans h.os, k.tape.trans h.tape, k.output.trans h.output, Nat.le_trans h.size k.size, fun i hi h1 => (k.block i (Nat.lt_of_lt_of_le hi h.size) h1).trans (h.block i hi h1)⟩
theorem OnlS.of_below {S : List Nat} {a b : World} (h : Below a.heap.size a b) : OnlS S a b := ⟨h.os, h.tape, h.output, h.size, fun i hi _ => h.block i hi⟩
theorem OnlS.of_only {S : List Nat} {p c : Nat} {a b : World} (h : Only p c a b) (hp : p ∈ S) (hc : c ∈ S) : OnlS S a b :=
  ⟨h.os, h.tape, h.output, h.size, fun i hi h1 => h.block i hi (fun e => h1 (e ▸ hp)) (fun e => h1 (e ▸ hc))⟩
theorem OnlS.mono {S T : List Nat} {a b : World} (h : OnlS S a b) (hs : ∀ k ∈ S, k ∈ T) : OnlS T a b := ⟨h.os, h.tape, h.output, h.size, fun i hi h1 => h.block i hi fun h2 => h1 (hs i h2)⟩
theorem OnlS.alloc {S : List Nat} {a b : World} (h : OnlS S a b) (o : Obj) : OnlS S a (b.alloc o) := h.trans (OnlS.of_below ((Below.refl _ _).alloc (Nat.le_refl _) o))
theorem OnlS.drew {S : List Nat} {a b : World} (h : OnlS S a b) : OnlS S a b.drew := ⟨h.os, h.tape, h.output, h.size, h.block⟩
theorem OnlS.set {S : List Nat} {a b : World} (h : OnlS S a b) {q : Addr} (hq : q.block ∈ S) (u : Value) : OnlS S a (b.setCell q u) := by
  have h1 := (Below.refl 0 b).setCell (p := q) (Nat.zero_le _) u
  refine ⟨h1.os.trans h.os, h1.tape.trans h.tape, h1.output.trans h.output, Nat.le_trans h.size h1.size, fun i hi e1 => ?_⟩
  rw [Below.heap_setCell b q u i (fun e => e1 (e ▸ hq))]
  exact h.block i hi e1
theorem OnlS.below {S : List Nat} {B : Nat} {a b : World} (h : OnlS S a b) (hB : B ≤ a.heap.size) (h1 : ∀ k ∈ S, B ≤ k) : Below B a b := ⟨h.os, h.tape, h.output, h.size, fun i hi => h.block i (by omega) fun hm => by have := h1 i hm; omega⟩
theorem Lim.onlS {S : List Nat} {w w' : World} (h : Lim w) (hs : OnlS S w w') (hg : ∀ k ∈ S, 1 < k) : Lim w' := fun k hk => by
  obtain ⟨h1, h2⟩ := h k hk
  have e : w'.heap[1]? = w.heap[1]? := hs.block _ (World.block_lt_of_cell? w _ h1) fun hm => by have := hg _ hm; omega
  exact ⟨(World.cell?_of_block (w := w) e).trans h1, (World.cell?_of_block (w := w) e).trans h2⟩
/-- A head that is turned to a block. -/
def turnI (X : Nat) (b : Int) : Int := ((X : Int) / 4294967296 + 1) % 4294967296 * 4294967296 + b % 4294967296
theorem headz (C : Int) (hC : 0 ≤ C ∧ C ≤ 1) (w : World) : Calls Tryd.prog 81 #[.int .i64 C] w fun e w' => e = .returned (.int .i64 (3 + C)) ∧ w = w' := by
  have h := head_any C w
  rw [show headC C = 3 + C by unfold headC; rw [if_neg (by omega)]] at h
  exact h

set_option maxRecDepth 100000 in
set_option maxHeartbeats 1000000 in
theorem look_any (w : World) (q p c n : Nat) (y : St) (h : ArS w p c n y) (h0 : 0 ≤ y.s) (h1 : y.s < 1000000) (C : Int) (hC : 0 ≤ C ∧ C ≤ 1) (v : Value) (hq : q < w.heap.size) (qp : q ≠ p) (qc : q ≠ c) (c0 : w.cell? ⟨q, 0, none⟩ = some (.int .i64 C)) (c1 : w.cell? ⟨q, 1, none⟩ = some v) (fz : w.frozen? ⟨q, 1, none⟩ = false) :
    Calls Tryd.prog 121 #[.pointer (some ⟨q, 0, none⟩), .pointer (some ⟨p, 0, none⟩)] w fun e w' => ∃ w1, e = .returned (.tuple #[]) ∧ ArS w1 p c n (y.load n (3 + C)) ∧ Only p c w w1 ∧ w' = w1.setCell ⟨q, 1, none⟩ (.int .u64 (y.loaded n (3 + C))) := by
  go_enter Tryd.func121, Tryd.ntmps121
  go_wp2_with fail
  refine (headz C hC _).mono ?_
  rintro e w' ⟨rfl, rfl⟩
  go_wp2_with fail
  refine (load_any w p c n y h h0 h1 (3 + C)).mono ?_
  rintro e w1 ⟨rfl, hA, hO⟩
  have HA := Lib.hid hA
  have HO := Lib.hid hO
  have d1 : w1.cell? ⟨q, 1, none⟩ = some v := (hO.cell 1 hq qp qc).trans c1
  have df : w1.frozen? ⟨q, 1, none⟩ = false := (World.frozen?_of_block (w := w) (hO.block q hq qp qc)).trans fz
  clear hA hO h c0 c1 fz
  go_wp2
  go_end0
  exact ⟨w1, rfl, HA.out, HO.out, rfl⟩
set_option maxRecDepth 100000 in
set_option maxHeartbeats 1000000 in
theorem first_any (w : World) (q : Nat) (X : Nat) (c1 : w.cell? ⟨q, 1, none⟩ = some (.int .u64 (X : Int))) : Calls Tryd.prog 123 #[.pointer (some ⟨q, 0, none⟩)] w fun e w' => e = .returned (.int .i64 ((X % 4294967296 : Nat) : Int)) ∧ w = w' := by
  go_enter Tryd.func123, Tryd.ntmps123
  go_wp2_with fail
  refine (hblock_any X _).mono ?_
  rintro e w' ⟨rfl, rfl⟩
  go_wp2
  go_ret
  exact ⟨rfl, rfl⟩
set_option maxRecDepth 100000 in
set_option maxHeartbeats 1000000 in
theorem wturn_any (w : World) (q p c n : Nat) (y : St) (h : ArS w p c n y) (h0 : 0 ≤ y.s) (h1 : y.s < 1000000) (C : Int) (hC : 0 ≤ C ∧ C ≤ 1) (X : Nat) (hX : X < 18446744073709551616) (b z H : Int) (sw : Bool) (hH : 3 + C = H) (hsw : y.swapped n H X = sw) (hz : ((X : Int) / 4294967296 + 1) % 4294967296 * 4294967296 + b % 4294967296 = z) (hq : q < w.heap.size) (qp : q ≠ p) (qc : q ≠ c) (c0 : w.cell? ⟨q, 0, none⟩ = some (.int .i64 C)) (c1 : w.cell? ⟨q, 1, none⟩ = some (.int .u64 (X : Int))) :
    Calls Tryd.prog 156 #[.pointer (some ⟨q, 0, none⟩), .pointer (some ⟨p, 0, none⟩), .int .i64 b] w fun e w' => e = .returned (.bool sw) ∧ ArS w' p c n (y.swap n H X z) ∧ Only p c w w' := by
  have HY := Lib.hid h
  have HT : Hid (∀ W : World, Calls Tryd.prog 158 #[.int .u64 (X : Int), .int .i64 b] W fun e w' => e = .returned (.int .u64 z) ∧ W = w') := Lib.hid fun W => by
    have k := hturn_any X hX b W
    rw [show (((X / 4294967296 + 1) % 4294967296 : Nat) : Int) * 4294967296 + b % 4294967296 = z by rw [← hz]; omega] at k
    exact k
  have HS : Hid (∀ W : World, ArS W p c n y → Calls Tryd.prog 157 #[.pointer (some ⟨p, 0, none⟩), .int .i64 H, .int .u64 (X : Int), .int .u64 z] W fun e w' => e = .returned (.bool sw) ∧ Hid (ArS w' p c n (y.swap n H X z)) ∧ Hid (Only p c W w')) := Lib.hid fun W hW => by
    rw [← hsw]
    exact (swap_any W p c n y hW h0 h1 H X z).mono fun _ _ ⟨a, b, c⟩ => ⟨a, Lib.hid b, Lib.hid c⟩
  have HH : Hid (∀ W : World, Calls Tryd.prog 81 #[.int .i64 C] W fun e w' => e = .returned (.int .i64 H) ∧ W = w') := Lib.hid fun W => by rw [← hH]; exact headz C hC W
  clear h hz hsw hH hX hC h0 h1
  go_enter Tryd.func156, Tryd.ntmps156
  go_upto_region 1 with (fail)
  go_region_held3 (fun w' => w'.cell? ⟨q, 0, none⟩ = some (.int .i64 C) ∧ w'.cell? ⟨q, 1, none⟩ = some (.int .u64 (X : Int))) (first | exact ⟨c0, c1⟩ | exact ⟨by assumption, by assumption⟩) (first
    | (go_at_call 81; refine (HH.out _).mono ?_; rintro e w' ⟨rfl, rfl⟩)
    | (go_at_call 158; refine (HT.out _).mono ?_; rintro e w' ⟨rfl, rfl⟩)
    | (go_at_call 157; refine (HS.out _ HY.out.drew).mono ?_; rintro e w1 ⟨rfl, HA, HO⟩; have hk0 := (HO.out.cell 0 hq qp qc).trans c0; have hk1 := (HO.out.cell 1 hq qp qc).trans c1))
  all_goals
    go_wp2
    go_ret
    exact ⟨rfl, HA.out, ((Only.refl p c w).drew).trans HO.out⟩

end Go.Proofs.YtkpffnihnhlghaaDoor
