/- What a path leads to: mathematics; rows of numbers. -/
import Derived.Test.YtkhbhkllnigbgaaDoorTCheck2
import Derived.Test.YtkhbhkllnigbgaaDoorQMade
namespace Go.Proofs.YtkhbhkllnigbgaaDoor
open Go.RowKit
/-- A text's byte. -/
def byteN (b : ByteArray) (j : Nat) : Nat := if h : j < b.size then b[j].toNat else 0
theorem byteN_at {b : ByteArray} {j : Nat} (h : j < b.size) : byteN b j = b[j].toNat := by rw [byteN, dif_pos h]
theorem byteN_lt (b : ByteArray) (j : Nat) : byteN b j < 256 := by
  unfold byteN
  split
  · exact UInt8.toNat_lt _
  · omega
/-- A row of numbers. -/
def PRow (W : World) (A : Option Addr) (p : List Int) : Prop := 0 < p.length → ∃ b off, A = some ⟨b, off, none⟩ ∧ b < W.heap.size ∧ ∀ j, j < p.length → W.cell? ⟨b, off + j, none⟩ = some (.int .i64 (p.getD j 0))
theorem PRow.below {W W' : World} {A : Option Addr} {p : List Int} (h : PRow W A p) (hb : Below W.heap.size W W') : PRow W' A p := fun h0 => by
  obtain ⟨b, off, hA, hlt, hc⟩ := h h0
  exact ⟨b, off, hA, Nat.lt_of_lt_of_le hlt hb.size, fun j hj => (hb.cell (p := ⟨b, off + j, none⟩) hlt).trans (hc j hj)⟩
theorem PRow.head {W : World} {A : Option Addr} {i : Int} {p : List Int} (h : PRow W A (i :: p)) : ∃ b off, A = some ⟨b, off, none⟩ ∧ b < W.heap.size ∧ W.cell? ⟨b, off, none⟩ = some (.int .i64 i) := by
  obtain ⟨b, off, hA, hlt, hc⟩ := h (by simp)
  have := hc 0 (by simp)
  exact ⟨b, off, hA, hlt, by simpa using this⟩
/-- The row behind its first number. -/
def behind (A : Option Addr) (c : Nat) : Option Addr := if c = 1 then A else A.map (·.add 1)
theorem slice1 (A : Option Addr) (L c : Nat) (W : World) : (Instr.sliceAt 23 (.slice A (L + 1) c) (some (.int .i64 1)) none none).run Tryd.prog W = .ok (.slice (behind A c) L (c - 1)) W := by
  have hu : Tryd.prog.underlying 23 = some (.slice (Tryd.prog.elem 23)) := by kernel_rfl
  have hsz : (sizeOf (Tryd.prog.elem 23)).run Tryd.prog W = .ok 1 W := by kernel_rfl
  rw [run_sliceAt_slice (h := hu), run_slice_l (ht := hu) (h0 := by omega) (h1 := by omega), hsz]
  simp [Result.andThen, sliced, behind]
theorem PRow.tail {W : World} {A : Option Addr} {i : Int} {p : List Int} (h : PRow W A (i :: p)) {c : Nat} (hc : p.length + 1 ≤ c) : PRow W (behind A c) p := fun h0 => by
  obtain ⟨b, off, hA, hlt, hcs⟩ := h (by simp)
  subst hA
  refine ⟨b, off + 1, ?_, hlt, fun j hj => ?_⟩
  · rw [behind, if_neg (by omega)]
    simp [addr_add]
  · have := hcs (j + 1) (by simpa using hj)
    rw [show off + 1 + j = off + (j + 1) by omega]
    simpa using this

/-- What a path that ends at a field is told; an item; a path. -/
def selfT (k : Int) (y : Tr) : Nat := if k = 1 then y.num else if k = 2 then y.bs.size else if k = 3 then y.nl else y.kl
def itemT (L : Nat) (f : Nat → Nat) (j : Int) (more : List Int) : Nat × Nat := if 0 ≤ j ∧ j < L then (if more = [] then (f j.toNat, 0) else (0, 24)) else (0, 12)
def getT (s : Sch) : Nat → Nat → Tr → List Int → Nat × Nat
  | 0, _, _, _ => (0, 1)
  | _ + 1, _, _, [] => (0, 1)
  | n + 1, t, x, i :: rest =>
    if 0 ≤ i ∧ i < x.kl then
      match rest with
      | [] => (selfT (s.k t i.toNat) (x.kf i.toNat), 0)
      | j :: more =>
        if s.k t i.toNat = 1 then (0, 24)
        else if s.k t i.toNat = 2 then itemT (x.kf i.toNat).bs.size (byteN (x.kf i.toNat).bs) j more
        else if s.k t i.toNat = 3 then itemT (x.kf i.toNat).nl (x.kf i.toNat).nf j more
        else if s.k t i.toNat = 4 then (if 0 < (x.kf i.toNat).kl then getT s n (s.t t i.toNat).toNat ((x.kf i.toNat).kf 0) (j :: more) else (0, 12))
        else if 0 ≤ j ∧ j < (x.kf i.toNat).kl then (if more = [] then (((x.kf i.toNat).kf j.toNat).kl, 0) else getT s n (s.t t i.toNat).toNat ((x.kf i.toNat).kf j.toNat) more) else (0, 12)
    else (0, 1)
theorem getT_no {s : Sch} {n t : Nat} {x : Tr} {i : Int} {rest : List Int} (h : ¬ (0 ≤ i ∧ i < x.kl)) : getT s (n + 1) t x (i :: rest) = (0, 1) := by
  cases rest <;> simp only [getT] <;> rw [if_neg h]
theorem getT_one {s : Sch} {n t : Nat} {x : Tr} {i : Nat} (h : i < x.kl) : getT s (n + 1) t x [(i : Int)] = (selfT (s.k t i) (x.kf i), 0) := by
  simp only [getT]; rw [if_pos (by omega), Int.toNat_natCast]
theorem getT_more {s : Sch} {n t : Nat} {x : Tr} {i : Nat} {j : Int} {more : List Int} (h : i < x.kl) : getT s (n + 1) t x ((i : Int) :: j :: more) = if s.k t i = 1 then (0, 24)
        else if s.k t i = 2 then itemT (x.kf i).bs.size (byteN (x.kf i).bs) j more
        else if s.k t i = 3 then itemT (x.kf i).nl (x.kf i).nf j more
        else if s.k t i = 4 then (if 0 < (x.kf i).kl then getT s n (s.t t i).toNat ((x.kf i).kf 0) (j :: more) else (0, 12))
        else if 0 ≤ j ∧ j < (x.kf i).kl then (if more = [] then (((x.kf i).kf j.toNat).kl, 0) else getT s n (s.t t i).toNat ((x.kf i).kf j.toNat) more) else (0, 12) := by
  rw [getT]; rw [if_pos (by omega), Int.toNat_natCast]
/-- A number and a trouble. -/
def gotV (g : Nat × Nat) : Value := .tuple #[.int .u64 (g.1 : Nat), errV g.2]
theorem gotV_0 (a : Nat) : gotV (a, 0) = .tuple #[.int .u64 (a : Nat), .nilIface] := rfl
theorem gotV_e (c : Nat) (h : c ≠ 0) : gotV (0, c) = .tuple #[.int .u64 0, .iface 55 (.int .i64 (c : Int))] := by
  unfold gotV errV; rw [if_neg h]; rfl
theorem ret_got {g h : Nat × Nat} (e : g = h) : Ending.returned (gotV g) = .returned (gotV h) := by rw [e]

theorem ret_u64 {a b : Int} {w w' : World} (h : a = b) (hb : Below w.heap.size w w') : Ending.returned (.int .u64 a) = .returned (.int .u64 b) ∧ Below w.heap.size w w' := ⟨by rw [h], hb⟩

end Go.Proofs.YtkhbhkllnigbgaaDoor
