/- What a path leads to: mathematics; rows of numbers. -/
import Derived.Test.YtojlimpooeehhaaDoorTCheck2
import Derived.Test.YtojlimpooeehhaaDoorQMade
namespace Go.Proofs.YtojlimpooeehhaaDoor
open Go.RowKit
/-- A text's byte. -/
def byteN (b : ByteArray) (j : Nat) : Nat := if h : j < b.size then b[j].toNat else 0
theorem byteN_at {b : ByteArray} {j : Nat} (h : j < b.size) : byteN b j = b[j].toNat := by rw [byteN, dif_pos h]
theorem byteN_lt (b : ByteArray) (j : Nat) : byteN b j < 256 := by
  unfold byteN
  split
  · exact UInt8.toNat_lt _
  · omega
/-- A row of numbers. -/
def PRow (W : World) (A : Option Addr) (p : List Int) : Prop := 0 < p.length → ∃ b off, A = some ⟨b, off, none⟩ ∧ b < W.heap.size ∧ ∀ j, j < p.length → W.cell? ⟨b, off + j, none⟩ = some (.int .i64 (p.getD j 0))
theorem PRow.below {W W' : World} {A : Option Addr} {p : List Int} (h : PRow W A p) (hb : Below W.heap.size W W') : PRow W' A p := fun h0 => by
  obtain ⟨b, off, hA, hlt, hc⟩ := h h0
  exact ⟨b, off, hA, Nat.lt_of_lt_of_le hlt hb.size, fun j hj => (hb.cell (p := ⟨b, off + j, none⟩) hlt).trans (hc j hj)⟩
theorem PRow.head {W : World} {A : Option Addr} {i : Int} {p : List Int} (h : PRow W A (i :: p)) : ∃ b off, A = some ⟨b, off, none⟩ ∧ b < W.heap.size ∧ W.cell? ⟨b, off, none⟩ = some (.int .i64 i) := by
  obtain ⟨b, off, hA, hlt, hc⟩ := h (by simp)
  have := hc 0 (by simp)
  exact ⟨b, off, hA, hlt, by simpa using this⟩
/-- The row behind its first number. -/
def behind (A : Option Addr) (c : Nat) : Option Addr := if c = 1 then A else A.map (·.add 1)
theorem slice1 (A : Option Addr) (L c : Nat) (W : World) : (Instr.sliceAt 22 (.slice A (L + 1) c) (some (.int .i64 1)) none none).run Tryd.prog W = .ok (.slice (behind A c) L (c - 1)) W := by
  have hu : Tryd.prog.underlying 22 = some (.slice (Tryd.prog.elem 22)) := by kernel_rfl
  have hsz : (sizeOf (Tryd.prog.elem 22)).run Tryd.prog W = .ok 1 W := by kernel_rfl
  rw [run_sliceAt_slice (h := hu), run_slice_l (ht := hu) (h0 := by omega) (h1 := by omega), hsz]
  simp [Result.andThen, sliced, behind]
theorem PRow.tail {W : World} {A : Option Addr} {i : Int} {p : List Int} (h : PRow W A (i :: p)) {c : Nat} (hc : p.length + 1 ≤ c) : PRow W (behind A c) p := fun h0 => by
  obtain ⟨b, off, hA, hlt, hcs⟩ := h (by simp)
  subst hA
  refine ⟨b, off + 1, ?_, hlt, fun j hj => ?_⟩
  · rw [behind, if_neg (by omega)]
    simp [addr_add]
  · have := hcs (j + 1) (by simpa using hj)
    rw [show off + 1 + j = off + (j + 1) by omega]
    simpa using this

/-- What a path that ends at a field is told; an item; a path. -/
def selfT (k : Int) (y : Tr) : Nat := if k = 1 then y.num else if k = 2 then y.bs.size else if k = 3 then y.nl else y.kl
def itemT (L : Nat) (f : Nat → Nat) (j : Int) (more : List Int) : Nat × Nat := if 0 ≤ j ∧ j < L then (if more = [] then (f j.toNat, 0) else (0, 24)) else (0, 12)
def getT (s : Sch) : Nat → Nat → Tr → List Int → Nat × Nat
  | 0, _, _, _ => (0, 1)
  | _ + 1, _, _, [] => (0, 1)
  | n + 1, t, x, i :: rest =>
    if 0 ≤ i ∧ i < x.kl then
      match rest with
      | [] => (selfT (s.k t i.toNat) (x.kf i.toNat), 0)
      | j :: more =>
        if s.k t i.toNat = 1 then (0, 24)
        else if s.k t i.toNat = 2 then itemT (x.kf i.toNat).bs.size (byteN (x.kf i.toNat).bs) j more
        else if s.k t i.toNat = 3 then itemT (x.kf i.toNat).nl (x.kf i.toNat).nf j more
        else if s.k t i.toNat = 4 then (if 0 < (x.kf i.toNat).kl then getT s n (s.t t i.toNat).toNat ((x.kf i.toNat).kf 0) (j :: more) else (0, 12))
        else if 0 ≤ j ∧ j < (x.kf i.toNat).kl then (if more = [] then (((x.kf i.toNat).kf j.toNat).kl, 0) else getT s n (s.t t i.toNat).toNat ((x.kf i.toNat).kf j.toNat) more) else (0, 12)
    else (0, 1)
theorem getT_no {s : Sch} {n t : Nat} {x : Tr} {i : Int} {rest : List Int} (h : ¬ (0 ≤ i ∧ i < x.kl)) : getT s (n + 1) t x (i :: rest) = (0, 1) := by
  cases rest <;> simp only [getT] <;> rw [if_neg h]
theorem getT_one {s : Sch} {n t : Nat} {x : Tr} {i : Nat} (h : i < x.kl) : getT s (n + 1) t x [(i : Int)] = (selfT (s.k t i) (x.kf i), 0) := by
  simp only [getT]; rw [if_pos (by omega), Int.toNat_natCast]
theorem getT_more {s : Sch} {n t : Nat} {x : Tr} {i : Nat} {j : Int} {more : List Int} (h : i < x.kl) : getT s (n + 1) t x ((i : Int) :: j :: more) = if s.k t i = 1 then (0, 24)
        else if s.k t i = 2 then itemT (x.kf i).bs.size (byteN (x.kf i).bs) j more
        else if s.k t i = 3 then itemT (x.kf i).nl (x.kf i).nf j more
        else if s.k t i = 4 then (if 0 < (x.kf i).kl then getT s n (s.t t i).toNat ((x.kf i).kf 0) (j :: more) else (0, 12))
        else if 0 ≤ j ∧ j < (x.kf i).kl then (if more = [] then (((x.kf i).kf j.toNat).kl, 0) else getT s n (s.t t i).toNat ((x.kf i).kf j.toNat) more) else (0, 12) := by
  rw [getT]; rw [if_pos (by omega), Int.toNat_natCast]
/-- A number and a trouble. -/
def gotV (g : Nat × Nat) : Value := .tuple #[.int .u64 (g.1 : Nat), errV g.2]
theorem gotV_0 (a : Nat) : gotV (a, 0) = .tuple #[.int .u64 (a : Nat), .nilIface] := rfl
theorem gotV_e (c : Nat) (h : c ≠ 0) : gotV (0, c) = .tuple #[.int .u64 0, .iface 57 (.int .i64 (c : Int))] := by
  unfold gotV errV; rw [if_neg h]; rfl
theorem ret_got {g h : Nat × Nat} (e : g = h) : Ending.returned (gotV g) = .returned (gotV h) := by rw [e]

theorem isAmong_any (i n : Int) (w : World) : Calls Tryd.prog 78 #[.int .i64 i, .int .i64 n] w fun e w' => e = .returned (.bool (decide (0 ≤ i ∧ i < n))) ∧ w = w' := by
  go_enter Tryd.func78, Tryd.ntmps78
  go_wp2
  all_goals
    go_ret
    refine ⟨ret_bool ?_, rfl⟩
    rw [Bool.eq_iff_iff]
    simp
    try omega

theorem ret_u64 {a b : Int} {w w' : World} (h : a = b) (hb : Below w.heap.size w w') : Ending.returned (.int .u64 a) = .returned (.int .u64 b) ∧ Below w.heap.size w w' := ⟨by rw [h], hb⟩
set_option maxRecDepth 100000 in
set_option maxHeartbeats 1000000 in
theorem itself_any (k : Int) (x : Tr) (An Ak : Option Addr) (cn ck n : Nat) (hS : Sm n x) (w : World) : Calls Tryd.prog 80 #[(.agg #[.int .u64 ((x).num : Nat), .string (x).bs, .slice An (x).nl cn, .slice Ak (x).kl ck]), .int .i64 k] w fun e w' => e = .returned (.int .u64 (selfT k x : Nat)) ∧ Below w.heap.size w w' := by
  obtain ⟨h1, h2, h3, h4⟩ := hS.le
  clear hS
  by_cases e1 : k = 1
  · subst e1
    go_enter Tryd.func80, Tryd.ntmps80
    go_wp2
    go_ret
    exact ret_u64 rfl (by (repeat (first | with_reducible exact Below.refl _ _ | with_reducible refine Below.drew ?_ | (with_reducible refine Below.setCell ?_ ?side _; case side => exact (by first | (simp; done) | (simp; omega) | omega)) | (with_reducible refine Below.alloc ?_ ?side _; case side => exact (by first | (simp; done) | (simp; omega) | omega)))))
  by_cases e2 : k = 2
  · subst e2
    go_enter Tryd.func80, Tryd.ntmps80
    go_wp2
    go_ret
    exact ret_u64 (by simp [selfT]) (by (repeat (first | with_reducible exact Below.refl _ _ | with_reducible refine Below.drew ?_ | (with_reducible refine Below.setCell ?_ ?side _; case side => exact (by first | (simp; done) | (simp; omega) | omega)) | (with_reducible refine Below.alloc ?_ ?side _; case side => exact (by first | (simp; done) | (simp; omega) | omega)))))
  by_cases e3 : k = 3
  · subst e3
    go_enter Tryd.func80, Tryd.ntmps80
    go_wp2
    go_ret
    exact ret_u64 (by simp [selfT]) (by (repeat (first | with_reducible exact Below.refl _ _ | with_reducible refine Below.drew ?_ | (with_reducible refine Below.setCell ?_ ?side _; case side => exact (by first | (simp; done) | (simp; omega) | omega)) | (with_reducible refine Below.alloc ?_ ?side _; case side => exact (by first | (simp; done) | (simp; omega) | omega)))))
  · go_enter Tryd.func80, Tryd.ntmps80
    go_wp2
    go_ret
    exact ret_u64 (by simp [selfT, e1, e2, e3]) (by (repeat (first | with_reducible exact Below.refl _ _ | with_reducible refine Below.drew ?_ | (with_reducible refine Below.setCell ?_ ?side _; case side => exact (by first | (simp; done) | (simp; omega) | omega)) | (with_reducible refine Below.alloc ?_ ?side _; case side => exact (by first | (simp; done) | (simp; omega) | omega)))))

set_option maxRecDepth 100000 in
set_option maxHeartbeats 1000000 in
theorem item_any (A : Option Addr) (L c : Nat) (f : Nat → Nat) (hL : L ≤ 1000) (Ap : Option Addr) (cp : Nat) (j : Int) (more : List Int) (hm : more.length ≤ 1000) (w : World) (hr : WRow w A L f) (hp : PRow w Ap (j :: more)) : Calls Tryd.prog 82 #[.slice A L c, .slice Ap (more.length + 1) cp] w fun e w' => e = .returned (gotV (itemT L f j more)) ∧ Below w.heap.size w w' := by
  obtain ⟨bp, op, rfl, hbp, hcp⟩ := hp.head
  have HR := Lib.hid hr
  clear hr hp
  by_cases h : 0 ≤ j ∧ j < L
  · obtain ⟨j, rfl⟩ : ∃ m : Nat, j = m := ⟨j.toNat, by omega⟩
    have hj : j < L := by omega
    obtain ⟨b, off, rfl, hb, hc⟩ := HR.out.some_ (by omega)
    have hcj := hc j hj
    clear hc
    by_cases he : more = []
    · subst he
      have HI : Hid (itemT L f j [] = (f j, 0)) := Lib.hid (by unfold itemT; rw [if_pos h, if_pos rfl]; rfl)
      go_enter Tryd.func82, Tryd.ntmps82
      go_wp2_with fail
      refine (isAmong_any j L _).mono ?_
      rintro e w' ⟨rfl, rfl⟩
      rw [decide_eq_true h]
      go_wp2
      go_ret2
      exact ⟨by rw [HI.out, gotV_0]; rfl, Below.refl _ _⟩
    · have hl : 0 < more.length := List.length_pos_iff.2 he
      have HI : Hid (itemT L f j more = (0, 24)) := Lib.hid (by unfold itemT; rw [if_pos h, if_neg he])
      generalize more.length = l at *
      go_enter Tryd.func82, Tryd.ntmps82
      go_wp2_with fail
      refine (isAmong_any j L _).mono ?_
      rintro e w' ⟨rfl, rfl⟩
      rw [decide_eq_true h]
      have d1 : decide ((1 : Int) < (l : Int) + 1) = true := by simp; omega
      have d2 : decide (1 < l + 1) = true := by simp; omega
      go_wp2_with fail
      refine (Cs.new_code 24 _ rfl).mono ?_
      rintro e w' ⟨rfl, rfl⟩
      go_wp2
      go_ret2
      exact ⟨by rw [HI.out, gotV_e _ (by omega)]; rfl, Below.refl _ _⟩
  · have HI : Hid (itemT L f j more = (0, 12)) := Lib.hid (by unfold itemT; rw [if_neg h])
    go_enter Tryd.func82, Tryd.ntmps82
    go_wp2_with fail
    refine (isAmong_any j L _).mono ?_
    rintro e w' ⟨rfl, rfl⟩
    rw [decide_eq_false h]
    go_wp2_with fail
    refine (Cs.new_code 12 _ rfl).mono ?_
    rintro e w' ⟨rfl, rfl⟩
    go_wp2
    go_ret2
    exact ⟨by rw [HI.out, gotV_e _ (by omega)]; rfl, Below.refl _ _⟩

set_option maxRecDepth 100000 in
set_option maxHeartbeats 2000000 in
theorem numbers_any (s : ByteArray) (hs : s.size ≤ 50) (w : World) : Calls Tryd.prog 81 #[.string s] w fun e w' => ∃ A c, e = .returned (.slice A s.size c) ∧ WRow w' A s.size (byteN s) ∧ Below w.heap.size w w' := by
  obtain ⟨n, hn⟩ : ∃ n, n = s.size := ⟨_, rfl⟩
  go_enter Tryd.func81, Tryd.ntmps81
  have hmk := run_make_row' (P := Tryd.prog) 31 30 (.int .u64 0) 8 Tryd.underlying31 info_u64 rfl .i64 .i64 s.size (by omega) (by omega)
  go_wp2
  have hB1 : Below w.heap.size w (w.alloc (.cells (madeCells #[.int .u64 0] s.size) 30)) := by (repeat (first | with_reducible exact Below.refl _ _ | with_reducible refine Below.drew ?_ | (with_reducible refine Below.setCell ?_ ?side _; case side => exact (by first | (simp; done) | (simp; omega) | omega)) | (with_reducible refine Below.alloc ?_ ?side _; case side => exact (by first | (simp; done) | (simp; omega) | omega))))
  have hR1 := World.rowIs_made w (.int .u64 0) s.size 30
  clear hmk
  generalize w.alloc (.cells (madeCells #[.int .u64 0] s.size) 30) = W1 at hB1 hR1 ⊢
  go_loopw [10] (fun i wr => ∃ m : Nat, m ≤ s.size ∧ i = .int .i64 m ∧ Hid (wr.rowIs w.heap.size 30 s.size (fun j => .int .u64 (if j < m then byteN s j else 0 : Nat))) ∧ Hid (Below w.heap.size w wr)) (fun i _ => s.size - (intOf i).toNat)
  case atStart => exact ⟨0, Nat.zero_le _, rfl, Lib.hid (hR1.congr fun j _ => by simp), Lib.hid hB1⟩
  case round =>
    clear hB1 hR1
    obtain ⟨m, hm, rfl, Hrow, HB⟩ := hrel
    by_cases hlt : m < s.size
    · have hfz := Hrow.out.frozen m
      have hcl := Hrow.out.cell hlt
      have HBN := Lib.hid (byteN_at hlt)
      have HWR : Hid (IntKind.u64.wrap (s[m].toNat : Int) = (s[m].toNat : Int)) := Lib.hid (by rw [IntKind.wrap_u64]; have := UInt8.toNat_lt s[m]; omega)
      go_wp2
      go_roundw
      case rel => exact ⟨m + 1, by omega, by go_num, Lib.hid ((Hrow.out.set m _).congr fun j hj => by rw [HWR.out, ← HBN.out]; exact row_put (byteN s) m j), Lib.hid (HB.out.setCell (Nat.le_refl _) _)⟩
      case measure => simp [intOf]; omega
    · have he : m = s.size := by omega
      subst he
      go_wp2
      go_ret
      exact ⟨_, _, rfl, wrow_of_rowIs (Hrow.out.congr fun j hj => by simp [hj]) (fun j _ => Nat.lt_trans (byteN_lt s j) (by omega)), HB.out⟩

end Go.Proofs.YtojlimpooeehhaaDoor
