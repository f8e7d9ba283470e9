/- SchemaReads: the law's own walk. -/
import Derived.Test.YtfafffeeembceaaDoorQReads
namespace Go.Proofs.YtfafffeeembceaaDoor
open Go.ChangeShapes Go.WideShapes Go.ChangeAt Go.RowKit
/-- A number by a mask. -/
theorem and_mask (q : Int) (M : Nat) (hM : M < 4611686018427387904) : ∃ m : Nat, m ≤ M ∧ bits .and .i64 q (M : Int) = (m : Int) := by
  have e : (BitVec.ofInt 64 (M : Int)).toNat = M := by
    rw [BitVec.ofInt_natCast, BitVec.toNat_ofNat]; exact Nat.mod_eq_of_lt (by omega)
  refine ⟨(BitVec.ofInt 64 q &&& BitVec.ofInt 64 (M : Int)).toNat, ?_, ?_⟩
  · rw [BitVec.toNat_and, e]; exact Nat.and_le_right
  · have h : (BitVec.ofInt 64 q &&& BitVec.ofInt 64 (M : Int)).toNat ≤ M := by rw [BitVec.toNat_and, e]; exact Nat.and_le_right
    show IntKind.i64.wrap ((BitVec.ofInt 64 q &&& BitVec.ofInt 64 (M : Int)).toNat : Int) = _
    generalize (BitVec.ofInt 64 q &&& BitVec.ofInt 64 (M : Int)).toNat = m at h ⊢
    simp [IntKind.wrap, IntKind.bits, IntKind.signed]
    omega
theorem xor_nat (a b : Int) : ∃ x : Nat, x < 18446744073709551616 ∧ bits .xor .u64 a b = (x : Int) := by
  refine ⟨(BitVec.ofInt 64 a ^^^ BitVec.ofInt 64 b).toNat, (BitVec.ofInt 64 a ^^^ BitVec.ofInt 64 b).isLt, ?_⟩
  show IntKind.u64.wrap ((BitVec.ofInt 64 a ^^^ BitVec.ofInt 64 b).toNat : Int) = _
  have h := (BitVec.ofInt 64 a ^^^ BitVec.ofInt 64 b).isLt
  rw [IntKind.wrap_u64]
  omega
theorem cellsW_set (f : Nat → Nat) (n i x : Nat) : (cellsW f n).set i (.int .u64 (x : Nat)) = cellsW (adPut f i x) n := by
  apply List.ext_getElem?
  intro j
  by_cases hj : j < n
  · by_cases e : j = i
    · subst e; simp [cellsW, hj, adPut]
    · rw [List.getElem?_set_ne (fun h => e h.symm)]
      simp [cellsW, hj, adPut, e]
  · rw [List.getElem?_eq_none (by simp [cellsW]; omega), List.getElem?_eq_none (by simp [cellsW]; omega)]

theorem WRow.cut {W : World} {A : Option Addr} {L L' : Nat} {f : Nat → Nat} (h : WRow W A L f) (hL : L' ≤ L) : WRow W A L' f :=
  ⟨fun j hj => h.lt j (by omega), fun h0 => by
    obtain ⟨b, off, hA, hlt, hc⟩ := h.some_ (by omega)
    exact ⟨b, off, hA, hlt, fun j hj => hc j (by omega)⟩⟩

set_option maxRecDepth 100000 in
set_option maxHeartbeats 8000000 in
theorem lawReads_any (A0 : Option Addr) (L0 c0 : Nat) (f0 : Nat → Nat) (Al : Option Addr) (L cl : Nat) (bit : Int) (w : World) (hE : Cs.ErrT w) (hl0 : L0 ≤ c0) (hc0 : c0 ≤ 9223372036854775807) (hW : WRow w A0 L0 f0) (hL : L ≤ 9223372036854775807) (hi : IRow w Al L) :
    Calls Tryd.prog 4 #[.slice A0 L0 c0, .slice Al L cl, .int .i64 bit] w fun e w' => e = .returned (.bool true) ∧ Below w.heap.size w w' := by
  have HE := Lib.hid hE
  have HW := Lib.hid hW
  have HI := Lib.hid hi
  clear hE hW hi
  go_enter Tryd.func4, Tryd.ntmps4
  go_wp2_with fail
  refine (awake5_any _).mono ?_
  rintro e w1 ⟨rfl, hb⟩
  have H1 := Lib.hid hb
  clear hb
  obtain ⟨k, hk, hke⟩ := and_mask bit 63 (by omega)
  have HK := Lib.hid hke
  clear hke
  by_cases h9 : 9 < L0
  · have d9 : decide (9 < (L0 : Int)) = true := by simp; omega
    have d9' : decide (9 < L0) = true := by simp; omega
    obtain ⟨b, off, rfl, hb0, -⟩ := HW.out.some_ (by omega)
    have HWC : Hid (WRow w (some ⟨b, off, none⟩) 9 f0) := Lib.hid (HW.out.cut (by omega))
    go_wp2_with fail
    refine (made_any Al L cl _ hL (HI.out.below H1.out)).mono ?_
    rintro e w2 ⟨s, A, c, rfl, hright, h4, h4', hsat, hb⟩
    have H2 := Lib.hid (Below.step H1.out hb H1.out.size)
    have HS := Lib.hid hsat
    have HRt := Lib.hid hright
    clear hsat hb H1 h4'
    go_wp2_with fail
    refine (r5Pack_yes s A c _ HS.out HRt.out).mono ?_
    rintro e w3 ⟨v, rfl, hra⟩
    have h1 := hright.1
    have HWD := Lib.hid (fun j hj => hright.wd_lt (i := j) hj)
    clear hright
    obtain ⟨n, HN⟩ : ∃ n, Hid (s.n = n) := ⟨_, Lib.hid rfl⟩
    rw [HN.out] at hra h1 h4 HWD
    obtain ⟨g, cap, rfl⟩ : ∃ g cap, v = .slice (some ⟨g, 0, none⟩) n cap := by
      obtain ⟨n', rfl⟩ : ∃ n', n = n' + 1 := ⟨n - 1, by omega⟩
      exact ownsRow_succ hra.own
    have HR3 := Lib.hid hra
    have H3 := Lib.hid (Below.step H2.out hra.below H2.out.size)
    have H2z := Lib.hid H2.out.size
    clear hra HS HRt H2
    obtain ⟨i, hin, hie⟩ := rest (bit / 64) n h1 (by omega)
    have hg := (HR3.out.own.lt g rfl).1
    have ck : w3.cell? ⟨g, i, none⟩ = some (.int .u64 (wd s i : Nat)) := by
      rw [World.ownsRow.cellAt HR3.out.own i (by omega)]
      simp [cellsW, hin]
    have fk := World.ownsRow.frozenAt HR3.out.own i
    have hn0 : ((n : Int) == 0) = false := by simp; omega
    have hn0' : ((n : Int) = 0) = False := by simp; omega
    rw [show ((63 : Nat) : Int) = 63 from rfl] at HK
    have hke := HK.out
    have hw2 := H2z.out
    obtain ⟨X, hX, hXe⟩ := xor_nat ((wd s i : Nat) : Int) (IntKind.u64.wrap (2 ^ k))
    have HXE := Lib.hid hXe
    clear hXe
    go_wp2_with fail
    rw [HXE.out]
    have hst := (World.ownsRow.stored HR3.out.own i (.int .u64 (X : Int))).1
    rw [cellsW_set] at hst
    have hB4 : Below w.heap.size w (w3.setCell ⟨g, i, none⟩ (.int .u64 (X : Int))) := H3.out.setCell (p := ⟨g, i, none⟩) (by show w.heap.size ≤ g; omega) _
    have H4 := Lib.hid hB4
    have hrow : WRow (w3.setCell ⟨g, i, none⟩ (.int .u64 (X : Int))) (some ⟨g, 0, none⟩) n (adPut (wd s) i X) := ⟨fun j hj => by
      unfold adPut
      by_cases e : j = i
      · rw [if_pos e]; exact hX
      · rw [if_neg e]; have := HWD.out j hj; omega, fun _ => ⟨g, 0, rfl, (hst.lt g rfl).2, fun j hj => by
      rw [Nat.zero_add, World.ownsRow.cellAt hst j (by omega)]
      simp [cellsW, hj]⟩⟩
    have HP := Lib.hid hrow
    clear hrow hst hB4 ck fk HR3 H3
    generalize w3.setCell ⟨g, i, none⟩ (.int .u64 (X : Int)) = W4 at H4 HP ⊢
    refine (reads_any (some ⟨b, off, none⟩) 9 c0 f0 _ (HE.out.below H4.out) (HWC.out.below H4.out) (by omega)).mono ?_
    rintro e w5 ⟨rfl, hb⟩
    have H5 := Lib.hid (Below.step H4.out hb H4.out.size)
    have HP5 := Lib.hid (HP.out.below hb)
    clear hb H4 HP
    go_wp2_with fail
    refine (reads_any _ n cap (adPut (wd s) i X) _ (HE.out.below H5.out) HP5.out (by omega)).mono ?_
    rintro e w6 ⟨rfl, hb⟩
    have H6 := Lib.hid (Below.step H5.out hb H5.out.size)
    clear hb H5 HP5
    go_wp2
    go_ret
    exact ⟨rfl, H6.out⟩
  · have d9 : decide (9 < (L0 : Int)) = false := by simp; omega
    have HWC := Lib.hid HW.out
    go_wp2_with fail
    refine (made_any Al L cl _ hL (HI.out.below H1.out)).mono ?_
    rintro e w2 ⟨s, A, c, rfl, hright, h4, h4', hsat, hb⟩
    have H2 := Lib.hid (Below.step H1.out hb H1.out.size)
    have HS := Lib.hid hsat
    have HRt := Lib.hid hright
    clear hsat hb H1 h4'
    go_wp2_with fail
    refine (r5Pack_yes s A c _ HS.out HRt.out).mono ?_
    rintro e w3 ⟨v, rfl, hra⟩
    have h1 := hright.1
    have HWD := Lib.hid (fun j hj => hright.wd_lt (i := j) hj)
    clear hright
    obtain ⟨n, HN⟩ : ∃ n, Hid (s.n = n) := ⟨_, Lib.hid rfl⟩
    rw [HN.out] at hra h1 h4 HWD
    obtain ⟨g, cap, rfl⟩ : ∃ g cap, v = .slice (some ⟨g, 0, none⟩) n cap := by
      obtain ⟨n', rfl⟩ : ∃ n', n = n' + 1 := ⟨n - 1, by omega⟩
      exact ownsRow_succ hra.own
    have HR3 := Lib.hid hra
    have H3 := Lib.hid (Below.step H2.out hra.below H2.out.size)
    have H2z := Lib.hid H2.out.size
    clear hra HS HRt H2
    obtain ⟨i, hin, hie⟩ := rest (bit / 64) n h1 (by omega)
    have hg := (HR3.out.own.lt g rfl).1
    have ck : w3.cell? ⟨g, i, none⟩ = some (.int .u64 (wd s i : Nat)) := by
      rw [World.ownsRow.cellAt HR3.out.own i (by omega)]
      simp [cellsW, hin]
    have fk := World.ownsRow.frozenAt HR3.out.own i
    have hn0 : ((n : Int) == 0) = false := by simp; omega
    have hn0' : ((n : Int) = 0) = False := by simp; omega
    rw [show ((63 : Nat) : Int) = 63 from rfl] at HK
    have hke := HK.out
    have hw2 := H2z.out
    obtain ⟨X, hX, hXe⟩ := xor_nat ((wd s i : Nat) : Int) (IntKind.u64.wrap (2 ^ k))
    have HXE := Lib.hid hXe
    clear hXe
    go_wp2_with fail
    rw [HXE.out]
    have hst := (World.ownsRow.stored HR3.out.own i (.int .u64 (X : Int))).1
    rw [cellsW_set] at hst
    have hB4 : Below w.heap.size w (w3.setCell ⟨g, i, none⟩ (.int .u64 (X : Int))) := H3.out.setCell (p := ⟨g, i, none⟩) (by show w.heap.size ≤ g; omega) _
    have H4 := Lib.hid hB4
    have hrow : WRow (w3.setCell ⟨g, i, none⟩ (.int .u64 (X : Int))) (some ⟨g, 0, none⟩) n (adPut (wd s) i X) := ⟨fun j hj => by
      unfold adPut
      by_cases e : j = i
      · rw [if_pos e]; exact hX
      · rw [if_neg e]; have := HWD.out j hj; omega, fun _ => ⟨g, 0, rfl, (hst.lt g rfl).2, fun j hj => by
      rw [Nat.zero_add, World.ownsRow.cellAt hst j (by omega)]
      simp [cellsW, hj]⟩⟩
    have HP := Lib.hid hrow
    clear hrow hst hB4 ck fk HR3 H3
    generalize w3.setCell ⟨g, i, none⟩ (.int .u64 (X : Int)) = W4 at H4 HP ⊢
    refine (reads_any A0 L0 c0 f0 _ (HE.out.below H4.out) (HWC.out.below H4.out) (by omega)).mono ?_
    rintro e w5 ⟨rfl, hb⟩
    have H5 := Lib.hid (Below.step H4.out hb H4.out.size)
    have HP5 := Lib.hid (HP.out.below hb)
    clear hb H4 HP
    go_wp2_with fail
    refine (reads_any _ n cap (adPut (wd s) i X) _ (HE.out.below H5.out) HP5.out (by omega)).mono ?_
    rintro e w6 ⟨rfl, hb⟩
    have H6 := Lib.hid (Below.step H5.out hb H5.out.size)
    clear hb H5 HP5
    go_wp2
    go_ret
    exact ⟨rfl, H6.out⟩

end Go.Proofs.YtfafffeeembceaaDoor
