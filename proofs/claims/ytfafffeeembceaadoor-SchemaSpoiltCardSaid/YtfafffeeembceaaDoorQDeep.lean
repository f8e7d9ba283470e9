/- How deep a type is: closures. -/
import Derived.Test.YtfafffeeembceaaDoorQTell
import Derived.Laws.EntriesVeiled
namespace Go.Proofs.YtfafffeeembceaaDoor
open Go.RowKit
theorem mk_func (fn : Fn) (first cap : Array Value) (w : World) : (Instr.makeFunc fn first cap).run Tryd.prog w = .ok (.func fn first cap) w := rfl

theorem hasStructs_any (k : Int) (w : World) : Calls Tryd.prog 50 #[.int .i64 k] w fun e w' => e = .returned (.bool (decide (k = 4 ∨ k = 5))) ∧ w = w' := by
  go_enter Tryd.func50, Tryd.ntmps50
  go_wp2
  all_goals
    go_ret
    refine ⟨ret_bool ?_, rfl⟩
    rw [Bool.eq_iff_iff]
    simp_all

set_option maxRecDepth 100000 in
set_option maxHeartbeats 1000000 in
theorem less_any (d : Nat) (k t : Int) (B : Nat) (v : Nat → Nat) (w : World) (h1 : 1 ≤ k) (h5 : k ≤ 5) (ht : 0 ≤ t) (ht8 : t < 8) (hr : w.rowIs B 89 8 (fun j => .int .i64 (v j : Nat))) :
    Calls Tryd.prog 49 #[.int .i64 d, .agg #[.int .i64 k, .int .i64 t], .pointer (some ⟨B, 0, none⟩)] w fun e w' => e = .returned (.bool (decide (4 ≤ k → v t.toNat < d))) ∧ Below w.heap.size w w' := by
  obtain ⟨m, rfl⟩ : ∃ m : Nat, t = m := ⟨t.toNat, by omega⟩
  have c0 := hr.cell (i := m) (by omega)
  have hlt := hr.lt
  clear hr
  go_enter Tryd.func49, Tryd.ntmps49
  go_wp2_with fail
  refine (hasStructs_any k _).mono ?_
  rintro e w' ⟨rfl, rfl⟩
  by_cases h4 : 4 ≤ k
  · rw [decide_eq_true (show k = 4 ∨ k = 5 by omega)]
    have hne : B ≠ w.heap.size := by omega
    go_wp2
    go_ret
    refine ⟨ret_bool ?_, by (repeat (first | with_reducible exact Below.refl _ _ | with_reducible refine Below.drew ?_ | (with_reducible refine Below.setCell ?_ ?side _; case side => exact (by first | (simp; done) | (simp; omega) | omega)) | (with_reducible refine Below.alloc ?_ ?side _; case side => exact (by first | (simp; done) | (simp; omega) | omega))))⟩
    rw [Bool.eq_iff_iff]
    simp [h4]
  · rw [decide_eq_false (show ¬ (k = 4 ∨ k = 5) by omega)]
    go_wp2
    go_ret
    refine ⟨ret_bool ?_, by (repeat (first | with_reducible exact Below.refl _ _ | with_reducible refine Below.drew ?_ | (with_reducible refine Below.setCell ?_ ?side _; case side => exact (by first | (simp; done) | (simp; omega) | omega)) | (with_reducible refine Below.alloc ?_ ?side _; case side => exact (by first | (simp; done) | (simp; omega) | omega))))⟩
    simp [h4]

theorem deepf_any (B : Nat) (v : Nat → Nat) (m : Nat) (hm : m < 8) (w : World) (hr : w.rowIs B 89 8 (fun j => .int .i64 (v j : Nat))) :
    Calls Tryd.prog 51 #[.int .i64 m, .pointer (some ⟨B, 0, none⟩)] w fun e w' => e = .returned (.int .i64 (v m : Nat)) ∧ w = w' := by
  have c0 := hr.cell (i := m) (by omega)
  clear hr
  go_enter Tryd.func51, Tryd.ntmps51
  go_wp2
  go_ret
  exact ⟨rfl, rfl⟩

def six (m j : Nat) : Nat := if j < m then 6 else 0
theorem six_put (m j : Nat) : (if j = m then Value.int .i64 6 else .int .i64 (six m j : Nat)) = .int .i64 (six (m + 1) j : Nat) := by
  unfold six
  by_cases e : j = m
  · subst e; simp
  · by_cases h : j < m
    · rw [if_neg e, if_pos h, if_pos (by omega)]
    · rw [if_neg e, if_neg h, if_neg (by omega)]
theorem fnd_less' {s : Sch} {d i v : Nat} (h : fnd s (d + 1) i v) (hd : d < 6) : v < d + 1 ↔ lv s d i := by
  rw [Nat.lt_succ_iff, h d]
  refine ⟨fun g => ?_, fun g => .inl (.inl ⟨g, by omega⟩)⟩
  rcases g with (⟨g, _⟩ | ⟨_, g⟩) | g
  · exact g
  · omega
  · omega
/-- Depths within round d + 1, in which m types were looked at. -/
structure DRow (s : Sch) (w : World) (n d m : Nat) (v : Nat → Nat) (wr : World) : Prop where
  row : wr.rowIs w.heap.size 89 8 (fun j => .int .i64 (v j : Nat))
  done_ : ∀ i, i < m → fnd s (d + 1) i (v i)
  todo : ∀ i, m ≤ i → i < n → fnd s d i (v i)
  below : Below w.heap.size w wr
theorem DRow.less {s : Sch} {w : World} {n d m : Nat} {v : Nat → Nat} {wr : World} (h : DRow s w n d m v wr) (hd : d < 6) {i : Nat} (hi : i < n) : v i < d + 1 ↔ lv s d i := by
  by_cases e : i < m
  · exact fnd_less' (h.done_ i e) hd
  · exact fnd_less (h.todo i (by omega) hi) hd
theorem DRow.fresh {s : Sch} {w : World} {n d m : Nat} {v : Nat → Nat} {wr w' : World} (h : DRow s w n d m v wr) (hb : Below wr.heap.size wr w') : DRow s w n d m v w' :=
  ⟨h.row.of_block (hb.block _ h.row.lt), h.done_, h.todo, Below.step h.below hb h.below.size⟩
theorem DRow.no {s : Sch} {w : World} {n d m : Nat} {v : Nat → Nat} {wr : World} (h : DRow s w n d m v wr) (hm : m < n) (g : ¬ lv s (d + 1) m) : DRow s w n d (m + 1) v wr :=
  ⟨h.row, fun i hi => by
    by_cases e : i = m
    · subst e; exact fnd_no (h.todo i (by omega) hm) g
    · exact h.done_ i (by omega), fun i h1 h2 => h.todo i (by omega) h2, h.below⟩
def putM (v : Nat → Nat) (m x : Nat) (j : Nat) : Nat := if j = m then x else v j
theorem DRow.yes {s : Sch} {w : World} {n d m : Nat} {v : Nat → Nat} {wr : World} (h : DRow s w n d m v wr) (hm : m < n) (hd : d < 6) (g : lv s (d + 1) m) (x : Int) (hx : x = ((min (v m) (d + 1) : Nat) : Int)) : DRow s w n d (m + 1) (putM v m (min (v m) (d + 1))) (wr.setCell ⟨w.heap.size, m, none⟩ (.int .i64 x)) := by
  subst hx
  refine ⟨(h.row.set m _).congr fun j _ => ?_, fun i hi => ?_, fun i h1 h2 => ?_, h.below.setCell (Nat.le_refl _) _⟩
  · unfold putM
    by_cases e : j = m
    · rw [if_pos e, if_pos e]
    · rw [if_neg e, if_neg e]
  · unfold putM
    by_cases e : i = m
    · subst e; rw [if_pos rfl]; exact fnd_yes (h.todo i (by omega) hm) g hd
    · rw [if_neg e]; exact h.done_ i (by omega)
  · unfold putM
    rw [if_neg (by omega)]
    exact h.todo i (by omega) h2
theorem DRow.round {s : Sch} {w : World} {n d : Nat} {v : Nat → Nat} {wr : World} (h : DRow s w n d n v wr) : DRow s w n (d + 1) 0 v wr :=
  ⟨h.row, fun i hi => by omega, fun i _ h2 => h.done_ i h2, h.below⟩

set_option maxRecDepth 100000 in
set_option maxHeartbeats 4000000 in
theorem depths_any (s : Sch) (A : Option Addr) (c : Nat) (w : World) (hr : SAt w A s) (h : RightS s) : Calls Tryd.prog 37 #[.slice A s.n c] w fun e w' => ∃ (B : Nat) (v : Nat → Nat), e = .returned (.func (.func 51) #[] #[.pointer (some ⟨B, 0, none⟩)]) ∧ w'.rowIs B 89 8 (fun j => .int .i64 (v j : Nat)) ∧ (∀ i, i < s.n → v i = deepS s i) ∧ Below w.heap.size w w' := by
  have HS := Lib.hid hr
  have HR := Lib.hid h
  clear hr
  obtain ⟨h1, h8, -⟩ := h
  have hmf := mk_func
  obtain ⟨n, HN⟩ : ∃ n, Hid (s.n = n) := ⟨_, Lib.hid rfl⟩
  rw [HN.out] at h1 h8 ⊢
  go_enter Tryd.func37, Tryd.ntmps37
  go_wp2
  go_loopw [11] (fun i wr => ∃ m : Nat, m ≤ 8 ∧ i = .int .i64 m ∧ wr.rowIs w.heap.size 89 8 (fun j => .int .i64 (six m j : Nat)) ∧ Below w.heap.size w wr) (fun i _ => 8 - (intOf i).toNat)
  case atStart => exact ⟨0, by omega, rfl, World.rowIs_alloc w #[.int .i64 0, .int .i64 0, .int .i64 0, .int .i64 0, .int .i64 0, .int .i64 0, .int .i64 0, .int .i64 0] 89 _ (by intro j hj; match j, hj with | 0, _ => rfl | 1, _ => rfl | 2, _ => rfl | 3, _ => rfl | 4, _ => rfl | 5, _ => rfl | 6, _ => rfl | 7, _ => rfl), by (repeat (first | with_reducible exact Below.refl _ _ | with_reducible refine Below.drew ?_ | (with_reducible refine Below.setCell ?_ ?side _; case side => exact (by first | (simp; done) | (simp; omega) | omega)) | (with_reducible refine Below.alloc ?_ ?side _; case side => exact (by first | (simp; done) | (simp; omega) | omega))))⟩
  case round =>
    obtain ⟨m, hm, rfl, hR, hB⟩ := hrel
    have HW := Lib.hid hR
    have HB := Lib.hid hB
    clear hR hB
    by_cases hlt : m < 8
    · have ck := HW.out.cell hlt
      have fk := HW.out.frozen
      have k2 : (m : Int) < 8 := by omega
      go_wp2
      go_roundw
      case rel => exact ⟨m + 1, by omega, by go_num, (HW.out.set m _).congr fun j _ => six_put m j, HB.out.setCell (Nat.le_refl _) _⟩
      case measure => simp [intOf]; omega
    · have e : m = 8 := by omega
      rw [e] at HW
      have dm : decide ((m : Int) < 8) = false := by simp; omega
      have HD : Hid (DRow s w n 0 0 (fun _ => 6) wr) := Lib.hid ⟨HW.out.congr fun j hj => by simp [six, hj], fun i hi => by omega, fun i _ _ => fnd_zero s i, HB.out⟩
      clear HW HB hlt hm e
      go_wp2
      clear dm
      go_loopw [6] (fun dv wr => ∃ (d : Nat) (v : Nat → Nat), d ≤ 5 ∧ dv = .int .i64 ((d : Int) + 1) ∧ Hid (DRow s w n d 0 v wr)) (fun dv _ => 6 - (intOf dv).toNat)
      case atStart => exact ⟨0, _, by omega, by go_num, HD⟩
      case round =>
        clear HD
        obtain ⟨d, v, hd, rfl, HD⟩ := hrel
        by_cases hd5 : d < 5
        · have dd : decide ((d : Int) + 1 ≤ 5) = true := by simp; omega
          go_wp2
          clear dd
          go_step3
          go_wp2
          go_step3
          go_wp2
          go_loopw [24] (fun tv wr => ∃ (m : Nat) (v : Nat → Nat), m ≤ n ∧ tv = .int .i64 m ∧ Hid (DRow s w n d m v wr)) (fun tv _ => n - (intOf tv).toNat)
          case atStart => exact ⟨0, v, by omega, rfl, HD⟩
          case round =>
            clear HD
            obtain ⟨m, v, hm, rfl, HD⟩ := hrel
            by_cases hlt : m < n
            · have hlt' : m < s.n := by rw [HN.out]; exact hlt
              obtain ⟨b, off, rfl, hb, hc⟩ := HS.out.some_ (by omega)
              obtain ⟨Ai, ci, hcell, hf⟩ := hc m hlt'
              obtain ⟨l1, l6, -⟩ := HR.out.2.2 m hlt'
              obtain ⟨b', off', rfl, hb', hc'⟩ := hf.some_ (by omega)
              have c1 := (HD.out.below.cell (p := ⟨b, off + m, none⟩) hb).trans hcell
              have HF := Lib.hid hc'
              have HG := Lib.hid (fun j hj => (HR.out.2.2 m hlt').2.2 j hj)
              have HNL := Lib.hid (fun (j : Nat) (hj : j < s.len m) (hk : 4 ≤ s.k m j) (hl : ¬ lv s d (s.t m j).toNat) => (fun g => hl (g j hj hk) : ¬ lv s (d + 1) m))
              have HYL := Lib.hid (show (∀ j, j < s.len m → 4 ≤ s.k m j → lv s d (s.t m j).toNat) → lv s (d + 1) m from id)
              clear hc hc' hf hcell
              obtain ⟨L, HL⟩ : ∃ L, Hid (s.len m = L) := ⟨_, Lib.hid rfl⟩
              rw [HL.out] at HF HG HNL HYL c1 l1 l6
              rw [HN.out] at HG
              go_wp2
              go_loopw [31] (fun jv wr => ∃ q : Nat, q ≤ L ∧ jv = .int .i64 q ∧ Hid (DRow s w n d m v wr) ∧ Hid (∀ j, j < q → 4 ≤ s.k m j → lv s d (s.t m j).toNat)) (fun jv _ => L - (intOf jv).toNat)
              case atStart => exact ⟨0, by omega, rfl, HD, Lib.hid fun j hj => by omega⟩
              case round =>
                clear HD c1
                obtain ⟨q, hq, rfl, HD, HP⟩ := hrel
                by_cases hq1 : q < L
                · have c2 := (HD.out.below.cell (p := ⟨b', off' + q * 2, none⟩) hb').trans (HF.out q hq1).1
                  have c3 := (HD.out.below.cell (p := ⟨b', off' + q * 2 + 1, none⟩) hb').trans (HF.out q hq1).2
                  have HGQ := Lib.hid (HG.out q hq1)
                  have hzw := HD.out.below.size
                  go_wp2_with fail
                  refine (less_any (d + 1) (s.k m q) (s.t m q) w.heap.size v _ HGQ.out.1 HGQ.out.2.1 HGQ.out.2.2.1 (by have := HGQ.out.2.2.2.1; omega) (HD.out.row.alloc _)).mono ?_
                  rintro e w2 ⟨rfl, hb2⟩
                  have HD2 := Lib.hid (DRow.fresh (HD.out.fresh ((Below.refl _ _).alloc (Nat.le_refl _) _)) hb2)
                  have HLS := Lib.hid (HD.out.less (i := (s.t m q).toNat) (by omega) (by have := HGQ.out; unfold fieldOk at this; omega))
                  clear hb2 HD c2 c3
                  by_cases hg : 4 ≤ s.k m q → v (s.t m q).toNat < d + 1
                  · rw [decide_eq_true hg]
                    go_wp2
                    go_roundw
                    case rel =>
                      refine ⟨q + 1, by omega, by go_num, HD2, Lib.hid fun j hj hk => ?_⟩
                      by_cases e : j = q
                      · subst e; exact HLS.out.1 (hg hk)
                      · exact HP.out j (by omega) hk
                    case measure => simp [intOf]; omega
                  · rw [decide_eq_false hg]
                    go_wp2
                    go_roundw
                    case rel =>
                      refine ⟨m + 1, v, by omega, by go_num, Lib.hid (HD2.out.no hlt ?_)⟩
                      have h4 : 4 ≤ s.k m q := by
                        rcases Classical.em (4 ≤ s.k m q) with h | h
                        · exact h
                        · exact absurd (fun g => absurd g h) hg
                      exact HNL.out q hq1 h4 (fun g => hg fun _ => HLS.out.2 g)
                    case measure => simp [intOf]; omega
                · have hqL : q = L := by omega
                  subst hqL
                  have HYes := Lib.hid (HYL.out HP.out)
                  have ck := HD.out.row.cell (i := m) (by omega)
                  have fk := HD.out.row.frozen
                  have m8 : (m : Int) < 8 := by omega
                  go_wp2
                  go_roundw
                  case rel =>
                    refine ⟨m + 1, _, by omega, by go_num, Lib.hid (HD.out.yes hlt (by omega) HYes.out _ ?_)⟩
                    first | rfl | go_num | omega
                  case measure => simp [intOf]; omega
            · have e : m = n := by omega
              subst e
              go_wp2
              first | rw [Exit.noGoto_normal] | go_step3
              go_wp2
              go_roundw
              case rel => exact ⟨d + 1, v, by omega, by go_num, Lib.hid HD.out.round⟩
              case measure => simp [intOf]; omega
        · have e : d = 5 := by omega
          subst e
          go_wp2
          go_ret
          exact ⟨_, v, rfl, HD.out.row, fun i hi => fnd_all (HD.out.todo i (by omega) hi), HD.out.below⟩

end Go.Proofs.YtfafffeeembceaaDoor
