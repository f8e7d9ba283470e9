/- The looker in memory; words are claimed. -/
import Derived.Test.YtkhbhkllnigbgaaDoorVMath
import Derived.Test.YtkhbhkllnigbgaaDoorBRef
import Derived.Test.YtkhbhkllnigbgaaDoorTSize
import Derived.WalkLawsBesides
import Derived.Deep.QuietTactic
import Derived.BigQuiet
import Derived.Deep.RegionHeld3
import Derived.Deep.RegionHeld2
import Derived.Defers
import Derived.Recover
import Derived.Laws.Pointers
import Derived.Tactics
import Derived.Tactics2
namespace Go.Proofs.YtkhbhkllnigbgaaDoor
open Go.ChangeShapes Go.WideShapes Go.ChangeAt Go.RowKit
/-- The looker's box at q; the schema, and the words, are older. -/
structure LK (w : World) (q : Nat) (s : Sch) (A : Option Addr) (cs : Nat) (Aw : Option Addr) (N cw : Nat) (f : Nat → Nat) (c : Nat) (W : World) : Prop where
  box : W.rowIs q 136 3 (fun j => if j = 0 then .slice A s.n cs else if j = 1 then .slice Aw N cw else .int .i64 (c : Nat))
  sat0 : SAt w A s
  row0 : WRow w Aw N f
  be : Below w.heap.size w W
  qb : w.heap.size ≤ q
section
variable {w : World} {q : Nat} {s : Sch} {A : Option Addr} {cs : Nat} {Aw : Option Addr} {N cw : Nat} {f : Nat → Nat} {c : Nat} {W W' : World}
theorem LK.sat (h : LK w q s A cs Aw N cw f c W) : SAt W A s := h.sat0.below h.be
theorem LK.row (h : LK w q s A cs Aw N cw f c W) : WRow W Aw N f := h.row0.below h.be
theorem LK.below (h : LK w q s A cs Aw N cw f c W) (hb : Below W.heap.size W W') : LK w q s A cs Aw N cw f c W' :=
  ⟨h.box.of_block (hb.block _ h.box.lt), h.sat0, h.row0, Below.step h.be hb h.be.size, h.qb⟩
theorem LK.set (h : LK w q s A cs Aw N cw f c W) (c' : Nat) {z : Int} (hz : z = (c' : Int)) : LK w q s A cs Aw N cw f c' (W.setCell ⟨q, 2, none⟩ (.int .i64 z)) := by
  subst hz
  exact ⟨(h.box.set 2 _).congr fun j hj => (by match j, hj with | 0, _ => rfl | 1, _ => rfl | 2, _ => rfl), h.sat0, h.row0, h.be.setCell h.qb _, h.qb⟩
theorem LK.all (h : LK w q s A cs Aw N cw f c W) : W.cell? ⟨q, 0, none⟩ = some (.slice A s.n cs) ∧ W.cell? ⟨q, 1, none⟩ = some (.slice Aw N cw) ∧ W.cell? ⟨q, 2, none⟩ = some (.int .i64 (c : Nat)) ∧ W.frozen? ⟨q, 2, none⟩ = false ∧ q < W.heap.size := by
  have c0 := h.box.cell (i := 0) (by omega)
  have c1 := h.box.cell (i := 1) (by omega)
  have c2 := h.box.cell (i := 2) (by omega)
  exact ⟨c0, c1, c2, h.box.frozen 2, h.box.lt⟩
end
/-- The same, with what was there in W0 as it was, but for the looker's box. -/
def LF (W0 : World) (w : World) (q : Nat) (s : Sch) (A : Option Addr) (cs : Nat) (Aw : Option Addr) (N cw : Nat) (f : Nat → Nat) (c : Nat) (W : World) : Prop := LK w q s A cs Aw N cw f c W ∧ ButP (fun b => b = q) W0 W
/-- A call that looks: it ends, or it panics with the trouble. -/
def LEnd (K : Nat → World → Prop) (r : VR) (e : Ending) (W' : World) : Prop := match r with
  | (none, c) => e = .returned (.tuple #[]) ∧ K c W'
  | (some (k, p), c) => e = .panicked [{ v := .iface 191 (.agg #[Cs.enc [(0, (p : Int)), ((k : Int), 0)]]), recovered := false }] ∧ K c W'

set_option maxRecDepth 100000 in
theorem tell_any (k p : Nat) (hk : k ≠ 0) (W : World) : Calls Tryd.prog 142 #[.int .i64 (k : Int), .int .i64 (p : Int)] W fun e W' => e = .panicked [{ v := .iface 191 (.agg #[Cs.enc [(0, (p : Int)), ((k : Int), 0)]]), recovered := false }] ∧ W' = W := by
  have hk' : ¬ (k : Int) = 0 := by omega
  have h := Cs.at_any [((k : Int), 0)] (p : Int) W
  rw [Cs.enc_code _ _ hk', show Cs.atP [((k : Int), 0)] (p : Int) = [(0, (p : Int)), ((k : Int), 0)] from rfl] at h
  obtain ⟨t, u, he⟩ := Cs.enc_cons (0, (p : Int)) [((k : Int), 0)]
  rw [he] at h ⊢
  have H := Lib.hid h
  clear h
  go_enter Tryd.func142, Tryd.ntmps142
  go_wp2_with fail
  refine (Cs.new_code (k : Int) _ (by simpa using hk')).mono ?_
  rintro e w' ⟨rfl, rfl⟩
  go_wp2_with fail
  refine H.out.mono ?_
  rintro e w' ⟨rfl, rfl⟩
  go_wp2
  exact ⟨rfl, rfl, rfl⟩

set_option maxRecDepth 100000 in
set_option maxHeartbeats 1000000 in
theorem claim_any (w : World) (q : Nat) (s : Sch) (A : Option Addr) (cs : Nat) (Aw : Option Addr) (N cw : Nat) (f : Nat → Nat) (c : Nat) (W : World) (h : LK w q s A cs Aw N cw f c W) (hc : c ≤ 1000) (hN : 1 ≤ N ∧ N ≤ 200) (p to k : Nat) (hto : to ≤ 100000000000) (hk : k ≤ 1000) :
    Calls Tryd.prog 143 #[.pointer (some ⟨q, 0, none⟩), .int .i64 (p : Int), .int .i64 (to : Int), .int .i64 (k : Int)] W (LEnd (LF W w q s A cs Aw N cw f) (claimV N p to k c)) := by
  have H := Lib.hid h
  obtain ⟨c0, c1, c2, cf, hq⟩ := h.all
  have H2 := Lib.hid (h.set (c + k) (z := (c : Int) + (k : Int)) (by omega))
  have HP2 : Hid (ButP (fun b => b = q) W (W.setCell ⟨q, 2, none⟩ (.int .i64 ((c : Int) + (k : Int))))) := Lib.hid (ButP.set (Q := fun b => b = q) (p := ⟨q, 2, none⟩) (ButP.refl _ _) rfl _)
  clear h
  by_cases h1 : N < to + k
  · have e : claimV N p to k c = (some (23, p), c + k) := by unfold claimV; rw [if_pos h1]
    rw [e]
    have d1 : decide ((N : Int) < (to : Int) + (k : Int)) = true := by simp; omega
    go_enter Tryd.func143, Tryd.ntmps143
    go_wp2_with fail
    refine (tell_any 23 p (by omega) _).mono ?_
    rintro e w' ⟨rfl, rfl⟩
    go_wp2
    exact ⟨rfl, rfl, H2.out, HP2.out⟩
  · have d1 : decide ((N : Int) < (to : Int) + (k : Int)) = false := by simp; omega
    have W2 : ∃ V, Hid (V = W.setCell ⟨q, 2, none⟩ (.int .i64 ((c : Int) + (k : Int)))) := ⟨_, Lib.hid rfl⟩
    obtain ⟨V, HV⟩ := W2
    rw [← HV.out] at H2 HP2
    by_cases h2 : N - 1 < c + k
    · have e : claimV N p to k c = (some (16, p), c + k) := by unfold claimV; rw [if_neg h1, if_pos h2]
      rw [e]
      have d2 : decide ((N : Int) - 1 < (c : Int) + (k : Int)) = true := by simp; omega
      go_enter Tryd.func143, Tryd.ntmps143
      go_wp2_with fail
      clear c0 c1 c2 cf
      obtain ⟨c0, c1, c2, cf, -⟩ := H2.out.all
      rw [← HV.out]
      go_quiet (fail)
      have H3 := Lib.hid (H2.out.below (below_drewN (Below.refl _ V) nq))
      have HP3 := Lib.hid (ButP.trans HP2.out (ButP.of_below (below_drewN (Below.refl _ V) nq)))
      clear H2 c0 c1 c2 cf
      generalize V.drewN nq = V2 at H3 HP3 ⊢
      go_wp2_with fail
      refine (tell_any 16 p (by omega) _).mono ?_
      rintro e w' ⟨rfl, rfl⟩
      go_wp2
      exact ⟨rfl, rfl, H3.out, HP3.out⟩
    · have e : claimV N p to k c = (none, c + k) := by unfold claimV; rw [if_neg h1, if_neg h2]
      rw [e]
      have d2 : decide ((N : Int) - 1 < (c : Int) + (k : Int)) = false := by simp; omega
      go_enter Tryd.func143, Tryd.ntmps143
      go_wp2_with fail
      clear c0 c1 c2 cf
      obtain ⟨c0, c1, c2, cf, -⟩ := H2.out.all
      rw [← HV.out]
      go_quiet (fail)
      have H3 := Lib.hid (H2.out.below (below_drewN (Below.refl _ V) nq))
      have HP3 := Lib.hid (ButP.trans HP2.out (ButP.of_below (below_drewN (Below.refl _ V) nq)))
      clear H2 c0 c1 c2 cf
      generalize V.drewN nq = V2 at H3 HP3 ⊢
      go_wp2
      exact bodyPost_end (v := .tuple #[]) (by simp [results, Tryd.results143, go_sem]) rfl ⟨rfl, H3.out, HP3.out⟩

end Go.Proofs.YtkhbhkllnigbgaaDoor

namespace Go.Proofs.YtkhbhkllnigbgaaDoor
open Go.ChangeShapes Go.WideShapes Go.ChangeAt Go.RowKit
/-- What is the same all along. -/
structure VC where
  w : World
  q : Nat
  s : Sch
  A : Option Addr
  cs : Nat
  Aw : Option Addr
  N : Nat
  cw : Nat
  f : Nat → Nat
  hN : 1 ≤ N ∧ N ≤ 200
  hcw : N ≤ cw
  row : WRow w Aw N f
def VC.K (v : VC) (c : Nat) (W : World) : Prop := LK v.w v.q v.s v.A v.cs v.Aw v.N v.cw v.f c W
/-- The same, with what was there in W0 as it was, but for the looker's box. -/
def VC.F (v : VC) (W0 : World) (c : Nat) (W : World) : Prop := LF W0 v.w v.q v.s v.A v.cs v.Aw v.N v.cw v.f c W
theorem VC.start {v : VC} {c : Nat} {W : World} (h : Hid (v.K c W)) : Hid (v.F W c W) := Lib.hid ⟨h.out, ButP.refl _ _⟩
theorem VC.trans {v : VC} {W0 W W' : World} {c c' : Nat} (h : Hid (v.F W0 c W)) (h' : v.F W c' W') : Hid (v.F W0 c' W') := Lib.hid ⟨h'.1, ButP.trans h.out.2 h'.2⟩
theorem VC.k {v : VC} {W0 W : World} {c : Nat} (h : Hid (v.F W0 c W)) : Hid (v.K c W) := Lib.hid h.out.1
noncomputable def VC.st (v : VC) (r : Nat) : Nat → Nat → Nat → Nat → Nat → VR := strV v.s v.f v.N r
/-- What a field's struct is: its word, its kind, its structs' type, its depth. -/
def fieldA (p : Nat) (k : Int) (τ : Nat) (d : Int) : Value := .agg #[.int .i64 (p : Int), .int .i64 k, .int .i64 (τ : Int), .int .i64 d]
def StrC (v : VC) (r : Nat) : Prop := ∀ (c p τ to n : Nat) (k : Int) (W : World), Hid (v.K c W) → c ≤ v.N - 1 → τ < v.s.n → to ≤ 10000000000 → 1 ≤ n → n ≤ 12 →
  Calls Tryd.prog 160 #[.pointer (some ⟨v.q, 0, none⟩), fieldA p k τ (5 - (r : Int)), .int .i64 (to : Int), .int .i64 (n : Int)] W (LEnd (v.F W) (v.st r τ p to n c))
def VisC (v : VC) (r : Nat) : Prop := ∀ (c t at_ : Nat) (W : World), Hid (v.K c W) → c ≤ v.N - 1 → t < v.s.n → at_ + v.s.len t ≤ v.N →
  Calls Tryd.prog 144 #[.pointer (some ⟨v.q, 0, none⟩), .int .i64 (t : Int), .int .i64 (at_ : Int), .int .i64 (5 - (r : Int))] W (LEnd (v.F W) (visV v.s v.f v.N (v.st r) t at_ c))
def FldC (v : VC) (r : Nat) : Prop := ∀ (c p τ : Nat) (k : Int) (W : World), Hid (v.K c W) → c ≤ v.N - 1 → 1 ≤ k → k ≤ 5 → τ < v.s.n → p < v.N →
  Calls Tryd.prog 155 #[.pointer (some ⟨v.q, 0, none⟩), fieldA p k τ (5 - (r : Int))] W (LEnd (v.F W) (fldV v.f v.N (v.st r) k τ p c))
theorem box4_all (W : World) (a b c d : Value) : (W.alloc (.cells #[a, b, c, d] 247)).cell? ⟨W.heap.size, 0, none⟩ = some a ∧ (W.alloc (.cells #[a, b, c, d] 247)).cell? ⟨W.heap.size, 1, none⟩ = some b ∧ (W.alloc (.cells #[a, b, c, d] 247)).cell? ⟨W.heap.size, 2, none⟩ = some c ∧ (W.alloc (.cells #[a, b, c, d] 247)).cell? ⟨W.heap.size, 3, none⟩ = some d := by
  have r := World.rowIs_alloc W #[a, b, c, d] 247 (fun j => if j = 0 then a else if j = 1 then b else if j = 2 then c else d) (by intro j hj; match j, hj with | 0, _ => rfl | 1, _ => rfl | 2, _ => rfl | 3, _ => rfl)
  exact ⟨r.cell (i := 0) (by simp), r.cell (i := 1) (by simp), r.cell (i := 2) (by simp), r.cell (i := 3) (by simp)⟩

set_option maxRecDepth 100000 in
set_option maxHeartbeats 1000000 in
theorem str_zero (v : VC) : StrC v 0 := by
  intro c p τ to n k W H hc hτ hto h1 h12
  have e : v.st 0 τ p to n c = (some (16, p), c) := rfl
  rw [e]
  unfold fieldA
  go_enter Tryd.func160, Tryd.ntmps160
  go_wp2_with fail
  refine (tell_any 16 p (by omega) _).mono ?_
  rintro e w' ⟨rfl, rfl⟩
  go_wp2
  exact ⟨rfl, rfl, H.out.below ((Below.refl _ _).alloc (Nat.le_refl _) _), ButP.of_below ((Below.refl _ _).alloc (Nat.le_refl _) _)⟩

theorem lenAt_in {s : Sch} {t : Nat} (ht : t < s.n) : lenAt s (t : Int) = (s.len t : Nat) := by rw [lenAt, if_pos (by unfold hasT; omega), Int.toNat_natCast]
theorem kAt_in {s : Sch} {t i : Nat} (ht : t < s.n) (hi : i < s.len t) : kAt s (t : Int) (i : Int) = s.k t i := by
  rw [kAt, if_pos ⟨by unfold hasT; omega, by omega, by rw [Int.toNat_natCast]; omega⟩, Int.toNat_natCast, Int.toNat_natCast]
theorem tAt_in {s : Sch} {t i : Nat} (ht : t < s.n) (hi : i < s.len t) : tAt s (t : Int) (i : Int) = s.t t i := by
  rw [tAt, if_pos ⟨by unfold hasT; omega, by omega, by rw [Int.toNat_natCast]; omega⟩, Int.toNat_natCast, Int.toNat_natCast]

theorem VC.below {v : VC} {W0 : World} {c : Nat} {W W' : World} (h : Hid (v.F W0 c W)) (hb : Below W.heap.size W W') : Hid (v.F W0 c W') := Lib.hid ⟨LK.below h.out.1 hb, ButP.trans h.out.2 (ButP.of_below hb)⟩
theorem VC.cell0 {v : VC} {W0 : World} {c : Nat} {W : World} (h : Hid (v.F W0 c W)) : W.cell? ⟨v.q, 0, none⟩ = some (.slice v.A v.s.n v.cs) := (LK.all h.out.1).1
theorem VC.kind {v : VC} {W0 : World} {c t i : Nat} {W : World} (ht : Hid (t < v.s.n ∧ i < v.s.len t)) (h : Hid (v.F W0 c W)) : Calls Tryd.prog 85 #[.slice v.A v.s.n v.cs, .int .i64 (t : Int), .int .i64 (i : Int)] W fun e W' => e = .returned (.int .i64 (v.s.k t i)) ∧ Hid (v.F W0 c W') := by
  refine (kind_any v.s v.A v.cs t i W (LK.sat h.out.1)).mono ?_
  rintro e w' ⟨rfl, hb⟩
  rw [kAt_in ht.out.1 ht.out.2]
  exact ⟨rfl, VC.below h hb⟩
theorem VC.type {v : VC} {W0 : World} {c t i : Nat} {W : World} (ht : Hid (t < v.s.n ∧ i < v.s.len t)) (h : Hid (v.F W0 c W)) : Calls Tryd.prog 86 #[.slice v.A v.s.n v.cs, .int .i64 (t : Int), .int .i64 (i : Int)] W fun e W' => e = .returned (.int .i64 (v.s.t t i)) ∧ Hid (v.F W0 c W') := by
  refine (type_any v.s v.A v.cs t i W (LK.sat h.out.1)).mono ?_
  rintro e w' ⟨rfl, hb⟩
  rw [tAt_in ht.out.1 ht.out.2]
  exact ⟨rfl, VC.below h hb⟩
/-- For a way that is closed at a call: what a walk goes on with is of no world. -/
theorem em_false {p : Prop} (_ : Hid False → p) (h : p) : p := h
/-- The two ways in which a field's visit ends. -/
abbrev FldOkC (v : VC) (W0 : World) (r c p _τ : Nat) (k z : Int) (c' : Nat) : Prop := ∀ (W : World) (zp : Int), zp = (p : Int) → Hid (v.F W0 c W) →
  Calls Tryd.prog 155 #[.pointer (some ⟨v.q, 0, none⟩), .agg #[.int .i64 zp, .int .i64 k, .int .i64 z, .int .i64 (5 - (r : Int))]] W fun e W' => e = .returned (.tuple #[]) ∧ Hid (v.F W0 c' W')
abbrev FldErrC (v : VC) (W0 : World) (r c p _τ : Nat) (k z : Int) (k' p' c' : Nat) : Prop := ∀ (W : World) (zp : Int), zp = (p : Int) → Hid (v.F W0 c W) →
  Calls Tryd.prog 155 #[.pointer (some ⟨v.q, 0, none⟩), .agg #[.int .i64 zp, .int .i64 k, .int .i64 z, .int .i64 (5 - (r : Int))]] W fun e W' => e = .panicked [{ v := .iface 191 (.agg #[Cs.enc [(0, (p' : Int)), ((k' : Int), 0)]]), recovered := false }] ∧ Hid (v.F W0 c' W')
theorem FldC.ok {v : VC} {W0 : World} {r : Nat} (HF : Hid (FldC v r)) {c p τ : Nat} {k z : Int} {c' : Nat} (hz : z = (τ : Int)) (hc : c ≤ v.N - 1) (h1 : 1 ≤ k) (h5 : k ≤ 5) (hτ : τ < v.s.n) (hp : p < v.N) (e : fldV v.f v.N (v.st r) k τ p c = (none, c')) : Hid (FldOkC v W0 r c p τ k z c') := Lib.hid (by
  rintro W zp rfl H
  subst hz
  refine (HF.out c p τ k W (VC.k H) hc h1 h5 hτ hp).mono ?_
  rw [e]
  rintro e w' ⟨rfl, h⟩
  exact ⟨rfl, VC.trans H h⟩)
theorem FldC.err {v : VC} {W0 : World} {r : Nat} (HF : Hid (FldC v r)) {c p τ : Nat} {k z : Int} {k' p' c' : Nat} (hz : z = (τ : Int)) (hc : c ≤ v.N - 1) (h1 : 1 ≤ k) (h5 : k ≤ 5) (hτ : τ < v.s.n) (hp : p < v.N) (e : fldV v.f v.N (v.st r) k τ p c = (some (k', p'), c')) : Hid (FldErrC v W0 r c p τ k z k' p' c') := Lib.hid (by
  rintro W zp rfl H
  subst hz
  refine (HF.out c p τ k W (VC.k H) hc h1 h5 hτ hp).mono ?_
  rw [e]
  rintro e w' ⟨rfl, h⟩
  exact ⟨rfl, VC.trans H h⟩)

set_option maxRecDepth 100000 in
set_option maxHeartbeats 2000000 in
theorem vis_of (v : VC) (hR : RightS v.s) (r : Nat) (_hr : r ≤ 4) (HF : Hid (FldC v r)) : VisC v r := by
  intro c t at_ W H hc ht hat
  have hN := v.hN
  obtain ⟨c0, c1, c2, cf, hq⟩ := LK.all H.out
  obtain ⟨n, HNN⟩ : ∃ n, Hid (v.s.len t = n) := ⟨_, Lib.hid rfl⟩
  have HT := Lib.hid ht
  have HRR := Lib.hid hR
  have hl := lenAt_in ht
  rw [HNN.out] at hl hat
  have HL := Lib.hid hl
  have HIN : Hid (∀ i c, i < n → c ≤ v.N - 1 → InB v.N 72 (fldV v.f v.N (v.st r) (v.s.k t i) (v.s.t t i).toNat (at_ + i) c)) := Lib.hid fun i c hi hc => fldV_in (by omega) _ _ _ (fun p to n c => strV_in hR v.f v.N r _ p to n c (hR.tlt ht (by rw [HNN.out]; exact hi))) hc
  clear hl ht hR
  have hn6 : n ≤ 200 := by omega
  obtain ⟨G, HG⟩ : ∃ G : Nat → Nat → VR, Hid (G = fun i c => fldV v.f v.N (v.st r) (v.s.k t i) (v.s.t t i).toNat (at_ + i) c) := ⟨_, Lib.hid rfl⟩
  have HV : Hid (visV v.s v.f v.N (v.st r) t at_ c = itV G n c) := Lib.hid (by rw [visV, HNN.out, HG.out])
  rw [HV.out]
  clear HV
  go_enter Tryd.func144, Tryd.ntmps144
  go_wp2_with fail
  refine (fields_any v.s v.A v.cs t _ H.out.sat).mono ?_
  rintro e w' ⟨rfl, rfl⟩
  rw [HL.out]
  go_wp2_with fail
  clear c0 c1 c2 cf
  go_loopw [8, 15] (fun _ iv wr => ∃ i : Nat, i ≤ n ∧ iv = .int .i64 i ∧ Hid (∃ ci, itV G i c = (none, ci) ∧ ci ≤ v.N - 1 ∧ v.F W ci wr)) (fun _ iv _ => n - (intOf iv).toNat)
  case atStart => exact ⟨0, by omega, rfl, Lib.hid ⟨c, rfl, hc, (VC.start H).out⟩⟩
  case round =>
    obtain ⟨i, hi, rfl, HI⟩ := hrel
    by_cases hi1 : i < n
    · obtain ⟨ci, hci, hcn, hK⟩ := HI.out
      have HK : Hid (v.F W ci wr) := Lib.hid hK
      have c0 := VC.cell0 HK
      have HTI : Hid (t < v.s.n ∧ i < v.s.len t) := Lib.hid ⟨HT.out, by rw [HNN.out]; exact hi1⟩
      have hf := HRR.out.field HTI.out.1 HTI.out.2
      have htl := HRR.out.tlt HTI.out.1 HTI.out.2
      have hzt : v.s.t t i = ((v.s.t t i).toNat : Int) := by omega
      have hin := HIN.out i ci hi1 hcn
      have HZP : Hid (IntKind.i64.wrap ((at_ : Int) + (i : Int)) = ((at_ + i : Nat) : Int)) := Lib.hid (by rw [IntKind.wrap_i64]; omega)
      rcases vr_cases (fldV v.f v.N (v.st r) (v.s.k t i) (v.s.t t i).toNat (at_ + i) ci) with ⟨c', hE⟩ | ⟨k', p', c', hE⟩
      · have HC := FldC.ok (W0 := W) HF hzt hcn hf.1 hf.2.1 htl (by omega) hE
        rw [hE] at hin
        have HNX : Hid (itV G (i + 1) c = (none, c') ∧ c' ≤ v.N - 1) := Lib.hid ⟨by rw [itV_succ_none hci, HG.out]; exact hE, hin.ok rfl⟩
        clear hK HI hf htl hzt hin hE hci hcn
        have HK2 := VC.below HK (Below.refl _ _).drew
        clear HK
        go_wp2_with fail
        go_region_held3 (fun w' => w'.cell? ⟨v.q, 0, none⟩ = some (.slice v.A v.s.n v.cs))
          (first | exact VC.cell0 (by assumption))
          (first
            | (go_at_call 85; (with_reducible refine (VC.kind HTI (by assumption)).mono ?_); rintro e w5 ⟨rfl, K3⟩)
            | (go_at_call 86; (with_reducible refine (VC.type HTI (by assumption)).mono ?_); rintro e w6 ⟨rfl, K4⟩)
            | (go_at_call 155; (with_reducible refine (HC.out _ _ HZP.out (by assumption)).mono ?_); rintro e w7 ⟨rfl, K5⟩)
            | fail)
        all_goals
          go_wp2
          go_roundw
          case rel => exact ⟨i + 1, by omega, by go_num, Lib.hid ⟨c', HNX.out.1, HNX.out.2, K5.out⟩⟩
          case measure => simp [intOf]; omega
      · have HC := FldC.err (W0 := W) HF hzt hcn hf.1 hf.2.1 htl (by omega) hE
        have HEN : Hid (itV G n c = (some (k', p'), c')) := Lib.hid (itV_stop hci (by rw [HG.out]; exact hE) hi1)
        clear hK HI hf htl hzt hin hE hci hcn
        have HK2 := VC.below HK (Below.refl _ _).drew
        clear HK
        go_wp2_with fail
        go_region_held2 (fun w' => w'.cell? ⟨v.q, 0, none⟩ = some (.slice v.A v.s.n v.cs))
          (first | exact VC.cell0 (by assumption) | exact False.elim (RowKit.Hid.out (p := False) (by assumption)))
          (first
            | (go_at_call 85; (with_reducible refine (VC.kind HTI (by assumption)).mono ?_); rintro e w5 ⟨rfl, K3⟩)
            | (go_at_call 86; (with_reducible refine (VC.type HTI (by assumption)).mono ?_); rintro e w6 ⟨rfl, K4⟩)
            | (go_at_call 155; refine em_false ?_ ?_; rotate_left; ((with_reducible refine (HC.out _ _ HZP.out (by assumption)).mono ?_); rintro e w7 ⟨rfl, K5⟩; refine ⟨rfl, ?_⟩; rw [HEN.out]; exact ⟨rfl, K5.out⟩); intro hF; refine Calls.mono (R := fun e _ => e = .returned (.tuple #[])) hF.out.elim ?_; rintro e w7 rfl)
            | fail)
        all_goals exact False.elim (RowKit.Hid.out (p := False) (by assumption))
    · have e : i = n := by omega
      subst e
      obtain ⟨ci, hci, hcn, hK⟩ := HI.out
      rw [hci]
      go_wp2
      exact bodyPost_end (v := .tuple #[]) (by simp [results, Tryd.results144, go_sem]) rfl ⟨rfl, hK⟩

end Go.Proofs.YtkhbhkllnigbgaaDoor

namespace Go.Proofs.YtkhbhkllnigbgaaDoor
open Go.ChangeShapes Go.WideShapes Go.ChangeAt Go.RowKit
/-- A text that is referred to. -/
noncomputable def txtV (v : VC) (p to n c : Nat) : VR := thenV (claimV v.N p to (cnt n) c) fun c => if Bt.okB (fun j => v.f (to + j)) (cnt n) ((n : Nat) : Int) then (none, c) else (some (10, p), c)
theorem WRow.part {W : World} {A : Option Addr} {L : Nat} {f : Nat → Nat} (h : WRow W A L f) {b o : Nat} (hA : A = some ⟨b, o, none⟩) {to k : Nat} (hk : to + k ≤ L) : WRow W (some ⟨b, o + to, none⟩) k (fun j => f (to + j)) :=
  ⟨fun j hj => h.lt _ (by omega), fun h0 => by
    obtain ⟨b', o', e, hb, hc⟩ := h.some_ (by omega)
    rw [hA] at e
    injection e with e
    injection e with e1 e2 e3
    subst e1 e2
    exact ⟨b, o + to, rfl, hb, fun j hj => by rw [Nat.add_assoc]; exact hc (to + j) (by omega)⟩⟩
/-- The box in which a field came in, as it is behind a call. -/
structure FB (b : Nat) (p : Nat) (k : Int) (τ : Nat) (d : Int) (W : World) : Prop where
  row : W.rowIs b 247 4 (fun j => if j = 0 then .int .i64 (p : Int) else if j = 1 then .int .i64 k else if j = 2 then .int .i64 (τ : Int) else .int .i64 d)
theorem FB.new (W : World) (p : Nat) (k : Int) (τ : Nat) (d : Int) : FB W.heap.size p k τ d (W.alloc (.cells #[.int .i64 (p : Int), .int .i64 k, .int .i64 (τ : Int), .int .i64 d] 247)) :=
  ⟨World.rowIs_alloc W #[.int .i64 (p : Int), .int .i64 k, .int .i64 (τ : Int), .int .i64 d] 247 _ (by intro j hj; match j, hj with | 0, _ => rfl | 1, _ => rfl | 2, _ => rfl | 3, _ => rfl)⟩
theorem FB.all {b p : Nat} {k : Int} {τ : Nat} {d : Int} {W : World} (h : FB b p k τ d W) : W.cell? ⟨b, 0, none⟩ = some (.int .i64 (p : Int)) ∧ W.cell? ⟨b, 1, none⟩ = some (.int .i64 k) ∧ W.cell? ⟨b, 2, none⟩ = some (.int .i64 (τ : Int)) ∧ W.cell? ⟨b, 3, none⟩ = some (.int .i64 d) ∧ b < W.heap.size :=
  ⟨h.row.cell (i := 0) (by omega), h.row.cell (i := 1) (by omega), h.row.cell (i := 2) (by omega), h.row.cell (i := 3) (by omega), h.row.lt⟩
theorem FB.keep {b p : Nat} {k : Int} {τ : Nat} {d : Int} {W W' : World} {q : Nat} (h : FB b p k τ d W) (hb : ButP (fun b => b = q) W W') (hq : b ≠ q) : FB b p k τ d W' := ⟨h.row.of_block (hb.block _ h.row.lt hq)⟩
theorem FB.below {b p : Nat} {k : Int} {τ : Nat} {d : Int} {W W' : World} (h : FB b p k τ d W) (hb : Below W.heap.size W W') : FB b p k τ d W' := ⟨h.row.of_block (hb.block _ h.row.lt)⟩

set_option maxRecDepth 100000 in
set_option maxHeartbeats 2000000 in
theorem fol_txt (v : VC) (r c p τ to n : Nat) (W : World) (H : Hid (v.K c W)) (hc : c ≤ v.N - 1) (hto : to ≤ 10000000000) (h1 : 1 ≤ n) (h40 : n ≤ 40) :
    Calls Tryd.prog 157 #[.pointer (some ⟨v.q, 0, none⟩), fieldA p 2 τ (5 - (r : Int)), .int .i64 (to : Int), .int .i64 (n : Int)] W (LEnd (v.F W) (txtV v p to n c)) := by
  have hN := v.hN
  have hcw := v.hcw
  have H0 := VC.below (VC.start H) (((Below.refl _ _).alloc (Nat.le_refl _) _) : Below W.heap.size W (W.alloc (.cells #[.int .i64 (p : Int), .int .i64 2, .int .i64 (τ : Int), .int .i64 (5 - (r : Int))] 247)))
  have HB0 := Lib.hid (FB.new W p 2 τ (5 - (r : Int)))
  have hqn : W.heap.size ≠ v.q := by have := (LK.all H.out).2.2.2.2; omega
  unfold fieldA txtV
  obtain ⟨cn, HCN⟩ : ∃ cn, Hid (cnt n = cn) := ⟨_, Lib.hid rfl⟩
  have hcn : cn ≤ 5 ∧ 1 ≤ cn := by rw [← HCN.out]; unfold cnt; omega
  rw [HCN.out]
  have hcl := Lib.hid (claim_any v.w v.q v.s v.A v.cs v.Aw v.N v.cw v.f c _ H0.out.1 (by omega) hN p to cn (by omega) (by omega))
  rcases vr_cases (claimV v.N p to cn c) with ⟨c1, hE⟩ | ⟨k', p', c1, hE⟩
  · rw [thenV_none hE]
    have hin : to + cn ≤ v.N := by
      unfold claimV at hE
      by_cases g : v.N < to + cn
      · rw [if_pos g] at hE; cases hE
      · omega
    rw [hE] at hcl
    clear hE
    obtain ⟨g, HG⟩ : ∃ g, Hid (Bt.okB (fun j => v.f (to + j)) cn ((n : Nat) : Int) = g) := ⟨_, Lib.hid rfl⟩
    rw [HG.out]
    cases g with
    | true =>
      rw [if_pos rfl]
      go_enter Tryd.func157, Tryd.ntmps157
      go_wp2_with fail
      refine (bcount_nat n (by omega) _).mono ?_
      rintro e w' ⟨rfl, rfl⟩
      rw [show (n + 7) / 8 = cn from HCN.out]
      go_wp2_with fail
      refine hcl.out.mono ?_
      rintro e w1 ⟨rfl, hF⟩
      have H1 := VC.trans H0 hF
      have HB1 := Lib.hid (HB0.out.keep hF.2 hqn)
      obtain ⟨b, o, hA, hb, -⟩ := (LK.row H1.out.1).some_ (by omega)
      have HR := Lib.hid ((LK.row H1.out.1).part hA hin)
      obtain ⟨c0, c1', c2, cf, hq⟩ := LK.all H1.out.1
      obtain ⟨b0, b1, b2, b3, -⟩ := HB1.out.all
      rw [hA] at c1'
      clear H0 HB0 hF hcl hqn
      go_wp2_with fail
      refine (Bt.text_any _ _ cn _ _ (n : Int) (by omega) (by omega) HR.out).mono ?_
      rintro e w2 ⟨rfl, hb2⟩
      have H2 := VC.below H1 hb2
      have HB2 := Lib.hid (HB1.out.below hb2)
      clear c0 c1' c2 cf b0 b1 b2 b3 hb2
      obtain ⟨b0, b1, b2, b3, -⟩ := HB2.out.all
      rw [HG.out]
      go_wp2
      exact bodyPost_end (v := .tuple #[]) (by simp [results, Tryd.results157, go_sem]) rfl ⟨rfl, H2.out⟩
    | false =>
      rw [if_neg (by decide)]
      go_enter Tryd.func157, Tryd.ntmps157
      go_wp2_with fail
      refine (bcount_nat n (by omega) _).mono ?_
      rintro e w' ⟨rfl, rfl⟩
      rw [show (n + 7) / 8 = cn from HCN.out]
      go_wp2_with fail
      refine hcl.out.mono ?_
      rintro e w1 ⟨rfl, hF⟩
      have H1 := VC.trans H0 hF
      have HB1 := Lib.hid (HB0.out.keep hF.2 hqn)
      obtain ⟨b, o, hA, hb, -⟩ := (LK.row H1.out.1).some_ (by omega)
      have HR := Lib.hid ((LK.row H1.out.1).part hA hin)
      obtain ⟨c0, c1', c2, cf, hq⟩ := LK.all H1.out.1
      obtain ⟨b0, b1, b2, b3, -⟩ := HB1.out.all
      rw [hA] at c1'
      clear H0 HB0 hF hcl hqn
      go_wp2_with fail
      refine (Bt.text_any _ _ cn _ _ (n : Int) (by omega) (by omega) HR.out).mono ?_
      rintro e w2 ⟨rfl, hb2⟩
      have H2 := VC.below H1 hb2
      have HB2 := Lib.hid (HB1.out.below hb2)
      clear c0 c1' c2 cf b0 b1 b2 b3 hb2
      obtain ⟨b0, b1, b2, b3, -⟩ := HB2.out.all
      rw [HG.out]
      go_wp2_with fail
      refine (tell_any 10 p (by omega) _).mono ?_
      rintro e w' ⟨rfl, rfl⟩
      go_wp2
      exact ⟨rfl, rfl, H2.out⟩
  · rw [thenV_some hE]
    rw [hE] at hcl
    clear hE
    go_enter Tryd.func157, Tryd.ntmps157
    go_wp2_with fail
    refine (bcount_nat n (by omega) _).mono ?_
    rintro e w' ⟨rfl, rfl⟩
    rw [show (n + 7) / 8 = cn from HCN.out]
    go_wp2_with fail
    refine hcl.out.mono ?_
    rintro e w1 ⟨rfl, hF⟩
    have H1 := VC.trans H0 hF
    go_wp2
    exact ⟨rfl, rfl, H1.out⟩

set_option maxRecDepth 100000 in
set_option maxHeartbeats 2000000 in
theorem fol_nums (v : VC) (r c p τ to n : Nat) (W : World) (H : Hid (v.K c W)) (hc : c ≤ v.N - 1) (hto : to ≤ 10000000000) (h12 : n ≤ 12) :
    Calls Tryd.prog 157 #[.pointer (some ⟨v.q, 0, none⟩), fieldA p 3 τ (5 - (r : Int)), .int .i64 (to : Int), .int .i64 (n : Int)] W (LEnd (v.F W) (claimV v.N p to n c)) := by
  have hN := v.hN
  have H0 := VC.below (VC.start H) (((Below.refl _ _).alloc (Nat.le_refl _) _) : Below W.heap.size W (W.alloc (.cells #[.int .i64 (p : Int), .int .i64 3, .int .i64 (τ : Int), .int .i64 (5 - (r : Int))] 247)))
  unfold fieldA
  have hcl := Lib.hid (claim_any v.w v.q v.s v.A v.cs v.Aw v.N v.cw v.f c _ H0.out.1 (by omega) hN p to n (by omega) (by omega))
  rcases vr_cases (claimV v.N p to n c) with ⟨c1, hE⟩ | ⟨k', p', c1, hE⟩
  · rw [hE] at hcl ⊢
    clear hE
    go_enter Tryd.func157, Tryd.ntmps157
    go_wp2_with fail
    refine hcl.out.mono ?_
    rintro e w1 ⟨rfl, hF⟩
    have H1 := VC.trans H0 hF
    go_wp2
    exact bodyPost_end (v := .tuple #[]) (by simp [results, Tryd.results157, go_sem]) rfl ⟨rfl, H1.out⟩
  · rw [hE] at hcl ⊢
    clear hE
    go_enter Tryd.func157, Tryd.ntmps157
    go_wp2_with fail
    refine hcl.out.mono ?_
    rintro e w1 ⟨rfl, hF⟩
    have H1 := VC.trans H0 hF
    go_wp2
    exact ⟨rfl, rfl, H1.out⟩

set_option maxRecDepth 100000 in
set_option maxHeartbeats 2000000 in
theorem fol_str (v : VC) (r c p τ to n : Nat) (k : Int) (hk : k = 4 ∨ k = 5) (W : World) (H : Hid (v.K c W)) (hS : Hid (StrC v r)) (hc : c ≤ v.N - 1) (hτ : τ < v.s.n) (hto : to ≤ 10000000000) (h1 : 1 ≤ n) (h12 : n ≤ 12) :
    Calls Tryd.prog 157 #[.pointer (some ⟨v.q, 0, none⟩), fieldA p k τ (5 - (r : Int)), .int .i64 (to : Int), .int .i64 (n : Int)] W (LEnd (v.F W) (v.st r τ p to n c)) := by
  have H0 := VC.below (VC.start H) (((Below.refl _ _).alloc (Nat.le_refl _) _) : Below W.heap.size W (W.alloc (.cells #[.int .i64 (p : Int), .int .i64 k, .int .i64 (τ : Int), .int .i64 (5 - (r : Int))] 247)))
  have hcl := Lib.hid (hS.out c p τ to n k _ (VC.k H0) hc hτ hto h1 h12)
  unfold fieldA at hcl ⊢
  rcases vr_cases (v.st r τ p to n c) with ⟨c1, hE⟩ | ⟨k', p', c1, hE⟩
  · rw [hE] at hcl ⊢
    clear hE hS
    rcases hk with rfl | rfl
    all_goals
      go_enter Tryd.func157, Tryd.ntmps157
      go_wp2_with fail
      refine hcl.out.mono ?_
      rintro e w1 ⟨rfl, hF⟩
      have H1 := VC.trans H0 hF
      go_wp2
      exact bodyPost_end (v := .tuple #[]) (by simp [results, Tryd.results157, go_sem]) rfl ⟨rfl, H1.out⟩
  · rw [hE] at hcl ⊢
    clear hE hS
    rcases hk with rfl | rfl
    all_goals
      go_enter Tryd.func157, Tryd.ntmps157
      go_wp2_with fail
      refine hcl.out.mono ?_
      rintro e w1 ⟨rfl, hF⟩
      have H1 := VC.trans H0 hF
      go_wp2
      exact ⟨rfl, rfl, H1.out⟩

end Go.Proofs.YtkhbhkllnigbgaaDoor

namespace Go.Proofs.YtkhbhkllnigbgaaDoor
open Go.ChangeShapes Go.WideShapes Go.ChangeAt Go.RowKit
theorem VC.word {v : VC} {W0 W : World} {c p : Nat} (h : Hid (v.F W0 c W)) (hp : p < v.N) : ∃ b o, v.Aw = some ⟨b, o, none⟩ ∧ W.cell? ⟨v.q, 1, none⟩ = some (.slice (some ⟨b, o, none⟩) v.N v.cw) ∧ W.cell? ⟨b, o + p, none⟩ = some (.int .u64 (v.f p : Nat)) ∧ v.f p < 18446744073709551616 := by
  obtain ⟨b, o, hA, hb, hc⟩ := (LK.row h.out.1).some_ (by omega)
  obtain ⟨c0, c1, -⟩ := LK.all h.out.1
  rw [hA] at c1
  exact ⟨b, o, hA, c1, hc p hp, v.row.lt p hp⟩
set_option maxRecDepth 100000 in
theorem fld_one (v : VC) (r c p τ : Nat) (W : World) (H : Hid (v.K c W)) : Calls Tryd.prog 155 #[.pointer (some ⟨v.q, 0, none⟩), fieldA p 1 τ (5 - (r : Int))] W (LEnd (v.F W) (none, c)) := by
  have H0 := VC.below (VC.start H) (((Below.refl _ _).alloc (Nat.le_refl _) _) : Below W.heap.size W (W.alloc (.cells #[.int .i64 (p : Int), .int .i64 1, .int .i64 (τ : Int), .int .i64 (5 - (r : Int))] 247)))
  unfold fieldA
  go_enter Tryd.func155, Tryd.ntmps155
  go_wp2
  exact bodyPost_end (v := .tuple #[]) (by simp [results, Tryd.results155, go_sem]) rfl ⟨rfl, H0.out⟩

set_option maxRecDepth 100000 in
set_option maxHeartbeats 1000000 in
theorem fld_2_none (v : VC) (r c p τ : Nat) (W : World) (H : Hid (v.K c W)) (hp : p < v.N) (h0 : v.f p = 0) : Calls Tryd.prog 155 #[.pointer (some ⟨v.q, 0, none⟩), fieldA p 2 τ (5 - (r : Int))] W (LEnd (v.F W) (none, c)) := by
  have H0 := VC.below (VC.start H) (((Below.refl _ _).alloc (Nat.le_refl _) _) : Below W.heap.size W (W.alloc (.cells #[.int .i64 (p : Int), .int .i64 2, .int .i64 (τ : Int), .int .i64 (5 - (r : Int))] 247)))
  have HB0 := Lib.hid (FB.new W p 2 τ (5 - (r : Int)))
  obtain ⟨b0, b1, b2, b3, -⟩ := HB0.out.all
  obtain ⟨b, o, hA, c1, cw, hw64⟩ := VC.word H0 hp
  have hNN := v.hN
  have hcw := v.hcw
  rw [h0] at cw
  unfold fieldA
  go_enter Tryd.func155, Tryd.ntmps155
  go_wp2_with fail
  generalize W.alloc (.cells #[.int .i64 (p : Int), .int .i64 2, .int .i64 (τ : Int), .int .i64 (5 - (r : Int))] 247) = V at H0 HB0 b0 b1 b2 b3 c1 cw ⊢
  generalize W.heap.size = fq at HB0 b0 b1 b2 b3 ⊢
  go_quiet (fail)
  have H2 := VC.below H0 (below_drewN (Below.refl _ V) nq)
  have HB2 := Lib.hid (HB0.out.below (below_drewN (Below.refl _ V) nq))
  clear H0 HB0 b0 b1 b2 b3 c1 cw
  obtain ⟨b0, b1, b2, b3, -⟩ := HB2.out.all
  go_wp2
  exact bodyPost_end (v := .tuple #[]) (by simp [results, Tryd.results155, go_sem]) rfl ⟨rfl, H2.out⟩
set_option maxRecDepth 100000 in
set_option maxHeartbeats 1000000 in
theorem fld_2_bad (v : VC) (r c p τ : Nat) (W : World) (H : Hid (v.K c W)) (hp : p < v.N) (h0 : ¬ v.f p = 0) (hbad : v.f p % 4294967296 = 0 ∨ v.f p / 4294967296 = 0 ∨ 40 < v.f p / 4294967296) : Calls Tryd.prog 155 #[.pointer (some ⟨v.q, 0, none⟩), fieldA p 2 τ (5 - (r : Int))] W (LEnd (v.F W) (some (10, p), c)) := by
  have H0 := VC.below (VC.start H) (((Below.refl _ _).alloc (Nat.le_refl _) _) : Below W.heap.size W (W.alloc (.cells #[.int .i64 (p : Int), .int .i64 2, .int .i64 (τ : Int), .int .i64 (5 - (r : Int))] 247)))
  have HB0 := Lib.hid (FB.new W p 2 τ (5 - (r : Int)))
  obtain ⟨b0, b1, b2, b3, -⟩ := HB0.out.all
  obtain ⟨b, o, hA, c1, cw, hw64⟩ := VC.word H0 hp
  have hNN := v.hN
  have hcw := v.hcw
  have hx0 : ((v.f p : Nat) : Int) ≠ 0 := by omega
  have d0 : (((v.f p : Nat) : Int) == 0) = false := by simpa using hx0
  have hpt := bpart_any (v.f p) hw64
  generalize v.f p = x at cw d0 hpt hbad h0 hx0
  generalize x % 4294967296 = X at hpt hbad
  generalize x / 4294967296 = Y at hpt hbad
  have HPT := Lib.hid hpt
  clear hpt
  unfold fieldA
  have hcases : X = 0 ∨ (¬ X = 0 ∧ Y = 0) ∨ (¬ X = 0 ∧ ¬ Y = 0 ∧ 40 < Y) := by omega
  rcases hcases with e | ⟨e1, e⟩ | ⟨e1, e2, e⟩
  · subst e
    go_enter Tryd.func155, Tryd.ntmps155
    go_wp2_with fail
    generalize W.alloc (.cells #[.int .i64 (p : Int), .int .i64 2, .int .i64 (τ : Int), .int .i64 (5 - (r : Int))] 247) = V at H0 HB0 b0 b1 b2 b3 c1 cw ⊢
    generalize W.heap.size = fq at HB0 b0 b1 b2 b3 ⊢
    go_quiet (fail)
    have H2 := VC.below H0 (below_drewN (Below.refl _ V) nq)
    have HB2 := Lib.hid (HB0.out.below (below_drewN (Below.refl _ V) nq))
    clear H0 HB0 b0 b1 b2 b3 c1 cw
    obtain ⟨b0, b1, b2, b3, -⟩ := HB2.out.all
    go_wp2_with fail
    refine (HPT.out _).mono ?_
    rintro e w' ⟨rfl, rfl⟩
    go_wp2_with fail
    refine (tell_any 10 p (by omega) _).mono ?_
    rintro e w' ⟨rfl, rfl⟩
    go_wp2
    exact ⟨rfl, rfl, H2.out⟩
  · subst e
    have t1 : ((X : Int) == 0) = false := by simp; omega
    go_enter Tryd.func155, Tryd.ntmps155
    go_wp2_with fail
    generalize W.alloc (.cells #[.int .i64 (p : Int), .int .i64 2, .int .i64 (τ : Int), .int .i64 (5 - (r : Int))] 247) = V at H0 HB0 b0 b1 b2 b3 c1 cw ⊢
    generalize W.heap.size = fq at HB0 b0 b1 b2 b3 ⊢
    go_quiet (fail)
    have H2 := VC.below H0 (below_drewN (Below.refl _ V) nq)
    have HB2 := Lib.hid (HB0.out.below (below_drewN (Below.refl _ V) nq))
    clear H0 HB0 b0 b1 b2 b3 c1 cw
    obtain ⟨b0, b1, b2, b3, -⟩ := HB2.out.all
    go_wp2_with fail
    refine (HPT.out _).mono ?_
    rintro e w' ⟨rfl, rfl⟩
    go_wp2_with fail
    refine (tell_any 10 p (by omega) _).mono ?_
    rintro e w' ⟨rfl, rfl⟩
    go_wp2
    exact ⟨rfl, rfl, H2.out⟩
  · have t1 : ((X : Int) == 0) = false := by simp; omega
    have t2 : ((Y : Int) == 0) = false := by simp; omega
    have t3 : decide ((40 : Int) < (Y : Int)) = true := by simp; omega
    go_enter Tryd.func155, Tryd.ntmps155
    go_wp2_with fail
    generalize W.alloc (.cells #[.int .i64 (p : Int), .int .i64 2, .int .i64 (τ : Int), .int .i64 (5 - (r : Int))] 247) = V at H0 HB0 b0 b1 b2 b3 c1 cw ⊢
    generalize W.heap.size = fq at HB0 b0 b1 b2 b3 ⊢
    go_quiet (fail)
    have H2 := VC.below H0 (below_drewN (Below.refl _ V) nq)
    have HB2 := Lib.hid (HB0.out.below (below_drewN (Below.refl _ V) nq))
    clear H0 HB0 b0 b1 b2 b3 c1 cw
    obtain ⟨b0, b1, b2, b3, -⟩ := HB2.out.all
    go_wp2_with fail
    refine (HPT.out _).mono ?_
    rintro e w' ⟨rfl, rfl⟩
    go_wp2_with fail
    refine (tell_any 10 p (by omega) _).mono ?_
    rintro e w' ⟨rfl, rfl⟩
    go_wp2
    exact ⟨rfl, rfl, H2.out⟩
set_option maxRecDepth 100000 in
set_option maxHeartbeats 1000000 in
theorem fld_2_good (v : VC) (r c p τ : Nat) (W : World) (H : Hid (v.K c W)) (hc : c ≤ v.N - 1) (hp : p < v.N) (_h0 : ¬ v.f p = 0) (hX : ¬ v.f p % 4294967296 = 0) (hY : ¬ v.f p / 4294967296 = 0) (hM : v.f p / 4294967296 ≤ 40) (R : VR)
    (hR : R = txtV v p (p + v.f p % 4294967296) (v.f p / 4294967296) c) : Calls Tryd.prog 155 #[.pointer (some ⟨v.q, 0, none⟩), fieldA p 2 τ (5 - (r : Int))] W (LEnd (v.F W) R) := by
  have H0 := VC.below (VC.start H) (((Below.refl _ _).alloc (Nat.le_refl _) _) : Below W.heap.size W (W.alloc (.cells #[.int .i64 (p : Int), .int .i64 2, .int .i64 (τ : Int), .int .i64 (5 - (r : Int))] 247)))
  have HB0 := Lib.hid (FB.new W p 2 τ (5 - (r : Int)))
  obtain ⟨b0, b1, b2, b3, -⟩ := HB0.out.all
  obtain ⟨b, o, hA, c1, cw, hw64⟩ := VC.word H0 hp
  have hNN := v.hN
  have hcw := v.hcw
  have hx0 : ((v.f p : Nat) : Int) ≠ 0 := by omega
  have d0 : (((v.f p : Nat) : Int) == 0) = false := by simpa using hx0
  have hpt := bpart_any (v.f p) hw64
  have hx1 : v.f p % 4294967296 < 4294967296 := Nat.mod_lt _ (by decide)
  have hfo : ∀ V, Hid (v.F W c V) → Calls Tryd.prog 157 #[.pointer (some ⟨v.q, 0, none⟩), fieldA p 2 τ (5 - (r : Int)), .int .i64 ((p + v.f p % 4294967296 : Nat) : Int), .int .i64 ((v.f p / 4294967296 : Nat) : Int)] V (LEnd (v.F V) R) := fun V hV => by
    rw [hR]
    exact fol_txt v r c p τ (p + v.f p % 4294967296) (v.f p / 4294967296) _ (VC.k hV) hc (by omega) (by omega) (by omega)
  generalize v.f p = x at cw d0 hpt hX hY hM _h0 hx0 hfo hx1 hR
  generalize x % 4294967296 = X at hpt hX hfo hx1 hR
  generalize x / 4294967296 = Y at hpt hY hM hfo hR
  have HPT := Lib.hid hpt
  have HFO := Lib.hid hfo
  have hsum : ((p : Int) + (X : Int)) = ((p + X : Nat) : Int) := by omega
  have HSUM := Lib.hid hsum
  clear hpt hfo hsum
  unfold fieldA at HFO ⊢
  have t1 : ((X : Int) == 0) = false := by simp; omega
  have t2 : ((Y : Int) == 0) = false := by simp; omega
  have t3 : decide ((40 : Int) < (Y : Int)) = false := by simp; omega
  rcases vr_cases R with ⟨c1', hE⟩ | ⟨k', p', c1', hE⟩
  · rw [hE] at HFO ⊢
    clear hE hR
    go_enter Tryd.func155, Tryd.ntmps155
    go_wp2_with fail
    generalize W.alloc (.cells #[.int .i64 (p : Int), .int .i64 2, .int .i64 (τ : Int), .int .i64 (5 - (r : Int))] 247) = V at H0 HB0 b0 b1 b2 b3 c1 cw ⊢
    generalize W.heap.size = fq at HB0 b0 b1 b2 b3 ⊢
    go_quiet (fail)
    have H2 := VC.below H0 (below_drewN (Below.refl _ V) nq)
    have HB2 := Lib.hid (HB0.out.below (below_drewN (Below.refl _ V) nq))
    clear H0 HB0 b0 b1 b2 b3 c1 cw
    obtain ⟨b0, b1, b2, b3, -⟩ := HB2.out.all
    go_wp2_with fail
    refine (HPT.out _).mono ?_
    rintro e w' ⟨rfl, rfl⟩
    go_wp2_with fail
    try rw [HSUM.out]
    refine (HFO.out _ H2).mono ?_
    rintro e w1 ⟨rfl, hF⟩
    have H1 := VC.trans H2 hF
    go_wp2
    exact bodyPost_end (v := .tuple #[]) (by simp [results, Tryd.results155, go_sem]) rfl ⟨rfl, H1.out⟩
  · rw [hE] at HFO ⊢
    clear hE hR
    go_enter Tryd.func155, Tryd.ntmps155
    go_wp2_with fail
    generalize W.alloc (.cells #[.int .i64 (p : Int), .int .i64 2, .int .i64 (τ : Int), .int .i64 (5 - (r : Int))] 247) = V at H0 HB0 b0 b1 b2 b3 c1 cw ⊢
    generalize W.heap.size = fq at HB0 b0 b1 b2 b3 ⊢
    go_quiet (fail)
    have H2 := VC.below H0 (below_drewN (Below.refl _ V) nq)
    have HB2 := Lib.hid (HB0.out.below (below_drewN (Below.refl _ V) nq))
    clear H0 HB0 b0 b1 b2 b3 c1 cw
    obtain ⟨b0, b1, b2, b3, -⟩ := HB2.out.all
    go_wp2_with fail
    refine (HPT.out _).mono ?_
    rintro e w' ⟨rfl, rfl⟩
    go_wp2_with fail
    try rw [HSUM.out]
    refine (HFO.out _ H2).mono ?_
    rintro e w1 ⟨rfl, hF⟩
    have H1 := VC.trans H2 hF
    go_wp2
    exact ⟨rfl, rfl, H1.out⟩

set_option maxRecDepth 100000 in
set_option maxHeartbeats 1000000 in
theorem fld_3_none (v : VC) (r c p τ : Nat) (W : World) (H : Hid (v.K c W)) (hp : p < v.N) (h0 : v.f p = 0) : Calls Tryd.prog 155 #[.pointer (some ⟨v.q, 0, none⟩), fieldA p 3 τ (5 - (r : Int))] W (LEnd (v.F W) (none, c)) := by
  have H0 := VC.below (VC.start H) (((Below.refl _ _).alloc (Nat.le_refl _) _) : Below W.heap.size W (W.alloc (.cells #[.int .i64 (p : Int), .int .i64 3, .int .i64 (τ : Int), .int .i64 (5 - (r : Int))] 247)))
  have HB0 := Lib.hid (FB.new W p 3 τ (5 - (r : Int)))
  obtain ⟨b0, b1, b2, b3, -⟩ := HB0.out.all
  obtain ⟨b, o, hA, c1, cw, hw64⟩ := VC.word H0 hp
  have hNN := v.hN
  have hcw := v.hcw
  rw [h0] at cw
  unfold fieldA
  go_enter Tryd.func155, Tryd.ntmps155
  go_wp2_with fail
  generalize W.alloc (.cells #[.int .i64 (p : Int), .int .i64 3, .int .i64 (τ : Int), .int .i64 (5 - (r : Int))] 247) = V at H0 HB0 b0 b1 b2 b3 c1 cw ⊢
  generalize W.heap.size = fq at HB0 b0 b1 b2 b3 ⊢
  go_quiet (fail)
  have H2 := VC.below H0 (below_drewN (Below.refl _ V) nq)
  have HB2 := Lib.hid (HB0.out.below (below_drewN (Below.refl _ V) nq))
  clear H0 HB0 b0 b1 b2 b3 c1 cw
  obtain ⟨b0, b1, b2, b3, -⟩ := HB2.out.all
  go_wp2
  exact bodyPost_end (v := .tuple #[]) (by simp [results, Tryd.results155, go_sem]) rfl ⟨rfl, H2.out⟩
set_option maxRecDepth 100000 in
set_option maxHeartbeats 1000000 in
theorem fld_3_bad (v : VC) (r c p τ : Nat) (W : World) (H : Hid (v.K c W)) (hp : p < v.N) (h0 : ¬ v.f p = 0) (hbad : v.f p % 4294967296 = 0 ∨ v.f p / 4294967296 = 0 ∨ 12 < v.f p / 4294967296) : Calls Tryd.prog 155 #[.pointer (some ⟨v.q, 0, none⟩), fieldA p 3 τ (5 - (r : Int))] W (LEnd (v.F W) (some (10, p), c)) := by
  have H0 := VC.below (VC.start H) (((Below.refl _ _).alloc (Nat.le_refl _) _) : Below W.heap.size W (W.alloc (.cells #[.int .i64 (p : Int), .int .i64 3, .int .i64 (τ : Int), .int .i64 (5 - (r : Int))] 247)))
  have HB0 := Lib.hid (FB.new W p 3 τ (5 - (r : Int)))
  obtain ⟨b0, b1, b2, b3, -⟩ := HB0.out.all
  obtain ⟨b, o, hA, c1, cw, hw64⟩ := VC.word H0 hp
  have hNN := v.hN
  have hcw := v.hcw
  have hx0 : ((v.f p : Nat) : Int) ≠ 0 := by omega
  have d0 : (((v.f p : Nat) : Int) == 0) = false := by simpa using hx0
  have hpt := bpart_any (v.f p) hw64
  generalize v.f p = x at cw d0 hpt hbad h0 hx0
  generalize x % 4294967296 = X at hpt hbad
  generalize x / 4294967296 = Y at hpt hbad
  have HPT := Lib.hid hpt
  clear hpt
  unfold fieldA
  have hcases : X = 0 ∨ (¬ X = 0 ∧ Y = 0) ∨ (¬ X = 0 ∧ ¬ Y = 0 ∧ 12 < Y) := by omega
  rcases hcases with e | ⟨e1, e⟩ | ⟨e1, e2, e⟩
  · subst e
    go_enter Tryd.func155, Tryd.ntmps155
    go_wp2_with fail
    generalize W.alloc (.cells #[.int .i64 (p : Int), .int .i64 3, .int .i64 (τ : Int), .int .i64 (5 - (r : Int))] 247) = V at H0 HB0 b0 b1 b2 b3 c1 cw ⊢
    generalize W.heap.size = fq at HB0 b0 b1 b2 b3 ⊢
    go_quiet (fail)
    have H2 := VC.below H0 (below_drewN (Below.refl _ V) nq)
    have HB2 := Lib.hid (HB0.out.below (below_drewN (Below.refl _ V) nq))
    clear H0 HB0 b0 b1 b2 b3 c1 cw
    obtain ⟨b0, b1, b2, b3, -⟩ := HB2.out.all
    go_wp2_with fail
    refine (HPT.out _).mono ?_
    rintro e w' ⟨rfl, rfl⟩
    go_wp2_with fail
    refine (tell_any 10 p (by omega) _).mono ?_
    rintro e w' ⟨rfl, rfl⟩
    go_wp2
    exact ⟨rfl, rfl, H2.out⟩
  · subst e
    have t1 : ((X : Int) == 0) = false := by simp; omega
    go_enter Tryd.func155, Tryd.ntmps155
    go_wp2_with fail
    generalize W.alloc (.cells #[.int .i64 (p : Int), .int .i64 3, .int .i64 (τ : Int), .int .i64 (5 - (r : Int))] 247) = V at H0 HB0 b0 b1 b2 b3 c1 cw ⊢
    generalize W.heap.size = fq at HB0 b0 b1 b2 b3 ⊢
    go_quiet (fail)
    have H2 := VC.below H0 (below_drewN (Below.refl _ V) nq)
    have HB2 := Lib.hid (HB0.out.below (below_drewN (Below.refl _ V) nq))
    clear H0 HB0 b0 b1 b2 b3 c1 cw
    obtain ⟨b0, b1, b2, b3, -⟩ := HB2.out.all
    go_wp2_with fail
    refine (HPT.out _).mono ?_
    rintro e w' ⟨rfl, rfl⟩
    go_wp2_with fail
    refine (tell_any 10 p (by omega) _).mono ?_
    rintro e w' ⟨rfl, rfl⟩
    go_wp2
    exact ⟨rfl, rfl, H2.out⟩
  · have t1 : ((X : Int) == 0) = false := by simp; omega
    have t2 : ((Y : Int) == 0) = false := by simp; omega
    have t3 : decide ((12 : Int) < (Y : Int)) = true := by simp; omega
    go_enter Tryd.func155, Tryd.ntmps155
    go_wp2_with fail
    generalize W.alloc (.cells #[.int .i64 (p : Int), .int .i64 3, .int .i64 (τ : Int), .int .i64 (5 - (r : Int))] 247) = V at H0 HB0 b0 b1 b2 b3 c1 cw ⊢
    generalize W.heap.size = fq at HB0 b0 b1 b2 b3 ⊢
    go_quiet (fail)
    have H2 := VC.below H0 (below_drewN (Below.refl _ V) nq)
    have HB2 := Lib.hid (HB0.out.below (below_drewN (Below.refl _ V) nq))
    clear H0 HB0 b0 b1 b2 b3 c1 cw
    obtain ⟨b0, b1, b2, b3, -⟩ := HB2.out.all
    go_wp2_with fail
    refine (HPT.out _).mono ?_
    rintro e w' ⟨rfl, rfl⟩
    go_wp2_with fail
    refine (tell_any 10 p (by omega) _).mono ?_
    rintro e w' ⟨rfl, rfl⟩
    go_wp2
    exact ⟨rfl, rfl, H2.out⟩
set_option maxRecDepth 100000 in
set_option maxHeartbeats 1000000 in
theorem fld_3_good (v : VC) (r c p τ : Nat) (W : World) (H : Hid (v.K c W)) (hc : c ≤ v.N - 1) (hp : p < v.N) (_h0 : ¬ v.f p = 0) (hX : ¬ v.f p % 4294967296 = 0) (hY : ¬ v.f p / 4294967296 = 0) (hM : v.f p / 4294967296 ≤ 12) (R : VR)
    (hR : R = claimV v.N p (p + v.f p % 4294967296) (v.f p / 4294967296) c) : Calls Tryd.prog 155 #[.pointer (some ⟨v.q, 0, none⟩), fieldA p 3 τ (5 - (r : Int))] W (LEnd (v.F W) R) := by
  have H0 := VC.below (VC.start H) (((Below.refl _ _).alloc (Nat.le_refl _) _) : Below W.heap.size W (W.alloc (.cells #[.int .i64 (p : Int), .int .i64 3, .int .i64 (τ : Int), .int .i64 (5 - (r : Int))] 247)))
  have HB0 := Lib.hid (FB.new W p 3 τ (5 - (r : Int)))
  obtain ⟨b0, b1, b2, b3, -⟩ := HB0.out.all
  obtain ⟨b, o, hA, c1, cw, hw64⟩ := VC.word H0 hp
  have hNN := v.hN
  have hcw := v.hcw
  have hx0 : ((v.f p : Nat) : Int) ≠ 0 := by omega
  have d0 : (((v.f p : Nat) : Int) == 0) = false := by simpa using hx0
  have hpt := bpart_any (v.f p) hw64
  have hx1 : v.f p % 4294967296 < 4294967296 := Nat.mod_lt _ (by decide)
  have hfo : ∀ V, Hid (v.F W c V) → Calls Tryd.prog 157 #[.pointer (some ⟨v.q, 0, none⟩), fieldA p 3 τ (5 - (r : Int)), .int .i64 ((p + v.f p % 4294967296 : Nat) : Int), .int .i64 ((v.f p / 4294967296 : Nat) : Int)] V (LEnd (v.F V) R) := fun V hV => by
    rw [hR]
    exact fol_nums v r c p τ (p + v.f p % 4294967296) (v.f p / 4294967296) _ (VC.k hV) hc (by omega) (by omega)
  generalize v.f p = x at cw d0 hpt hX hY hM _h0 hx0 hfo hx1 hR
  generalize x % 4294967296 = X at hpt hX hfo hx1 hR
  generalize x / 4294967296 = Y at hpt hY hM hfo hR
  have HPT := Lib.hid hpt
  have HFO := Lib.hid hfo
  have hsum : ((p : Int) + (X : Int)) = ((p + X : Nat) : Int) := by omega
  have HSUM := Lib.hid hsum
  clear hpt hfo hsum
  unfold fieldA at HFO ⊢
  have t1 : ((X : Int) == 0) = false := by simp; omega
  have t2 : ((Y : Int) == 0) = false := by simp; omega
  have t3 : decide ((12 : Int) < (Y : Int)) = false := by simp; omega
  rcases vr_cases R with ⟨c1', hE⟩ | ⟨k', p', c1', hE⟩
  · rw [hE] at HFO ⊢
    clear hE hR
    go_enter Tryd.func155, Tryd.ntmps155
    go_wp2_with fail
    generalize W.alloc (.cells #[.int .i64 (p : Int), .int .i64 3, .int .i64 (τ : Int), .int .i64 (5 - (r : Int))] 247) = V at H0 HB0 b0 b1 b2 b3 c1 cw ⊢
    generalize W.heap.size = fq at HB0 b0 b1 b2 b3 ⊢
    go_quiet (fail)
    have H2 := VC.below H0 (below_drewN (Below.refl _ V) nq)
    have HB2 := Lib.hid (HB0.out.below (below_drewN (Below.refl _ V) nq))
    clear H0 HB0 b0 b1 b2 b3 c1 cw
    obtain ⟨b0, b1, b2, b3, -⟩ := HB2.out.all
    go_wp2_with fail
    refine (HPT.out _).mono ?_
    rintro e w' ⟨rfl, rfl⟩
    go_wp2_with fail
    try rw [HSUM.out]
    refine (HFO.out _ H2).mono ?_
    rintro e w1 ⟨rfl, hF⟩
    have H1 := VC.trans H2 hF
    go_wp2
    exact bodyPost_end (v := .tuple #[]) (by simp [results, Tryd.results155, go_sem]) rfl ⟨rfl, H1.out⟩
  · rw [hE] at HFO ⊢
    clear hE hR
    go_enter Tryd.func155, Tryd.ntmps155
    go_wp2_with fail
    generalize W.alloc (.cells #[.int .i64 (p : Int), .int .i64 3, .int .i64 (τ : Int), .int .i64 (5 - (r : Int))] 247) = V at H0 HB0 b0 b1 b2 b3 c1 cw ⊢
    generalize W.heap.size = fq at HB0 b0 b1 b2 b3 ⊢
    go_quiet (fail)
    have H2 := VC.below H0 (below_drewN (Below.refl _ V) nq)
    have HB2 := Lib.hid (HB0.out.below (below_drewN (Below.refl _ V) nq))
    clear H0 HB0 b0 b1 b2 b3 c1 cw
    obtain ⟨b0, b1, b2, b3, -⟩ := HB2.out.all
    go_wp2_with fail
    refine (HPT.out _).mono ?_
    rintro e w' ⟨rfl, rfl⟩
    go_wp2_with fail
    try rw [HSUM.out]
    refine (HFO.out _ H2).mono ?_
    rintro e w1 ⟨rfl, hF⟩
    have H1 := VC.trans H2 hF
    go_wp2
    exact ⟨rfl, rfl, H1.out⟩

set_option maxRecDepth 100000 in
set_option maxHeartbeats 1000000 in
theorem fld_4_none (v : VC) (r c p τ : Nat) (W : World) (H : Hid (v.K c W)) (hp : p < v.N) (h0 : v.f p = 0) : Calls Tryd.prog 155 #[.pointer (some ⟨v.q, 0, none⟩), fieldA p 4 τ (5 - (r : Int))] W (LEnd (v.F W) (none, c)) := by
  have H0 := VC.below (VC.start H) (((Below.refl _ _).alloc (Nat.le_refl _) _) : Below W.heap.size W (W.alloc (.cells #[.int .i64 (p : Int), .int .i64 4, .int .i64 (τ : Int), .int .i64 (5 - (r : Int))] 247)))
  have HB0 := Lib.hid (FB.new W p 4 τ (5 - (r : Int)))
  obtain ⟨b0, b1, b2, b3, -⟩ := HB0.out.all
  obtain ⟨b, o, hA, c1, cw, hw64⟩ := VC.word H0 hp
  have hNN := v.hN
  have hcw := v.hcw
  rw [h0] at cw
  unfold fieldA
  go_enter Tryd.func155, Tryd.ntmps155
  go_wp2_with fail
  generalize W.alloc (.cells #[.int .i64 (p : Int), .int .i64 4, .int .i64 (τ : Int), .int .i64 (5 - (r : Int))] 247) = V at H0 HB0 b0 b1 b2 b3 c1 cw ⊢
  generalize W.heap.size = fq at HB0 b0 b1 b2 b3 ⊢
  go_quiet (fail)
  have H2 := VC.below H0 (below_drewN (Below.refl _ V) nq)
  have HB2 := Lib.hid (HB0.out.below (below_drewN (Below.refl _ V) nq))
  clear H0 HB0 b0 b1 b2 b3 c1 cw
  obtain ⟨b0, b1, b2, b3, -⟩ := HB2.out.all
  go_wp2
  exact bodyPost_end (v := .tuple #[]) (by simp [results, Tryd.results155, go_sem]) rfl ⟨rfl, H2.out⟩
set_option maxRecDepth 100000 in
set_option maxHeartbeats 1000000 in
theorem fld_4_bad (v : VC) (r c p τ : Nat) (W : World) (H : Hid (v.K c W)) (hp : p < v.N) (h0 : ¬ v.f p = 0) (hbad : v.f p % 4294967296 = 0 ∨ v.f p / 4294967296 = 0 ∨ 1 < v.f p / 4294967296) : Calls Tryd.prog 155 #[.pointer (some ⟨v.q, 0, none⟩), fieldA p 4 τ (5 - (r : Int))] W (LEnd (v.F W) (some (10, p), c)) := by
  have H0 := VC.below (VC.start H) (((Below.refl _ _).alloc (Nat.le_refl _) _) : Below W.heap.size W (W.alloc (.cells #[.int .i64 (p : Int), .int .i64 4, .int .i64 (τ : Int), .int .i64 (5 - (r : Int))] 247)))
  have HB0 := Lib.hid (FB.new W p 4 τ (5 - (r : Int)))
  obtain ⟨b0, b1, b2, b3, -⟩ := HB0.out.all
  obtain ⟨b, o, hA, c1, cw, hw64⟩ := VC.word H0 hp
  have hNN := v.hN
  have hcw := v.hcw
  have hx0 : ((v.f p : Nat) : Int) ≠ 0 := by omega
  have d0 : (((v.f p : Nat) : Int) == 0) = false := by simpa using hx0
  have hpt := bpart_any (v.f p) hw64
  generalize v.f p = x at cw d0 hpt hbad h0 hx0
  generalize x % 4294967296 = X at hpt hbad
  generalize x / 4294967296 = Y at hpt hbad
  have HPT := Lib.hid hpt
  clear hpt
  unfold fieldA
  have hcases : X = 0 ∨ (¬ X = 0 ∧ Y = 0) ∨ (¬ X = 0 ∧ ¬ Y = 0 ∧ 1 < Y) := by omega
  rcases hcases with e | ⟨e1, e⟩ | ⟨e1, e2, e⟩
  · subst e
    go_enter Tryd.func155, Tryd.ntmps155
    go_wp2_with fail
    generalize W.alloc (.cells #[.int .i64 (p : Int), .int .i64 4, .int .i64 (τ : Int), .int .i64 (5 - (r : Int))] 247) = V at H0 HB0 b0 b1 b2 b3 c1 cw ⊢
    generalize W.heap.size = fq at HB0 b0 b1 b2 b3 ⊢
    go_quiet (fail)
    have H2 := VC.below H0 (below_drewN (Below.refl _ V) nq)
    have HB2 := Lib.hid (HB0.out.below (below_drewN (Below.refl _ V) nq))
    clear H0 HB0 b0 b1 b2 b3 c1 cw
    obtain ⟨b0, b1, b2, b3, -⟩ := HB2.out.all
    go_wp2_with fail
    refine (HPT.out _).mono ?_
    rintro e w' ⟨rfl, rfl⟩
    go_wp2_with fail
    refine (tell_any 10 p (by omega) _).mono ?_
    rintro e w' ⟨rfl, rfl⟩
    go_wp2
    exact ⟨rfl, rfl, H2.out⟩
  · subst e
    have t1 : ((X : Int) == 0) = false := by simp; omega
    go_enter Tryd.func155, Tryd.ntmps155
    go_wp2_with fail
    generalize W.alloc (.cells #[.int .i64 (p : Int), .int .i64 4, .int .i64 (τ : Int), .int .i64 (5 - (r : Int))] 247) = V at H0 HB0 b0 b1 b2 b3 c1 cw ⊢
    generalize W.heap.size = fq at HB0 b0 b1 b2 b3 ⊢
    go_quiet (fail)
    have H2 := VC.below H0 (below_drewN (Below.refl _ V) nq)
    have HB2 := Lib.hid (HB0.out.below (below_drewN (Below.refl _ V) nq))
    clear H0 HB0 b0 b1 b2 b3 c1 cw
    obtain ⟨b0, b1, b2, b3, -⟩ := HB2.out.all
    go_wp2_with fail
    refine (HPT.out _).mono ?_
    rintro e w' ⟨rfl, rfl⟩
    go_wp2_with fail
    refine (tell_any 10 p (by omega) _).mono ?_
    rintro e w' ⟨rfl, rfl⟩
    go_wp2
    exact ⟨rfl, rfl, H2.out⟩
  · have t1 : ((X : Int) == 0) = false := by simp; omega
    have t2 : ((Y : Int) == 0) = false := by simp; omega
    have t3 : decide ((1 : Int) < (Y : Int)) = true := by simp; omega
    go_enter Tryd.func155, Tryd.ntmps155
    go_wp2_with fail
    generalize W.alloc (.cells #[.int .i64 (p : Int), .int .i64 4, .int .i64 (τ : Int), .int .i64 (5 - (r : Int))] 247) = V at H0 HB0 b0 b1 b2 b3 c1 cw ⊢
    generalize W.heap.size = fq at HB0 b0 b1 b2 b3 ⊢
    go_quiet (fail)
    have H2 := VC.below H0 (below_drewN (Below.refl _ V) nq)
    have HB2 := Lib.hid (HB0.out.below (below_drewN (Below.refl _ V) nq))
    clear H0 HB0 b0 b1 b2 b3 c1 cw
    obtain ⟨b0, b1, b2, b3, -⟩ := HB2.out.all
    go_wp2_with fail
    refine (HPT.out _).mono ?_
    rintro e w' ⟨rfl, rfl⟩
    go_wp2_with fail
    refine (tell_any 10 p (by omega) _).mono ?_
    rintro e w' ⟨rfl, rfl⟩
    go_wp2
    exact ⟨rfl, rfl, H2.out⟩
set_option maxRecDepth 100000 in
set_option maxHeartbeats 1000000 in
theorem fld_4_good (v : VC) (r c p τ : Nat) (W : World) (H : Hid (v.K c W)) (hc : c ≤ v.N - 1) (hp : p < v.N) (hS : Hid (StrC v r)) (hτ : τ < v.s.n) (_h0 : ¬ v.f p = 0) (hX : ¬ v.f p % 4294967296 = 0) (hY : ¬ v.f p / 4294967296 = 0) (hM : v.f p / 4294967296 ≤ 1) (R : VR)
    (hR : R = v.st r τ p (p + v.f p % 4294967296) (v.f p / 4294967296) c) : Calls Tryd.prog 155 #[.pointer (some ⟨v.q, 0, none⟩), fieldA p 4 τ (5 - (r : Int))] W (LEnd (v.F W) R) := by
  have H0 := VC.below (VC.start H) (((Below.refl _ _).alloc (Nat.le_refl _) _) : Below W.heap.size W (W.alloc (.cells #[.int .i64 (p : Int), .int .i64 4, .int .i64 (τ : Int), .int .i64 (5 - (r : Int))] 247)))
  have HB0 := Lib.hid (FB.new W p 4 τ (5 - (r : Int)))
  obtain ⟨b0, b1, b2, b3, -⟩ := HB0.out.all
  obtain ⟨b, o, hA, c1, cw, hw64⟩ := VC.word H0 hp
  have hNN := v.hN
  have hcw := v.hcw
  have hx0 : ((v.f p : Nat) : Int) ≠ 0 := by omega
  have d0 : (((v.f p : Nat) : Int) == 0) = false := by simpa using hx0
  have hpt := bpart_any (v.f p) hw64
  have hx1 : v.f p % 4294967296 < 4294967296 := Nat.mod_lt _ (by decide)
  have hfo : ∀ V, Hid (v.F W c V) → Calls Tryd.prog 157 #[.pointer (some ⟨v.q, 0, none⟩), fieldA p 4 τ (5 - (r : Int)), .int .i64 ((p + v.f p % 4294967296 : Nat) : Int), .int .i64 ((v.f p / 4294967296 : Nat) : Int)] V (LEnd (v.F V) R) := fun V hV => by
    rw [hR]
    exact fol_str v r c p τ (p + v.f p % 4294967296) (v.f p / 4294967296) 4 (by omega) _ (VC.k hV) hS hc hτ (by omega) (by omega) (by omega)
  generalize v.f p = x at cw d0 hpt hX hY hM _h0 hx0 hfo hx1 hR
  generalize x % 4294967296 = X at hpt hX hfo hx1 hR
  generalize x / 4294967296 = Y at hpt hY hM hfo hR
  have HPT := Lib.hid hpt
  have HFO := Lib.hid hfo
  have hsum : ((p : Int) + (X : Int)) = ((p + X : Nat) : Int) := by omega
  have HSUM := Lib.hid hsum
  clear hpt hfo hsum
  unfold fieldA at HFO ⊢
  have t1 : ((X : Int) == 0) = false := by simp; omega
  have t2 : ((Y : Int) == 0) = false := by simp; omega
  have t3 : decide ((1 : Int) < (Y : Int)) = false := by simp; omega
  rcases vr_cases R with ⟨c1', hE⟩ | ⟨k', p', c1', hE⟩
  · rw [hE] at HFO ⊢
    clear hE hR
    go_enter Tryd.func155, Tryd.ntmps155
    go_wp2_with fail
    generalize W.alloc (.cells #[.int .i64 (p : Int), .int .i64 4, .int .i64 (τ : Int), .int .i64 (5 - (r : Int))] 247) = V at H0 HB0 b0 b1 b2 b3 c1 cw ⊢
    generalize W.heap.size = fq at HB0 b0 b1 b2 b3 ⊢
    go_quiet (fail)
    have H2 := VC.below H0 (below_drewN (Below.refl _ V) nq)
    have HB2 := Lib.hid (HB0.out.below (below_drewN (Below.refl _ V) nq))
    clear H0 HB0 b0 b1 b2 b3 c1 cw
    obtain ⟨b0, b1, b2, b3, -⟩ := HB2.out.all
    go_wp2_with fail
    refine (HPT.out _).mono ?_
    rintro e w' ⟨rfl, rfl⟩
    go_wp2_with fail
    try rw [HSUM.out]
    refine (HFO.out _ H2).mono ?_
    rintro e w1 ⟨rfl, hF⟩
    have H1 := VC.trans H2 hF
    go_wp2
    exact bodyPost_end (v := .tuple #[]) (by simp [results, Tryd.results155, go_sem]) rfl ⟨rfl, H1.out⟩
  · rw [hE] at HFO ⊢
    clear hE hR
    go_enter Tryd.func155, Tryd.ntmps155
    go_wp2_with fail
    generalize W.alloc (.cells #[.int .i64 (p : Int), .int .i64 4, .int .i64 (τ : Int), .int .i64 (5 - (r : Int))] 247) = V at H0 HB0 b0 b1 b2 b3 c1 cw ⊢
    generalize W.heap.size = fq at HB0 b0 b1 b2 b3 ⊢
    go_quiet (fail)
    have H2 := VC.below H0 (below_drewN (Below.refl _ V) nq)
    have HB2 := Lib.hid (HB0.out.below (below_drewN (Below.refl _ V) nq))
    clear H0 HB0 b0 b1 b2 b3 c1 cw
    obtain ⟨b0, b1, b2, b3, -⟩ := HB2.out.all
    go_wp2_with fail
    refine (HPT.out _).mono ?_
    rintro e w' ⟨rfl, rfl⟩
    go_wp2_with fail
    try rw [HSUM.out]
    refine (HFO.out _ H2).mono ?_
    rintro e w1 ⟨rfl, hF⟩
    have H1 := VC.trans H2 hF
    go_wp2
    exact ⟨rfl, rfl, H1.out⟩

set_option maxRecDepth 100000 in
set_option maxHeartbeats 1000000 in
theorem fld_5_none (v : VC) (r c p τ : Nat) (W : World) (H : Hid (v.K c W)) (hp : p < v.N) (h0 : v.f p = 0) : Calls Tryd.prog 155 #[.pointer (some ⟨v.q, 0, none⟩), fieldA p 5 τ (5 - (r : Int))] W (LEnd (v.F W) (none, c)) := by
  have H0 := VC.below (VC.start H) (((Below.refl _ _).alloc (Nat.le_refl _) _) : Below W.heap.size W (W.alloc (.cells #[.int .i64 (p : Int), .int .i64 5, .int .i64 (τ : Int), .int .i64 (5 - (r : Int))] 247)))
  have HB0 := Lib.hid (FB.new W p 5 τ (5 - (r : Int)))
  obtain ⟨b0, b1, b2, b3, -⟩ := HB0.out.all
  obtain ⟨b, o, hA, c1, cw, hw64⟩ := VC.word H0 hp
  have hNN := v.hN
  have hcw := v.hcw
  rw [h0] at cw
  unfold fieldA
  go_enter Tryd.func155, Tryd.ntmps155
  go_wp2_with fail
  generalize W.alloc (.cells #[.int .i64 (p : Int), .int .i64 5, .int .i64 (τ : Int), .int .i64 (5 - (r : Int))] 247) = V at H0 HB0 b0 b1 b2 b3 c1 cw ⊢
  generalize W.heap.size = fq at HB0 b0 b1 b2 b3 ⊢
  go_quiet (fail)
  have H2 := VC.below H0 (below_drewN (Below.refl _ V) nq)
  have HB2 := Lib.hid (HB0.out.below (below_drewN (Below.refl _ V) nq))
  clear H0 HB0 b0 b1 b2 b3 c1 cw
  obtain ⟨b0, b1, b2, b3, -⟩ := HB2.out.all
  go_wp2
  exact bodyPost_end (v := .tuple #[]) (by simp [results, Tryd.results155, go_sem]) rfl ⟨rfl, H2.out⟩
set_option maxRecDepth 100000 in
set_option maxHeartbeats 1000000 in
theorem fld_5_bad (v : VC) (r c p τ : Nat) (W : World) (H : Hid (v.K c W)) (hp : p < v.N) (h0 : ¬ v.f p = 0) (hbad : v.f p % 4294967296 = 0 ∨ v.f p / 4294967296 = 0 ∨ 12 < v.f p / 4294967296) : Calls Tryd.prog 155 #[.pointer (some ⟨v.q, 0, none⟩), fieldA p 5 τ (5 - (r : Int))] W (LEnd (v.F W) (some (10, p), c)) := by
  have H0 := VC.below (VC.start H) (((Below.refl _ _).alloc (Nat.le_refl _) _) : Below W.heap.size W (W.alloc (.cells #[.int .i64 (p : Int), .int .i64 5, .int .i64 (τ : Int), .int .i64 (5 - (r : Int))] 247)))
  have HB0 := Lib.hid (FB.new W p 5 τ (5 - (r : Int)))
  obtain ⟨b0, b1, b2, b3, -⟩ := HB0.out.all
  obtain ⟨b, o, hA, c1, cw, hw64⟩ := VC.word H0 hp
  have hNN := v.hN
  have hcw := v.hcw
  have hx0 : ((v.f p : Nat) : Int) ≠ 0 := by omega
  have d0 : (((v.f p : Nat) : Int) == 0) = false := by simpa using hx0
  have hpt := bpart_any (v.f p) hw64
  generalize v.f p = x at cw d0 hpt hbad h0 hx0
  generalize x % 4294967296 = X at hpt hbad
  generalize x / 4294967296 = Y at hpt hbad
  have HPT := Lib.hid hpt
  clear hpt
  unfold fieldA
  have hcases : X = 0 ∨ (¬ X = 0 ∧ Y = 0) ∨ (¬ X = 0 ∧ ¬ Y = 0 ∧ 12 < Y) := by omega
  rcases hcases with e | ⟨e1, e⟩ | ⟨e1, e2, e⟩
  · subst e
    go_enter Tryd.func155, Tryd.ntmps155
    go_wp2_with fail
    generalize W.alloc (.cells #[.int .i64 (p : Int), .int .i64 5, .int .i64 (τ : Int), .int .i64 (5 - (r : Int))] 247) = V at H0 HB0 b0 b1 b2 b3 c1 cw ⊢
    generalize W.heap.size = fq at HB0 b0 b1 b2 b3 ⊢
    go_quiet (fail)
    have H2 := VC.below H0 (below_drewN (Below.refl _ V) nq)
    have HB2 := Lib.hid (HB0.out.below (below_drewN (Below.refl _ V) nq))
    clear H0 HB0 b0 b1 b2 b3 c1 cw
    obtain ⟨b0, b1, b2, b3, -⟩ := HB2.out.all
    go_wp2_with fail
    refine (HPT.out _).mono ?_
    rintro e w' ⟨rfl, rfl⟩
    go_wp2_with fail
    refine (tell_any 10 p (by omega) _).mono ?_
    rintro e w' ⟨rfl, rfl⟩
    go_wp2
    exact ⟨rfl, rfl, H2.out⟩
  · subst e
    have t1 : ((X : Int) == 0) = false := by simp; omega
    go_enter Tryd.func155, Tryd.ntmps155
    go_wp2_with fail
    generalize W.alloc (.cells #[.int .i64 (p : Int), .int .i64 5, .int .i64 (τ : Int), .int .i64 (5 - (r : Int))] 247) = V at H0 HB0 b0 b1 b2 b3 c1 cw ⊢
    generalize W.heap.size = fq at HB0 b0 b1 b2 b3 ⊢
    go_quiet (fail)
    have H2 := VC.below H0 (below_drewN (Below.refl _ V) nq)
    have HB2 := Lib.hid (HB0.out.below (below_drewN (Below.refl _ V) nq))
    clear H0 HB0 b0 b1 b2 b3 c1 cw
    obtain ⟨b0, b1, b2, b3, -⟩ := HB2.out.all
    go_wp2_with fail
    refine (HPT.out _).mono ?_
    rintro e w' ⟨rfl, rfl⟩
    go_wp2_with fail
    refine (tell_any 10 p (by omega) _).mono ?_
    rintro e w' ⟨rfl, rfl⟩
    go_wp2
    exact ⟨rfl, rfl, H2.out⟩
  · have t1 : ((X : Int) == 0) = false := by simp; omega
    have t2 : ((Y : Int) == 0) = false := by simp; omega
    have t3 : decide ((12 : Int) < (Y : Int)) = true := by simp; omega
    go_enter Tryd.func155, Tryd.ntmps155
    go_wp2_with fail
    generalize W.alloc (.cells #[.int .i64 (p : Int), .int .i64 5, .int .i64 (τ : Int), .int .i64 (5 - (r : Int))] 247) = V at H0 HB0 b0 b1 b2 b3 c1 cw ⊢
    generalize W.heap.size = fq at HB0 b0 b1 b2 b3 ⊢
    go_quiet (fail)
    have H2 := VC.below H0 (below_drewN (Below.refl _ V) nq)
    have HB2 := Lib.hid (HB0.out.below (below_drewN (Below.refl _ V) nq))
    clear H0 HB0 b0 b1 b2 b3 c1 cw
    obtain ⟨b0, b1, b2, b3, -⟩ := HB2.out.all
    go_wp2_with fail
    refine (HPT.out _).mono ?_
    rintro e w' ⟨rfl, rfl⟩
    go_wp2_with fail
    refine (tell_any 10 p (by omega) _).mono ?_
    rintro e w' ⟨rfl, rfl⟩
    go_wp2
    exact ⟨rfl, rfl, H2.out⟩
set_option maxRecDepth 100000 in
set_option maxHeartbeats 1000000 in
theorem fld_5_good (v : VC) (r c p τ : Nat) (W : World) (H : Hid (v.K c W)) (hc : c ≤ v.N - 1) (hp : p < v.N) (hS : Hid (StrC v r)) (hτ : τ < v.s.n) (_h0 : ¬ v.f p = 0) (hX : ¬ v.f p % 4294967296 = 0) (hY : ¬ v.f p / 4294967296 = 0) (hM : v.f p / 4294967296 ≤ 12) (R : VR)
    (hR : R = v.st r τ p (p + v.f p % 4294967296) (v.f p / 4294967296) c) : Calls Tryd.prog 155 #[.pointer (some ⟨v.q, 0, none⟩), fieldA p 5 τ (5 - (r : Int))] W (LEnd (v.F W) R) := by
  have H0 := VC.below (VC.start H) (((Below.refl _ _).alloc (Nat.le_refl _) _) : Below W.heap.size W (W.alloc (.cells #[.int .i64 (p : Int), .int .i64 5, .int .i64 (τ : Int), .int .i64 (5 - (r : Int))] 247)))
  have HB0 := Lib.hid (FB.new W p 5 τ (5 - (r : Int)))
  obtain ⟨b0, b1, b2, b3, -⟩ := HB0.out.all
  obtain ⟨b, o, hA, c1, cw, hw64⟩ := VC.word H0 hp
  have hNN := v.hN
  have hcw := v.hcw
  have hx0 : ((v.f p : Nat) : Int) ≠ 0 := by omega
  have d0 : (((v.f p : Nat) : Int) == 0) = false := by simpa using hx0
  have hpt := bpart_any (v.f p) hw64
  have hx1 : v.f p % 4294967296 < 4294967296 := Nat.mod_lt _ (by decide)
  have hfo : ∀ V, Hid (v.F W c V) → Calls Tryd.prog 157 #[.pointer (some ⟨v.q, 0, none⟩), fieldA p 5 τ (5 - (r : Int)), .int .i64 ((p + v.f p % 4294967296 : Nat) : Int), .int .i64 ((v.f p / 4294967296 : Nat) : Int)] V (LEnd (v.F V) R) := fun V hV => by
    rw [hR]
    exact fol_str v r c p τ (p + v.f p % 4294967296) (v.f p / 4294967296) 5 (by omega) _ (VC.k hV) hS hc hτ (by omega) (by omega) (by omega)
  generalize v.f p = x at cw d0 hpt hX hY hM _h0 hx0 hfo hx1 hR
  generalize x % 4294967296 = X at hpt hX hfo hx1 hR
  generalize x / 4294967296 = Y at hpt hY hM hfo hR
  have HPT := Lib.hid hpt
  have HFO := Lib.hid hfo
  have hsum : ((p : Int) + (X : Int)) = ((p + X : Nat) : Int) := by omega
  have HSUM := Lib.hid hsum
  clear hpt hfo hsum
  unfold fieldA at HFO ⊢
  have t1 : ((X : Int) == 0) = false := by simp; omega
  have t2 : ((Y : Int) == 0) = false := by simp; omega
  have t3 : decide ((12 : Int) < (Y : Int)) = false := by simp; omega
  rcases vr_cases R with ⟨c1', hE⟩ | ⟨k', p', c1', hE⟩
  · rw [hE] at HFO ⊢
    clear hE hR
    go_enter Tryd.func155, Tryd.ntmps155
    go_wp2_with fail
    generalize W.alloc (.cells #[.int .i64 (p : Int), .int .i64 5, .int .i64 (τ : Int), .int .i64 (5 - (r : Int))] 247) = V at H0 HB0 b0 b1 b2 b3 c1 cw ⊢
    generalize W.heap.size = fq at HB0 b0 b1 b2 b3 ⊢
    go_quiet (fail)
    have H2 := VC.below H0 (below_drewN (Below.refl _ V) nq)
    have HB2 := Lib.hid (HB0.out.below (below_drewN (Below.refl _ V) nq))
    clear H0 HB0 b0 b1 b2 b3 c1 cw
    obtain ⟨b0, b1, b2, b3, -⟩ := HB2.out.all
    go_wp2_with fail
    refine (HPT.out _).mono ?_
    rintro e w' ⟨rfl, rfl⟩
    go_wp2_with fail
    try rw [HSUM.out]
    refine (HFO.out _ H2).mono ?_
    rintro e w1 ⟨rfl, hF⟩
    have H1 := VC.trans H2 hF
    go_wp2
    exact bodyPost_end (v := .tuple #[]) (by simp [results, Tryd.results155, go_sem]) rfl ⟨rfl, H1.out⟩
  · rw [hE] at HFO ⊢
    clear hE hR
    go_enter Tryd.func155, Tryd.ntmps155
    go_wp2_with fail
    generalize W.alloc (.cells #[.int .i64 (p : Int), .int .i64 5, .int .i64 (τ : Int), .int .i64 (5 - (r : Int))] 247) = V at H0 HB0 b0 b1 b2 b3 c1 cw ⊢
    generalize W.heap.size = fq at HB0 b0 b1 b2 b3 ⊢
    go_quiet (fail)
    have H2 := VC.below H0 (below_drewN (Below.refl _ V) nq)
    have HB2 := Lib.hid (HB0.out.below (below_drewN (Below.refl _ V) nq))
    clear H0 HB0 b0 b1 b2 b3 c1 cw
    obtain ⟨b0, b1, b2, b3, -⟩ := HB2.out.all
    go_wp2_with fail
    refine (HPT.out _).mono ?_
    rintro e w' ⟨rfl, rfl⟩
    go_wp2_with fail
    try rw [HSUM.out]
    refine (HFO.out _ H2).mono ?_
    rintro e w1 ⟨rfl, hF⟩
    have H1 := VC.trans H2 hF
    go_wp2
    exact ⟨rfl, rfl, H1.out⟩

/-- A field's visit. -/
theorem fld_of (v : VC) (r : Nat) (hS : Hid (StrC v r)) : FldC v r := by
  intro c p τ k W H hc h1 h5 hτ hp
  have hm1 : mostV 2 = 40 := rfl
  have hm2 : mostV 3 = 12 := rfl
  have hm3 : mostV 4 = 1 := rfl
  have hm4 : mostV 5 = 12 := rfl
  by_cases h0 : v.f p = 0
  · have e : fldV v.f v.N (v.st r) k τ p c = (none, c) := by unfold fldV; rw [if_pos (.inr h0)]
    rw [e]
    obtain rfl | rfl | rfl | rfl | rfl : k = 1 ∨ k = 2 ∨ k = 3 ∨ k = 4 ∨ k = 5 := by omega
    · exact fld_one v r c p τ W H
    · exact fld_2_none v r c p τ W H hp h0
    · exact fld_3_none v r c p τ W H hp h0
    · exact fld_4_none v r c p τ W H hp h0
    · exact fld_5_none v r c p τ W H hp h0
  · by_cases k1 : k = 1
    · subst k1
      have e : fldV v.f v.N (v.st r) 1 τ p c = (none, c) := by unfold fldV; rw [if_pos (.inl rfl)]
      rw [e]
      exact fld_one v r c p τ W H
    · have hn : ¬ (k = 1 ∨ v.f p = 0) := by rintro (g | g); exact k1 g; exact h0 g
      by_cases hb : v.f p % 4294967296 = 0 ∨ v.f p / 4294967296 = 0 ∨ mostV k < v.f p / 4294967296
      · have e : fldV v.f v.N (v.st r) k τ p c = (some (10, p), c) := by unfold fldV; rw [if_neg hn, if_pos hb]
        rw [e]
        obtain rfl | rfl | rfl | rfl : k = 2 ∨ k = 3 ∨ k = 4 ∨ k = 5 := by omega
        · exact fld_2_bad v r c p τ W H hp h0 hb
        · exact fld_3_bad v r c p τ W H hp h0 hb
        · exact fld_4_bad v r c p τ W H hp h0 hb
        · exact fld_5_bad v r c p τ W H hp h0 hb
      · obtain rfl | rfl | rfl | rfl : k = 2 ∨ k = 3 ∨ k = 4 ∨ k = 5 := by omega
        · exact fld_2_good v r c p τ W H hc hp h0 (by omega) (by omega) (by omega) _ (by unfold fldV txtV; rw [if_neg hn, if_neg hb, if_pos rfl])
        · exact fld_3_good v r c p τ W H hc hp h0 (by omega) (by omega) (by omega) _ (by unfold fldV; rw [if_neg hn, if_neg hb, if_neg (by decide), if_pos rfl])
        · exact fld_4_good v r c p τ W H hc hp hS hτ h0 (by omega) (by omega) (by omega) _ (by unfold fldV; rw [if_neg hn, if_neg hb, if_neg (by decide), if_neg (by decide)])
        · exact fld_5_good v r c p τ W H hc hp hS hτ h0 (by omega) (by omega) (by omega) _ (by unfold fldV; rw [if_neg hn, if_neg hb, if_neg (by decide), if_neg (by decide)])

end Go.Proofs.YtkhbhkllnigbgaaDoor

namespace Go.Proofs.YtkhbhkllnigbgaaDoor
open Go.ChangeShapes Go.WideShapes Go.ChangeAt Go.RowKit
/-- The looker, and the box in which a field came in. -/
def VB (v : VC) (W0 : World) (b p : Nat) (k : Int) (τ : Nat) (d : Int) (c : Nat) (V : World) : Prop := v.F W0 c V ∧ FB b p k τ d V ∧ b ≠ v.q
section
variable {v : VC} {W0 : World} {b p : Nat} {k : Int} {τ : Nat} {d : Int} {c : Nat} {V : World}
theorem VB.cells (h : Hid (VB v W0 b p k τ d c V)) : V.cell? ⟨v.q, 0, none⟩ = some (.slice v.A v.s.n v.cs) ∧ V.cell? ⟨b, 0, none⟩ = some (.int .i64 (p : Int)) ∧ V.cell? ⟨b, 2, none⟩ = some (.int .i64 (τ : Int)) ∧ V.cell? ⟨b, 3, none⟩ = some (.int .i64 d) :=
  ⟨VC.cell0 (Lib.hid h.out.1), h.out.2.1.all.1, h.out.2.1.all.2.2.1, h.out.2.1.all.2.2.2.1⟩
theorem VB.below (h : Hid (VB v W0 b p k τ d c V)) {V' : World} (hb : Below V.heap.size V V') : Hid (VB v W0 b p k τ d c V') := Lib.hid ⟨(VC.below (Lib.hid h.out.1) hb).out, h.out.2.1.below hb, h.out.2.2⟩
theorem VB.step (h : Hid (VB v W0 b p k τ d c V)) {c' : Nat} {V' : World} (hF : v.F V c' V') : Hid (VB v W0 b p k τ d c' V') := Lib.hid ⟨(VC.trans (Lib.hid h.out.1) hF).out, h.out.2.1.keep hF.2 h.out.2.2, h.out.2.2⟩
theorem VB.fields {L : Nat} (hL : Hid (lenAt v.s (τ : Int) = (L : Nat))) (h : Hid (VB v W0 b p k τ d c V)) : Calls Tryd.prog 84 #[.slice v.A v.s.n v.cs, .int .i64 (τ : Int)] V fun e W' => e = .returned (.int .i64 (L : Nat)) ∧ Hid (VB v W0 b p k τ d c W') := by
  refine (fields_any v.s v.A v.cs τ _ (LK.sat h.out.1.1)).mono ?_
  rintro e w' ⟨rfl, rfl⟩
  rw [hL.out]
  exact ⟨rfl, h⟩
theorem VB.claim_ok {to m c1 : Nat} (hto : to ≤ 10000000000) (hm : m ≤ 1000) (hc : c ≤ v.N - 1) (e : claimV v.N p to m c = (none, c1)) : Hid (∀ (V : World) (z : Int), z = (m : Int) → Hid (VB v W0 b p k τ d c V) →
    Calls Tryd.prog 143 #[.pointer (some ⟨v.q, 0, none⟩), .int .i64 (p : Int), .int .i64 (to : Int), .int .i64 z] V fun e W' => e = .returned (.tuple #[]) ∧ Hid (VB v W0 b p k τ d c1 W')) := Lib.hid (by
  rintro V z rfl h
  have hN := v.hN
  refine (claim_any v.w v.q v.s v.A v.cs v.Aw v.N v.cw v.f c _ h.out.1.1 (by omega) hN p to m (by omega) hm).mono ?_
  rw [e]
  rintro e w' ⟨rfl, hF⟩
  exact ⟨rfl, VB.step h hF⟩)
theorem VB.claim_err {to m c1 k' p' : Nat} (hto : to ≤ 10000000000) (hm : m ≤ 1000) (hc : c ≤ v.N - 1) (e : claimV v.N p to m c = (some (k', p'), c1)) : Hid (∀ (V : World) (z : Int), z = (m : Int) → Hid (VB v W0 b p k τ d c V) →
    Calls Tryd.prog 143 #[.pointer (some ⟨v.q, 0, none⟩), .int .i64 (p : Int), .int .i64 (to : Int), .int .i64 z] V fun e W' => e = .panicked [{ v := .iface 191 (.agg #[Cs.enc [(0, (p' : Int)), ((k' : Int), 0)]]), recovered := false }] ∧ Hid (VB v W0 b p k τ d c1 W')) := Lib.hid (by
  rintro V z rfl h
  have hN := v.hN
  refine (claim_any v.w v.q v.s v.A v.cs v.Aw v.N v.cw v.f c _ h.out.1.1 (by omega) hN p to m (by omega) hm).mono ?_
  rw [e]
  rintro e w' ⟨rfl, hF⟩
  exact ⟨rfl, VB.step h hF⟩)
theorem VB.visit_ok {r at_ c1 : Nat} (HV : Hid (VisC v r)) (hτ : τ < v.s.n) (hat : at_ + v.s.len τ ≤ v.N) (hc : c ≤ v.N - 1) (e : visV v.s v.f v.N (v.st r) τ at_ c = (none, c1)) : Hid (∀ (V : World) (z y : Int), z = (at_ : Int) → y = 5 - (r : Int) → Hid (VB v W0 b p k τ d c V) →
    Calls Tryd.prog 144 #[.pointer (some ⟨v.q, 0, none⟩), .int .i64 (τ : Int), .int .i64 z, .int .i64 y] V fun e W' => e = .returned (.tuple #[]) ∧ Hid (VB v W0 b p k τ d c1 W')) := Lib.hid (by
  rintro V z y rfl rfl h
  refine (HV.out c τ at_ V (Lib.hid h.out.1.1) hc hτ hat).mono ?_
  rw [e]
  rintro e w' ⟨rfl, hF⟩
  exact ⟨rfl, VB.step h hF⟩)
theorem VB.visit_err {r at_ c1 k' p' : Nat} (HV : Hid (VisC v r)) (hτ : τ < v.s.n) (hat : at_ + v.s.len τ ≤ v.N) (hc : c ≤ v.N - 1) (e : visV v.s v.f v.N (v.st r) τ at_ c = (some (k', p'), c1)) : Hid (∀ (V : World) (z y : Int), z = (at_ : Int) → y = 5 - (r : Int) → Hid (VB v W0 b p k τ d c V) →
    Calls Tryd.prog 144 #[.pointer (some ⟨v.q, 0, none⟩), .int .i64 (τ : Int), .int .i64 z, .int .i64 y] V fun e W' => e = .panicked [{ v := .iface 191 (.agg #[Cs.enc [(0, (p' : Int)), ((k' : Int), 0)]]), recovered := false }] ∧ Hid (VB v W0 b p k τ d c1 W')) := Lib.hid (by
  rintro V z y rfl rfl h
  refine (HV.out c τ at_ V (Lib.hid h.out.1.1) hc hτ hat).mono ?_
  rw [e]
  rintro e w' ⟨rfl, hF⟩
  exact ⟨rfl, VB.step h hF⟩)
end

set_option maxRecDepth 100000 in
set_option maxHeartbeats 4000000 in
theorem str_of (v : VC) (hR : RightS v.s) (r : Nat) (hr : r ≤ 3) (HV : Hid (VisC v r)) : StrC v (r + 1) := by
  intro c p τ to n k W H hc hτ hto h1 h12
  have hN := v.hN
  have hrr : ((5 : Int) - ((r + 1 : Nat) : Int)) = 4 - (r : Int) := by omega
  obtain ⟨D, HD⟩ : ∃ D : Int, Hid (4 - (r : Int) = D) := ⟨_, Lib.hid rfl⟩
  unfold fieldA
  rw [hrr, HD.out]
  have d5 : (D == 5) = false := by have := HD.out; simp; omega
  have HWD : Hid (wrap64 (D + 1) = 5 - (r : Int)) := Lib.hid ((IntWalk.i64_left _).symm.trans (by have := HD.out; rw [IntKind.wrap_i64]; omega))
  have HB0 : Hid (VB v W W.heap.size p k τ D c (W.alloc (.cells #[.int .i64 (p : Int), .int .i64 k, .int .i64 (τ : Int), .int .i64 D] 247))) := Lib.hid ⟨(VC.below (VC.start H) ((Below.refl _ _).alloc (Nat.le_refl _) _)).out, FB.new W p k τ D, by have := (LK.all H.out).2.2.2.2; omega⟩
  have hl6 := (hR.2.2 τ hτ).2.1
  have hl := lenAt_in hτ
  obtain ⟨L, HLL⟩ : ∃ L, Hid (v.s.len τ = L) := ⟨_, Lib.hid rfl⟩
  rw [HLL.out] at hl6 hl
  have HL := Lib.hid hl
  have HT := Lib.hid hτ
  have hnl : n * L ≤ 12 * 6 := Nat.mul_le_mul h12 hl6
  obtain ⟨G, HG⟩ : ∃ G : Nat → Nat → VR, Hid (G = fun j c => visV v.s v.f v.N (v.st r) τ (to + j * L) c) := ⟨_, Lib.hid rfl⟩
  have HS : Hid (v.st (r + 1) τ p to n c = thenV (claimV v.N p to (n * L) c) (itV G n)) := Lib.hid (by rw [HG.out, ← HLL.out]; rfl)
  have HIN : Hid (∀ j c, c ≤ v.N - 1 → InB v.N 72 (G j c)) := Lib.hid fun j c hc => by rw [HG.out]; exact visV_in hR (by omega) (strV_in hR v.f v.N r) hτ _ hc
  have HWN : Hid (IntKind.i64.wrap ((n : Int) * (L : Int)) = ((n * L : Nat) : Int)) := Lib.hid (by
    have e : (n : Int) * (L : Int) = ((n * L : Nat) : Int) := by rw [Int.natCast_mul]
    rw [e, IntKind.wrap_i64]; omega)
  have HMUL : Hid (wrap64 ((n : Int) * (L : Int)) = ((n * L : Nat) : Int)) := Lib.hid ((IntWalk.i64_left _).symm.trans HWN.out)
  rw [HS.out]
  have HTO : Hid (to ≤ 10000000000) := Lib.hid hto
  have HC := Lib.hid hc
  have HNL := Lib.hid hnl
  clear HS hl hτ hR hrr hnl
  obtain ⟨c0, b0, b2, b3⟩ := VB.cells HB0
  rcases vr_cases (claimV v.N p to (n * L) c) with ⟨c1, hE⟩ | ⟨k', p', c1, hE⟩
  · have HCL := VB.claim_ok (W0 := W) (b := W.heap.size) (k := k) (τ := τ) (d := D) hto (by have := HNL.out; omega) hc hE
    have hto2 : to + n * L ≤ v.N ∧ c1 ≤ v.N - 1 := by
      unfold claimV at hE
      by_cases g : v.N < to + n * L
      · rw [if_pos g] at hE; cases hE
      · rw [if_neg g] at hE
        by_cases g2 : v.N - 1 < c + n * L
        · rw [if_pos g2] at hE; cases hE
        · rw [if_neg g2] at hE
          have e2 : c + n * L = c1 := congrArg Prod.snd hE
          omega
    have HTO2 := Lib.hid hto2
    rw [thenV_none hE]
    clear hE hto2
    go_enter Tryd.func160, Tryd.ntmps160
    go_wp2_with fail
    generalize W.alloc (.cells #[.int .i64 (p : Int), .int .i64 k, .int .i64 (τ : Int), .int .i64 D] 247) = V at HB0 c0 b0 b2 b3 ⊢
    generalize W.heap.size = fq at HB0 HCL b0 b2 b3 ⊢
    have HBD := VB.below HB0 (Below.refl _ _).drew
    go_region_held3 (fun w' => w'.cell? ⟨v.q, 0, none⟩ = some (.slice v.A v.s.n v.cs) ∧ w'.cell? ⟨fq, 0, none⟩ = some (.int .i64 (p : Int)) ∧ w'.cell? ⟨fq, 2, none⟩ = some (.int .i64 (τ : Int)) ∧ w'.cell? ⟨fq, 3, none⟩ = some (.int .i64 D))
      (first | exact VB.cells (by assumption))
      (first
        | (go_at_call 84; (with_reducible refine (VB.fields HL (by assumption)).mono ?_); rintro e w5 ⟨rfl, K3⟩)
        | fail)
    clear c0 b0 b2 b3 HBD HB0
    obtain ⟨c0, b0, b2, b3⟩ := VB.cells K3
    go_wp2_with fail
    with_reducible refine (HCL.out _ _ HMUL.out K3).mono ?_
    rintro e w6 ⟨rfl, K4⟩
    clear c0 b0 b2 b3 K3
    obtain ⟨c0, b0, b2, b3⟩ := VB.cells K4
    go_wp2_with fail
    clear c0 b0 b2 b3
    have hD1 : 1 ≤ D ∧ D ≤ 4 := by have := HD.out; omega
    go_loopw [9, 32] (fun _ iv wr => ∃ i : Nat, i ≤ n ∧ iv = .int .i64 i ∧ Hid (∃ ci, itV G i c1 = (none, ci) ∧ ci ≤ v.N - 1 ∧ VB v W fq p k τ D ci wr)) (fun _ iv _ => n - (intOf iv).toNat)
    case atStart => exact ⟨0, by omega, rfl, Lib.hid ⟨c1, rfl, HTO2.out.2, K4.out⟩⟩
    case round =>
      clear K4
      obtain ⟨i, hi, rfl, HI⟩ := hrel
      by_cases hi1 : i < n
      · obtain ⟨ci, hci, hcn, hK⟩ := HI.out
        have HK : Hid (VB v W fq p k τ D ci wr) := Lib.hid hK
        obtain ⟨c0, b0, b2, b3⟩ := VB.cells HK
        have hml : (i + 1) * L ≤ n * L := Nat.mul_le_mul_right _ (by omega)
        rw [Nat.succ_mul] at hml
        obtain ⟨m, hm⟩ : ∃ m, i * L = m := ⟨_, rfl⟩
        rw [hm] at hml
        have hm7 : m ≤ 72 := by have := HNL.out; omega
        have hat : to + m + v.s.len τ ≤ v.N := by rw [HLL.out]; have := HTO2.out.1; omega
        have hmu : ∀ x : Int, x = (i : Int) * (L : Int) → wrap64 x = (m : Int) := by
          rintro x rfl
          have e : (i : Int) * (L : Int) = (m : Int) := by rw [← hm, Int.natCast_mul]
          rw [e]
          exact (IntWalk.i64_left _).symm.trans (by rw [IntKind.wrap_i64]; omega)
        have hin := HIN.out i ci hcn
        rcases vr_cases (G i ci) with ⟨c', hE⟩ | ⟨k', p', c', hE⟩
        · have HNX : Hid (itV G (i + 1) c1 = (none, c') ∧ c' ≤ v.N - 1) := Lib.hid ⟨by rw [itV_succ_none hci]; exact hE, by rw [hE] at hin; exact hin.ok rfl⟩
          have hE' := hE
          rw [HG.out] at hE'
          simp only [hm] at hE'
          have HC := VB.visit_ok (W0 := W) (b := fq) (p := p) (k := k) (d := D) HV HT.out hat hcn hE'
          clear hE hE' hin hat hci hK HI hml hm hl6 h1 hcn hc hN d5
          go_wp2_with fail
          with_reducible refine (HC.out _ _ _ ?_ ?_ HK).mono ?_
          case _ => omega
          case _ => first | exact HWD.out | (have := HD.out; omega)
          rintro e w7 ⟨rfl, K5⟩
          go_wp2
          go_roundw
          case rel => exact ⟨i + 1, by omega, by go_num, Lib.hid ⟨c', HNX.out.1, HNX.out.2, K5.out⟩⟩
          case measure => simp [intOf]; omega
        · have HEN : Hid (itV G n c1 = (some (k', p'), c')) := Lib.hid (itV_stop hci hE hi1)
          have hE' := hE
          rw [HG.out] at hE'
          simp only [hm] at hE'
          have HC := VB.visit_err (W0 := W) (b := fq) (p := p) (k := k) (d := D) HV HT.out hat hcn hE'
          clear hE hE' hin hat hci hK HI hml hm hl6 h1 hcn hc hN d5
          go_wp2_with fail
          with_reducible refine (HC.out _ _ _ ?_ ?_ HK).mono ?_
          case _ => omega
          case _ => first | exact HWD.out | (have := HD.out; omega)
          rintro e w7 ⟨rfl, K5⟩
          go_wp2
          refine ⟨rfl, ?_⟩
          rw [HEN.out]
          exact ⟨rfl, K5.out.1⟩
      · have e : i = n := by omega
        subst e
        obtain ⟨ci, hci, hcn, hK⟩ := HI.out
        rw [hci]
        go_wp2
        exact bodyPost_end (v := .tuple #[]) (by simp [results, Tryd.results160, go_sem]) rfl ⟨rfl, hK.1⟩
  · have HCL := VB.claim_err (W0 := W) (b := W.heap.size) (k := k) (τ := τ) (d := D) hto (by have := HNL.out; omega) hc hE
    rw [thenV_some hE]
    clear hE
    go_enter Tryd.func160, Tryd.ntmps160
    go_wp2_with fail
    generalize W.alloc (.cells #[.int .i64 (p : Int), .int .i64 k, .int .i64 (τ : Int), .int .i64 D] 247) = V at HB0 c0 b0 b2 b3 ⊢
    generalize W.heap.size = fq at HB0 HCL b0 b2 b3 ⊢
    have HBD := VB.below HB0 (Below.refl _ _).drew
    go_region_held3 (fun w' => w'.cell? ⟨v.q, 0, none⟩ = some (.slice v.A v.s.n v.cs) ∧ w'.cell? ⟨fq, 0, none⟩ = some (.int .i64 (p : Int)) ∧ w'.cell? ⟨fq, 2, none⟩ = some (.int .i64 (τ : Int)) ∧ w'.cell? ⟨fq, 3, none⟩ = some (.int .i64 D))
      (first | exact VB.cells (by assumption))
      (first
        | (go_at_call 84; (with_reducible refine (VB.fields HL (by assumption)).mono ?_); rintro e w5 ⟨rfl, K3⟩)
        | fail)
    clear c0 b0 b2 b3 HBD HB0
    obtain ⟨c0, b0, b2, b3⟩ := VB.cells K3
    go_wp2_with fail
    with_reducible refine (HCL.out _ _ HMUL.out K3).mono ?_
    rintro e w6 ⟨rfl, K4⟩
    go_wp2
    exact ⟨rfl, rfl, K4.out.1⟩
/-- Visits, of any depth. -/
theorem vis_all (v : VC) (hR : RightS v.s) (r : Nat) (hr : r ≤ 4) : VisC v r := by
  induction r with
  | zero => exact vis_of v hR 0 (by omega) (Lib.hid (fld_of v 0 (Lib.hid (str_zero v))))
  | succ r ih => exact vis_of v hR (r + 1) hr (Lib.hid (fld_of v (r + 1) (Lib.hid (str_of v hR r (by omega) (Lib.hid (ih (by omega)))))))

end Go.Proofs.YtkhbhkllnigbgaaDoor

namespace Go.Proofs.YtkhbhkllnigbgaaDoor
open Go.ChangeShapes Go.WideShapes Go.ChangeAt Go.RowKit
/-- The trouble's parts, and how many words are claimed. -/
def vrP : VR → List (Int × Int) × Nat
  | (none, c) => ([], c)
  | (some (k, p), c) => ([(0, (p : Int)), ((k : Int), 0)], c)
noncomputable def lookP (s : Sch) (f : Nat → Nat) (N : Nat) : List (Int × Int) × Nat :=
  if okS s = false then ([(1, 0)], 0)
  else if N = 0 ∨ 200 < N then ([(21, 0)], 0)
  else if ¬ f 0 % 4294967296 = N ∨ s.n ≤ f 0 / 4294967296 then ([(0, 0), (10, 0)], 0)
  else vrP (bodyV s f N)
/-- It ends, or it panics with the trouble. -/
def PEnd (K : Nat → World → Prop) (r : List (Int × Int) × Nat) (e : Ending) (W' : World) : Prop :=
  (e = if r.1 = [] then .returned (.tuple #[]) else .panicked [{ v := .iface 191 (.agg #[Cs.enc r.1]), recovered := false }]) ∧ K r.2 W'
section
variable {w : World} {q : Nat} {s : Sch} {A : Option Addr} {cs : Nat} {Aw : Option Addr} {N cw : Nat} {f : Nat → Nat} {c : Nat} {W : World}
theorem enc_code1 (k : Int) (hk : ¬ k = 0) : Cs.enc [(k, 0)] = .iface 55 (.int .i64 k) := Cs.enc_code _ _ hk

set_option maxRecDepth 100000 in
set_option maxHeartbeats 1000000 in
theorem all_wrong (H : Hid (LK w q s A cs Aw N cw f 0 W)) (h : okS s = false) : Calls Tryd.prog 111 #[.pointer (some ⟨q, 0, none⟩)] W (PEnd (LF W w q s A cs Aw N cw f) ([(1, 0)], 0)) := by
  obtain ⟨c0, c1, c2, cf, hq⟩ := LK.all H.out
  unfold PEnd
  rw [if_neg (by simp), enc_code1 1 (by decide)]
  go_enter Tryd.func111, Tryd.ntmps111
  go_wp2_with fail
  refine (check_no s A cs _ H.out.sat h).mono ?_
  rintro e w1 ⟨rfl, hb⟩
  have H1 := Lib.hid (H.out.below hb)
  have HP1 := Lib.hid (ButP.of_below (Q := fun b => b = q) hb)
  clear c0 c1 c2 cf hq hb
  go_wp2
  exact ⟨rfl, rfl, H1.out, HP1.out⟩
set_option maxRecDepth 100000 in
set_option maxHeartbeats 1000000 in
theorem all_size (H : Hid (LK w q s A cs Aw N cw f 0 W)) (h : okS s = true) (hN : N = 0 ∨ 200 < N) : Calls Tryd.prog 111 #[.pointer (some ⟨q, 0, none⟩)] W (PEnd (LF W w q s A cs Aw N cw f) ([(21, 0)], 0)) := by
  obtain ⟨c0, c1, c2, cf, hq⟩ := LK.all H.out
  unfold PEnd
  rw [if_neg (by simp), enc_code1 21 (by decide)]
  rcases hN with hN | hN
  · subst hN
    go_enter Tryd.func111, Tryd.ntmps111
    go_wp2_with fail
    refine (check_yes s A cs _ H.out.sat h).mono ?_
    rintro e w1 ⟨rfl, hb⟩
    have H1 := Lib.hid (H.out.below hb)
    have HP1 := Lib.hid (ButP.of_below (Q := fun b => b = q) hb)
    clear c0 c1 c2 cf hq hb
    obtain ⟨c0, c1, c2, cf, hq⟩ := LK.all H1.out
    go_wp2_with fail
    refine (Cs.new_code 21 _ rfl).mono ?_
    rintro e w' ⟨rfl, rfl⟩
    go_wp2
    exact ⟨rfl, rfl, H1.out, HP1.out⟩
  · have d1 : ((N : Int) == 0) = false := by simp; omega
    have d2 : decide ((200 : Int) < (N : Int)) = true := by simp; omega
    go_enter Tryd.func111, Tryd.ntmps111
    go_wp2_with fail
    refine (check_yes s A cs _ H.out.sat h).mono ?_
    rintro e w1 ⟨rfl, hb⟩
    have H1 := Lib.hid (H.out.below hb)
    have HP1 := Lib.hid (ButP.of_below (Q := fun b => b = q) hb)
    clear c0 c1 c2 cf hq hb
    obtain ⟨c0, c1, c2, cf, hq⟩ := LK.all H1.out
    go_wp2_with fail
    refine (Cs.new_code 21 _ rfl).mono ?_
    rintro e w' ⟨rfl, rfl⟩
    go_wp2
    exact ⟨rfl, rfl, H1.out, HP1.out⟩
theorem LK.word0 (h : LK w q s A cs Aw N cw f c W) (hN : 1 ≤ N) : ∃ b o, Aw = some ⟨b, o, none⟩ ∧ W.cell? ⟨q, 1, none⟩ = some (.slice (some ⟨b, o, none⟩) N cw) ∧ W.cell? ⟨b, o, none⟩ = some (.int .u64 (f 0 : Nat)) ∧ f 0 < 18446744073709551616 := by
  obtain ⟨b, o, hA, hb, hc⟩ := h.row.some_ (by omega)
  obtain ⟨c0, c1, -⟩ := h.all
  rw [hA] at c1
  exact ⟨b, o, hA, c1, hc 0 (by omega), h.row0.lt 0 (by omega)⟩
set_option maxRecDepth 100000 in
set_option maxHeartbeats 2000000 in
theorem all_form (H : Hid (LK w q s A cs Aw N cw f 0 W)) (h : okS s = true) (h1 : 1 ≤ N) (h2 : N ≤ 200) (hf : ¬ f 0 % 4294967296 = N ∨ s.n ≤ f 0 / 4294967296) : Calls Tryd.prog 111 #[.pointer (some ⟨q, 0, none⟩)] W (PEnd (LF W w q s A cs Aw N cw f) ([(0, 0), (10, 0)], 0)) := by
  obtain ⟨c0, c1, c2, cf, hq⟩ := LK.all H.out
  have ht : ∀ w, Calls Tryd.prog 142 #[.int .i64 10, .int .i64 0] w fun e W' => e = .panicked [{ v := .iface 191 (.agg #[Cs.enc [(0, 0), (10, 0)]]), recovered := false }] ∧ W' = w := fun w => tell_any 10 0 (by omega) w
  have HTL := Lib.hid ht
  unfold PEnd
  rw [if_neg (by simp)]
  clear ht
  have d1 : ((N : Int) == 0) = false := by simp; omega
  have d2 : decide ((200 : Int) < (N : Int)) = false := by simp; omega
  have hpt := fun hx => bpart_any (f 0) hx
  obtain ⟨X, hX⟩ : ∃ X, f 0 % 4294967296 = X := ⟨_, rfl⟩
  obtain ⟨Y, hY⟩ : ∃ Y, f 0 / 4294967296 = Y := ⟨_, rfl⟩
  rw [hX, hY] at hpt hf
  have HPT := Lib.hid hpt
  clear hpt hX hY
  by_cases e1 : X = N
  · have t1 : ((X : Int) != (N : Int)) = false := by simp; omega
    have t2 : decide ((s.n : Int) ≤ (Y : Int)) = true := by simp; omega
    go_enter Tryd.func111, Tryd.ntmps111
    go_wp2_with fail
    refine (check_yes s A cs _ H.out.sat h).mono ?_
    rintro e w1 ⟨rfl, hb⟩
    have H1 := Lib.hid (H.out.below hb)
    have HP1 := Lib.hid (ButP.of_below (Q := fun b => b = q) hb)
    clear c0 c1 c2 cf hq hb
    obtain ⟨c0, c1, c2, cf, hq⟩ := LK.all H1.out
    obtain ⟨b, o, hA, c1', cw0, hx⟩ := LK.word0 H1.out h1
    clear c1
    go_wp2_with fail
    refine (HPT.out hx _).mono ?_
    rintro e w' ⟨rfl, rfl⟩
    go_wp2_with fail
    refine (HTL.out _).mono ?_
    rintro e w' ⟨rfl, rfl⟩
    go_wp2
    exact ⟨rfl, rfl, H1.out, HP1.out⟩
  · have t1 : ((X : Int) != (N : Int)) = true := by simp; omega
    go_enter Tryd.func111, Tryd.ntmps111
    go_wp2_with fail
    refine (check_yes s A cs _ H.out.sat h).mono ?_
    rintro e w1 ⟨rfl, hb⟩
    have H1 := Lib.hid (H.out.below hb)
    have HP1 := Lib.hid (ButP.of_below (Q := fun b => b = q) hb)
    clear c0 c1 c2 cf hq hb
    obtain ⟨c0, c1, c2, cf, hq⟩ := LK.all H1.out
    obtain ⟨b, o, hA, c1', cw0, hx⟩ := LK.word0 H1.out h1
    clear c1
    go_wp2_with fail
    refine (HPT.out hx _).mono ?_
    rintro e w' ⟨rfl, rfl⟩
    go_wp2_with fail
    refine (HTL.out _).mono ?_
    rintro e w' ⟨rfl, rfl⟩
    go_wp2
    exact ⟨rfl, rfl, H1.out, HP1.out⟩

set_option maxRecDepth 100000 in
set_option maxHeartbeats 2000000 in
theorem all_body (hcw : N ≤ cw) (H : Hid (LK w q s A cs Aw N cw f 0 W)) (h : okS s = true) (h1 : 1 ≤ N) (h2 : N ≤ 200) (hf1 : f 0 % 4294967296 = N) (hf2 : f 0 / 4294967296 < s.n) : Calls Tryd.prog 111 #[.pointer (some ⟨q, 0, none⟩)] W (PEnd (LF W w q s A cs Aw N cw f) (vrP (bodyV s f N))) := by
  obtain ⟨c0, c1, c2, cf, hq⟩ := LK.all H.out
  have hR := right_of_okS h
  have d1 : ((N : Int) == 0) = false := by simp; omega
  have d2 : decide ((200 : Int) < (N : Int)) = false := by simp; omega
  have hpt := fun hx => bpart_any (f 0) hx
  obtain ⟨Y, hY⟩ : ∃ Y, f 0 / 4294967296 = Y := ⟨_, rfl⟩
  obtain ⟨X, hX⟩ : ∃ X, f 0 % 4294967296 = X := ⟨_, rfl⟩
  rw [hX, hY] at hpt
  rw [hX] at hf1
  rw [hY] at hf2
  have HPT := Lib.hid hpt
  have hb0 : bodyV s f N = thenV (claimV N 0 1 (s.len Y) 0) fun c => visV s f N (strV s f N 4) Y 1 c := by unfold bodyV; rw [hY]
  have hl := lenAt_in hf2
  have hl6 := (hR.2.2 Y hf2).2.1
  obtain ⟨L, HLL⟩ : ∃ L, Hid (s.len Y = L) := ⟨_, Lib.hid rfl⟩
  rw [HLL.out] at hl hl6 hb0
  have HL := Lib.hid hl
  have HT := Lib.hid hf2
  have t1 : ((X : Int) != (N : Int)) = false := by simp; omega
  have t2 : decide ((s.n : Int) ≤ (Y : Int)) = false := by simp; omega
  have t3 : decide (s.n ≤ Y) = false := by simp; omega
  rw [hb0]
  clear hpt hY hX hf1 hf2 hb0 hl
  unfold PEnd
  have HCL : Hid (∀ V, LK w q s A cs Aw N cw f 0 V → Calls Tryd.prog 143 #[.pointer (some ⟨q, 0, none⟩), .int .i64 0, .int .i64 1, .int .i64 (L : Nat)] V (LEnd (LF V w q s A cs Aw N cw f) (claimV N 0 1 L 0))) := Lib.hid fun V hV => claim_any w q s A cs Aw N cw f 0 V hV (by omega) ⟨h1, h2⟩ 0 1 L (by omega) (by omega)
  let v : VC := ⟨w, q, s, A, cs, Aw, N, cw, f, ⟨h1, h2⟩, hcw, H.out.row0⟩
  have HVS : Hid (VisC v 4) := Lib.hid (vis_all v hR 4 (Nat.le_refl _))
  rcases vr_cases (claimV N 0 1 L 0) with ⟨c', hE⟩ | ⟨k', p', c', hE⟩
  · rw [hE] at HCL
    rw [thenV_none hE]
    have hcl2 : 1 + L ≤ N ∧ c' ≤ N - 1 := by
      unfold claimV at hE
      by_cases g : N < 1 + L
      · rw [if_pos g] at hE; cases hE
      · rw [if_neg g] at hE
        by_cases g2 : N - 1 < 0 + L
        · rw [if_pos g2] at hE; cases hE
        · rw [if_neg g2] at hE
          have e2 : 0 + L = c' := congrArg Prod.snd hE
          omega
    have HVI : Hid (∀ V, LK w q s A cs Aw N cw f c' V → Calls Tryd.prog 144 #[.pointer (some ⟨q, 0, none⟩), .int .i64 (Y : Int), .int .i64 1, .int .i64 1] V (LEnd (LF V w q s A cs Aw N cw f) (visV s f N (strV s f N 4) Y 1 c'))) := Lib.hid fun V hV => HVS.out c' Y 1 V (Lib.hid hV) hcl2.2 HT.out (by rw [show v.s = s from rfl, HLL.out]; exact hcl2.1)
    clear hE hcl2 HVS
    rcases vr_cases (visV s f N (strV s f N 4) Y 1 c') with ⟨c2', hE⟩ | ⟨k', p', c2', hE⟩
    · rw [hE] at HVI ⊢
      rw [show (vrP (none, c2')).1 = [] from rfl, if_pos rfl]
      clear hE
      go_enter Tryd.func111, Tryd.ntmps111
      go_wp2_with fail
      refine (check_yes s A cs _ H.out.sat h).mono ?_
      rintro e w1 ⟨rfl, hb⟩
      have H1 := Lib.hid (H.out.below hb)
      have HP1 := Lib.hid (ButP.of_below (Q := fun b => b = q) hb)
      clear c0 c1 c2 cf hq hb
      obtain ⟨c0, c1, c2, cf, hq⟩ := LK.all H1.out
      obtain ⟨b, o, hA, c1', cw0, hx⟩ := LK.word0 H1.out h1
      clear c1
      go_wp2_with fail
      refine (HPT.out hx _).mono ?_
      rintro e w' ⟨rfl, rfl⟩
      go_wp2_with fail
      refine (fields_any s A cs Y _ H1.out.sat).mono ?_
      rintro e w' ⟨rfl, rfl⟩
      rw [HL.out]
      go_wp2_with fail
      refine (HCL.out _ H1.out).mono ?_
      rintro e w2 ⟨rfl, h2'⟩
      go_wp2_with fail
      refine (HVI.out _ h2'.1).mono ?_
      rintro e w3 ⟨rfl, h3'⟩
      go_wp2
      exact bodyPost_end (v := .tuple #[]) (by simp [results, Tryd.results111, go_sem]) rfl ⟨rfl, h3'.1, ButP.trans HP1.out (ButP.trans h2'.2 h3'.2)⟩
    · rw [hE] at HVI ⊢
      rw [if_neg (by simp [vrP])]
      clear hE
      go_enter Tryd.func111, Tryd.ntmps111
      go_wp2_with fail
      refine (check_yes s A cs _ H.out.sat h).mono ?_
      rintro e w1 ⟨rfl, hb⟩
      have H1 := Lib.hid (H.out.below hb)
      have HP1 := Lib.hid (ButP.of_below (Q := fun b => b = q) hb)
      clear c0 c1 c2 cf hq hb
      obtain ⟨c0, c1, c2, cf, hq⟩ := LK.all H1.out
      obtain ⟨b, o, hA, c1', cw0, hx⟩ := LK.word0 H1.out h1
      clear c1
      go_wp2_with fail
      refine (HPT.out hx _).mono ?_
      rintro e w' ⟨rfl, rfl⟩
      go_wp2_with fail
      refine (fields_any s A cs Y _ H1.out.sat).mono ?_
      rintro e w' ⟨rfl, rfl⟩
      rw [HL.out]
      go_wp2_with fail
      refine (HCL.out _ H1.out).mono ?_
      rintro e w2 ⟨rfl, h2'⟩
      go_wp2_with fail
      refine (HVI.out _ h2'.1).mono ?_
      rintro e w3 ⟨rfl, h3'⟩
      go_wp2
      exact ⟨rfl, rfl, h3'.1, ButP.trans HP1.out (ButP.trans h2'.2 h3'.2)⟩
  · rw [hE] at HCL
    rw [thenV_some hE, if_neg (by simp [vrP])]
    clear hE HVS
    go_enter Tryd.func111, Tryd.ntmps111
    go_wp2_with fail
    refine (check_yes s A cs _ H.out.sat h).mono ?_
    rintro e w1 ⟨rfl, hb⟩
    have H1 := Lib.hid (H.out.below hb)
    have HP1 := Lib.hid (ButP.of_below (Q := fun b => b = q) hb)
    clear c0 c1 c2 cf hq hb
    obtain ⟨c0, c1, c2, cf, hq⟩ := LK.all H1.out
    obtain ⟨b, o, hA, c1', cw0, hx⟩ := LK.word0 H1.out h1
    clear c1
    go_wp2_with fail
    refine (HPT.out hx _).mono ?_
    rintro e w' ⟨rfl, rfl⟩
    go_wp2_with fail
    refine (fields_any s A cs Y _ H1.out.sat).mono ?_
    rintro e w' ⟨rfl, rfl⟩
    rw [HL.out]
    go_wp2_with fail
    refine (HCL.out _ H1.out).mono ?_
    rintro e w2 ⟨rfl, h2'⟩
    go_wp2
    exact ⟨rfl, rfl, h2'.1, ButP.trans HP1.out h2'.2⟩
theorem all_any (hcw : N ≤ cw) (H : Hid (LK w q s A cs Aw N cw f 0 W)) : Calls Tryd.prog 111 #[.pointer (some ⟨q, 0, none⟩)] W (PEnd (LF W w q s A cs Aw N cw f) (lookP s f N)) := by
  unfold lookP
  by_cases h : okS s = false
  · rw [if_pos h]; exact all_wrong H h
  · have h' : okS s = true := by simpa using h
    rw [if_neg h]
    by_cases hN : N = 0 ∨ 200 < N
    · rw [if_pos hN]; exact all_size H h' hN
    · rw [if_neg hN]
      by_cases hf : ¬ f 0 % 4294967296 = N ∨ s.n ≤ f 0 / 4294967296
      · rw [if_pos hf]; exact all_form H h' (by omega) (by omega) hf
      · rw [if_neg hf]
        exact all_body hcw H h' (by omega) (by omega) (by omega) (by omega)
end

end Go.Proofs.YtkhbhkllnigbgaaDoor

namespace Go.Proofs.YtkhbhkllnigbgaaDoor
open Go.ChangeShapes Go.WideShapes Go.ChangeAt Go.RowKit
theorem as_wrong (v : Value) (x : TypeId) (w : World) : (Instr.typeAssert (.iface 191 v) x 191 false).run Tryd.prog w = .ok v w := by
  simp [Instr.typeAssert, run_underlying Tryd.underlying191]
theorem fld_wrong (tr : Value) (w : World) : (Instr.field 191 (.agg #[tr]) 0).run Tryd.prog w = .ok tr w := by kernel_rfl
set_option maxRecDepth 100000 in
theorem catch_panicking (p : Addr) (x : Value) (t : TypeId) (u : Value) (older : List PanicEntry) (w : World) (hc : w.cell? p = some x) (hz : w.frozen? p = false) :
    CallsD Tryd.prog 110 #[.pointer (some p)] (.panicking ({ v := .iface 191 (.agg #[.iface t u]), recovered := false } :: older)) w fun e u' w' =>
      e = .returned (.tuple #[]) ∧ u' = .panicking ({ v := .iface 191 (.agg #[.iface t u]), recovered := true } :: older) ∧ w' = w.setCell p (.iface t u) := by
  have h1 := as_wrong
  have h2 := fld_wrong
  refine callsD_of_wpS Tryd.func110 rfl fun c₀ cs hu => ?_
  apply wpS_seq
  apply wpS_region
  simp [wpOpsS, go_sem, recoverD, hu, Tryd.ntmps110, Exit.thenS]
  rw [show (#[Value.pointer (some p)] ++ ((Array.replicate 7 undef).setIfInBounds 1 (Value.iface 191 (Value.agg #[.iface t u]))).setIfInBounds 0 (Value.iface 191 (Value.agg #[.iface t u]))) = #[.pointer (some p), Value.iface 191 (Value.agg #[.iface t u]), Value.iface 191 (Value.agg #[.iface t u]), undef, undef, undef, undef, undef] from rfl]
  refine wpS_of_wp ?_
  go_wp2
  simp [bodyPostS, results, Tryd.results110, go_sem]
set_option maxRecDepth 100000 in
theorem catch_idle (p : Addr) (w : World) :
    CallsD Tryd.prog 110 #[.pointer (some p)] .returning w fun e u' w' => e = .returned (.tuple #[]) ∧ u' = .returning ∧ w' = w := by
  refine callsD_of_wpS Tryd.func110 rfl fun c₀ cs hu => ?_
  apply wpS_seq
  apply wpS_region
  simp [wpOpsS, go_sem, recoverD, hu, Tryd.ntmps110, Exit.thenS]
  rw [show (#[Value.pointer (some p)] ++ ((Array.replicate 7 undef).setIfInBounds 1 Value.nilIface).setIfInBounds 0 Value.nilIface) = #[.pointer (some p), Value.nilIface, Value.nilIface, undef, undef, undef, undef, undef] from rfl]
  refine wpS_of_wp ?_
  go_wp2
  cases c₀
  simp_all [bodyPostS, results, Tryd.results110, go_sem]
section
variable {w : World} {q : Nat} {s : Sch} {A : Option Addr} {cs : Nat} {Aw : Option Addr} {N cw : Nat} {f : Nat → Nat} {c : Nat} {W : World}
/-- A store into another box that is newer. -/
theorem LK.other (h : LK w q s A cs Aw N cw f c W) {b : Nat} (v : Value) (hb : w.heap.size ≤ b) (hne : b ≠ q) : LK w q s A cs Aw N cw f c (W.setCell ⟨b, 0, none⟩ v) :=
  ⟨h.box.of_block (Below.heap_setCell W ⟨b, 0, none⟩ v q (fun e => hne e.symm)), h.sat0, h.row0, h.be.setCell hb _, h.qb⟩
set_option maxRecDepth 100000 in
set_option maxHeartbeats 1000000 in
theorem look_any (hcw : N ≤ cw) (H : Hid (LK w q s A cs Aw N cw f 0 W)) : Calls Tryd.prog 72 #[.pointer (some ⟨q, 0, none⟩)] W fun e W' => e = .returned (Cs.enc (lookP s f N).1) ∧ LK w q s A cs Aw N cw f (lookP s f N).2 W' := by
  have hmf : ∀ (fn : Fn) (first cap : Array Value) (w : World), (Instr.makeFunc fn first cap).run Tryd.prog w = .ok (.func fn first cap) w := fun _ _ _ _ => rfl
  have hall := all_any (W := W.alloc (.cells #[.nilIface] 52)) hcw (Lib.hid (H.out.below ((Below.refl _ _).alloc (Nat.le_refl _) _)))
  have hne : W.heap.size ≠ q := by have := (LK.all H.out).2.2.2.2; omega
  have hbe : w.heap.size ≤ W.heap.size := H.out.be.size
  obtain ⟨⟨L, c'⟩, hL⟩ : ∃ x, lookP s f N = x := ⟨_, rfl⟩
  rw [hL] at hall ⊢
  unfold PEnd at hall
  have hbx := World.rowIs_alloc W #[.nilIface] 52 (fun _ => .nilIface) (by intro j hj; match j, hj with | 0, _ => rfl)
  have HALL := Lib.hid hall
  have HBX := Lib.hid hbx
  clear hall hbx hL
  cases L with
  | nil =>
    rw [if_pos rfl] at HALL
    go_enter_defers Tryd.func72, Tryd.ntmps72
    go_wp2_with fail
    refine HALL.out.mono ?_
    rintro e w1 ⟨rfl, h1, h2⟩
    have hb1 := HBX.out.of_block (h2.block _ HBX.out.lt hne)
    have c0 := hb1.cell (i := 0) (by simp)
    have cf := hb1.frozen 0
    go_wp2
    refine leaves_cons (f := 110) (args := #[.pointer (some ⟨W.heap.size, 0, none⟩)]) (by simp) (by simp [go_sem]) ?_
    refine (catch_idle ⟨W.heap.size, 0, none⟩ _).mono ?_
    rintro e u' w'' ⟨rfl, rfl, rfl⟩
    have c1 : (w1.setCell ⟨W.heap.size, 0, none⟩ .nilIface).cell? ⟨W.heap.size, 0, none⟩ = some .nilIface := (hb1.set 0 _).cell (i := 0) (by simp)
    have hl := h1.other (.nilIface) hbe hne
    generalize w1.setCell ⟨W.heap.size, 0, none⟩ .nilIface = W9 at c1 hl ⊢
    simp [Leaves, settle, results, Tryd.results72, go_sem, c1]
    first | exact hl | exact ⟨rfl, hl⟩
  | cons y L =>
    obtain ⟨t, u, he⟩ := Cs.enc_cons y L
    rw [he] at HALL ⊢
    rw [if_neg (by simp)] at HALL
    go_enter_defers Tryd.func72, Tryd.ntmps72
    go_wp2_with fail
    refine HALL.out.mono ?_
    rintro e w1 ⟨rfl, h1, h2⟩
    have hb1 := HBX.out.of_block (h2.block _ HBX.out.lt hne)
    have c0 := hb1.cell (i := 0) (by simp)
    have cf := hb1.frozen 0
    go_wp2
    refine leaves_cons (f := 110) (args := #[.pointer (some ⟨W.heap.size, 0, none⟩)]) (by simp) (by simp [go_sem]) ?_
    refine (catch_panicking ⟨W.heap.size, 0, none⟩ _ t u [] _ c0 cf).mono ?_
    rintro e u' w'' ⟨rfl, rfl, rfl⟩
    have c1 : (w1.setCell ⟨W.heap.size, 0, none⟩ (.iface t u)).cell? ⟨W.heap.size, 0, none⟩ = some (.iface t u) := (hb1.set 0 _).cell (i := 0) (by simp)
    have hl := h1.other (.iface t u) hbe hne
    generalize w1.setCell ⟨W.heap.size, 0, none⟩ (.iface t u) = W9 at c1 hl ⊢
    simp [Leaves, settle, results, Tryd.results72, go_sem, c1]
    first | exact hl | exact ⟨rfl, hl⟩
theorem LK.start (hs : SAt w A s) (hr : WRow w Aw N f) : LK w w.heap.size s A cs Aw N cw f 0 (w.alloc (.cells #[.slice A s.n cs, .slice Aw N cw, .int .i64 0] 136)) :=
  ⟨World.rowIs_alloc w #[.slice A s.n cs, .slice Aw N cw, .int .i64 0] 136 _ (by intro j hj; match j, hj with | 0, _ => rfl | 1, _ => rfl | 2, _ => rfl), hs, hr, ((Below.refl _ _).alloc (Nat.le_refl _) _), Nat.le_refl _⟩
set_option maxRecDepth 100000 in
set_option maxHeartbeats 1000000 in
/-- Check. -/
theorem vcheck_any (s : Sch) (A : Option Addr) (cs : Nat) (Aw : Option Addr) (N cw : Nat) (f : Nat → Nat) (w : World) (hs : SAt w A s) (hr : WRow w Aw N f) (hcw : N ≤ cw) : Calls Tryd.prog 39 #[.slice A s.n cs, .slice Aw N cw] w fun e w' => e = .returned (Cs.enc (lookP s f N).1) ∧ Below w.heap.size w w' := by
  have h0 := look_any hcw (Lib.hid (LK.start (cs := cs) (cw := cw) hs hr))
  obtain ⟨⟨L, c'⟩, hL⟩ : ∃ x, lookP s f N = x := ⟨_, rfl⟩
  rw [hL] at h0 ⊢
  simp only at h0 ⊢
  generalize Cs.enc L = v at h0 ⊢
  have H := Lib.hid h0
  clear hs hr h0 hL
  go_enter Tryd.func39, Tryd.ntmps39
  go_wp2_with fail
  refine H.out.mono ?_
  rintro e w1 ⟨rfl, h1⟩
  go_wp2
  go_ret
  exact ⟨rfl, h1.be⟩
set_option maxRecDepth 100000 in
set_option maxHeartbeats 1000000 in
/-- Visits. -/
theorem visits_any (s : Sch) (A : Option Addr) (cs : Nat) (Aw : Option Addr) (N cw : Nat) (f : Nat → Nat) (w : World) (hs : SAt w A s) (hr : WRow w Aw N f) (hcw : N ≤ cw) : Calls Tryd.prog 40 #[.slice A s.n cs, .slice Aw N cw] w fun e w' => e = .returned (.int .i64 ((lookP s f N).2 : Nat)) ∧ Below w.heap.size w w' := by
  have h0 := look_any hcw (Lib.hid (LK.start (cs := cs) (cw := cw) hs hr))
  obtain ⟨⟨L, c'⟩, hL⟩ : ∃ x, lookP s f N = x := ⟨_, rfl⟩
  rw [hL] at h0 ⊢
  simp only at h0 ⊢
  generalize Cs.enc L = v at h0 ⊢
  have H := Lib.hid h0
  clear hs hr h0 hL
  go_enter Tryd.func40, Tryd.ntmps40
  go_wp2_with fail
  refine H.out.mono ?_
  rintro e w1 ⟨rfl, h1⟩
  obtain ⟨c0, c1, c2, cf, hq⟩ := LK.all h1
  go_wp2
  go_ret
  exact ⟨rfl, h1.be⟩
end

end Go.Proofs.YtkhbhkllnigbgaaDoor
