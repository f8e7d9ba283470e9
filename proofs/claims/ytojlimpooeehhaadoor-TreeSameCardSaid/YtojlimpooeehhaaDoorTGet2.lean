/- tree.Get: whatever schema, type, tree and path. -/
import Derived.Test.YtojlimpooeehhaaDoorTGet
namespace Go.Proofs.YtojlimpooeehhaaDoor
open Go.RowKit
set_option maxRecDepth 100000 in
set_option maxHeartbeats 1000000 in
theorem getter_any (s : Sch) (A : Option Addr) (c : Nat) (w : World) (hs : SAt w A s) : Calls Tryd.prog 51 #[.slice A s.n c] w fun e w' => ∃ bs bc, e = .returned (.func (.func 77) #[] #[.pointer (some ⟨bs, 0, none⟩), .pointer (some ⟨bc, 0, none⟩)]) ∧ GkW bs bc s A c w' ∧ Below w.heap.size w w' := by
  have HS := Lib.hid hs
  have hmf := mk_func
  clear hs
  go_enter Tryd.func51, Tryd.ntmps51
  go_wp2
  go_ret
  have hB : Below w.heap.size w ((w.alloc (.cells #[.slice A s.n c] 29)).alloc (.cells #[.func (.func 77) #[] #[.pointer (some ⟨w.heap.size, 0, none⟩), .pointer (some ⟨w.heap.size + 1, 0, none⟩)]] 91)) := by (repeat (first | with_reducible exact Below.refl _ _ | with_reducible refine Below.drew ?_ | (with_reducible refine Below.setCell ?_ ?side _; case side => exact (by first | (simp; done) | (simp; omega) | omega)) | (with_reducible refine Below.alloc ?_ ?side _; case side => exact (by first | (simp; done) | (simp; omega) | omega))))
  refine ⟨w.heap.size, w.heap.size + 1, rfl, ⟨?_, ?_, ?_, ?_, HS.out.below hB⟩, hB⟩
  · simp; omega
  · simp
  · simp
  · simp

/-- What Get tells: a number, a code. -/
noncomputable def getC (s : Sch) (t : Int) (x : Tr) (p : List Int) : Nat × Nat := if chkC s t x = 0 then (if p = [] then (0, 1) else getT s p.length t.toNat x p) else (0, chkC s t x)
theorem chkC_0 {s : Sch} {t : Int} {x : Tr} (h : chkC s t x = 0) : RightS s ∧ ∃ m : Nat, t = m ∧ m < s.n ∧ chk s 5 m x = 0 := by
  unfold chkC at h
  by_cases g : okS s = true ∧ hasT s t
  · rw [if_pos g] at h
    have g2 := g.2
    unfold hasT at g2
    exact ⟨right_of_okS g.1, t.toNat, by omega, by omega, h⟩
  · rw [if_neg g] at h; omega

set_option maxRecDepth 100000 in
set_option maxHeartbeats 2000000 in
theorem tget_any (s : Sch) (A : Option Addr) (c : Nat) (t : Int) (x : Tr) (An Ak : Option Addr) (cn ck n : Nat) (Ap : Option Addr) (cp : Nat) (p : List Int) (w : World) (hs : SAt w A s) (hS : Sm n x) (hT : TAt w (fun _ => True) x An Ak) (hP : PRow w Ap p) (hpc : p.length ≤ cp) (hp1 : p.length ≤ 1000) :
    Calls Tryd.prog 32 #[.slice A s.n c, .int .i64 t, (.agg #[.int .u64 ((x).num : Nat), .string (x).bs, .slice An (x).nl cn, .slice Ak (x).kl ck]), .slice Ap p.length cp] w fun e w' => e = .returned (gotV (getC s t x p)) ∧ Below w.heap.size w w' := by
  have H0 := Lib.hid (CC.mk' (k1 := cn) (k2 := ck) hs hT)
  have HS := Lib.hid hS
  have HP := Lib.hid hP
  clear hs hT hS hP
  by_cases h0 : chkC s t x = 0
  · have HC := Lib.hid h0
    obtain ⟨hR, t, rfl, ht, hX⟩ := chkC_0 h0
    have HR := Lib.hid hR
    have HX := Lib.hid hX
    clear h0 hR hX
    have hc0 := H0.out.box
    by_cases hp : p = []
    · subst hp
      have HG : Hid (getC s t x [] = (0, 1)) := Lib.hid (by rw [getC, if_pos HC.out, if_pos rfl])
      go_enter Tryd.func32, Tryd.ntmps32
      go_wp2_with fail
      refine (tcheck_any s A c t x An Ak cn ck n _ H0.out.sat HS.out H0.out.tat).mono ?_
      rintro e w1 ⟨rfl, hb⟩
      rw [HC.out, errV_0]
      have H1 := Lib.hid (H0.out.below hb)
      clear hb
      go_wp2_with fail
      refine (Cs.new_code 1 _ rfl).mono ?_
      rintro e w' ⟨rfl, rfl⟩
      go_wp2
      go_ret2
      exact ⟨by rw [HG.out, gotV_e _ (by omega)]; rfl, H1.out.be⟩
    · have HG : Hid (getC s t x p = getT s p.length t x p) := Lib.hid (by rw [getC, if_pos HC.out, if_neg hp]; rfl)
      have hl : 0 < p.length := List.length_pos_iff.2 hp
      obtain ⟨L, HL⟩ : ∃ L, Hid (p.length = L) := ⟨_, Lib.hid rfl⟩
      have HI := fun bs bc W => get1_any s HR.out A c bs bc L t 5 n x An Ak Ap cn ck cp p W ht HX.out HS.out
      rw [HL.out] at HI hl hpc hp1 HG ⊢
      have HII := Lib.hid HI
      clear HI hp
      have e1 : ((L : Int) == 0) = false := by simp; omega
      have e2 : ((L : Int) = 0) = False := by simp; omega
      have e3 : (L = 0) = False := by simp; omega
      go_enter Tryd.func32, Tryd.ntmps32
      go_wp2_with fail
      refine (tcheck_any s A c t x An Ak cn ck n _ H0.out.sat HS.out H0.out.tat).mono ?_
      rintro e w1 ⟨rfl, hb⟩
      rw [HC.out, errV_0]
      have H1 := Lib.hid (H0.out.below hb)
      clear hb
      go_wp2_with fail
      clear e1 e2 e3
      go_region_held3 (fun w' => w'.cell? ⟨w.heap.size, 0, none⟩ = some (.int .u64 (x.num : Nat)) ∧ w'.cell? ⟨w.heap.size, 1, none⟩ = some (.string x.bs) ∧ w'.cell? ⟨w.heap.size, 2, none⟩ = some (.slice An x.nl cn) ∧ w'.cell? ⟨w.heap.size, 3, none⟩ = some (.slice Ak x.kl ck) ∧ CC w s A x An cn Ak ck w')
        (first | exact H1.out.drew.all | exact H2.out.all | exact H3.out.all | assumption)
        (first
          | (go_at_call 51; (with_reducible refine (getter_any s A c _ H1.out.drew.sat).mono ?_); rintro e w2 ⟨bs, bc, rfl, hck, hb⟩; have HCK := Lib.hid hck; have H2 := Lib.hid (H1.out.drew.below hb); clear hb hck)
          | (go_at_call 77; (with_reducible refine (HII.out bs bc _ HCK.out H2.out.tat (HP.out.below H2.out.be) hl (Nat.le_refl _) hpc hp1).mono ?_); rintro e w3 ⟨rfl, hb⟩; have H3 := Lib.hid (H2.out.below hb); clear hb; unfold gotV))
      all_goals
        go_wp2
        go_ret2
        exact ⟨by rw [HG.out]; rfl, H3.out.be⟩
  · have HG : Hid (getC s t x p = (0, chkC s t x)) := Lib.hid (by rw [getC, if_neg h0])
    rcases chkC_vals s t x with h | h | h | h
    · exact absurd h h0
    all_goals
      have HC := Lib.hid h
      rw [h] at HG
      clear h h0
      generalize p.length = L at *
      go_enter Tryd.func32, Tryd.ntmps32
      go_wp2_with fail
      refine (tcheck_any s A c t x An Ak cn ck n _ H0.out.sat HS.out H0.out.tat).mono ?_
      rintro e w1 ⟨rfl, hb⟩
      rw [HC.out]
      first | rw [show errV 1 = .iface 57 (.int .i64 1) from rfl] | rw [errV_16] | rw [errV_24]
      have H1 := Lib.hid (H0.out.below hb)
      clear hb
      go_wp2
      go_ret2
      exact ⟨by rw [HG.out, gotV_e _ (by omega)]; rfl, H1.out.be⟩

end Go.Proofs.YtojlimpooeehhaaDoor
