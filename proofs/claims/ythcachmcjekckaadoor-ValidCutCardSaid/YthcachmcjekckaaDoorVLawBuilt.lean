/- ValidBuilt: the law's walk. -/
import Derived.Test.YthcachmcjekckaaDoorVAwake
import Derived.Test.YthcachmcjekckaaDoorVMade
namespace Go.Proofs.YthcachmcjekckaaDoor
open Go.ChangeShapes Go.WideShapes Go.ChangeAt Go.RowKit
/-- What cause.Top tells of a trouble at a word. -/
theorem top_at (p k : Int) (hk : ¬ k = 0) (w : World) (hE : Cs.ErrT w) : Calls Tryd.prog 13 #[Cs.enc [(0, p), (k, 0)]] w fun r w' => r = .returned (.int .i64 k) ∧ Below w.heap.size w w' := by
  have h := Cs.top_any [(0, p), (k, 0)] (by simp [Cs.Ok, hk]) (by simp) w hE
  rw [Cs.top_word, Cs.top_code _ _ hk] at h
  exact h
/-- What is at hand behind made. -/
structure VW (w : World) (d : Nat) (s : Sch) (A : Option Addr) (t : Nat) (x : Tr) (Aw : Option Addr) (cw : Nat) (W : World) : Prop where
  mw : MadeW w d s A t x Aw cw W
  et : Cs.ErrT W
theorem VW.below {w : World} {d : Nat} {s : Sch} {A : Option Addr} {t : Nat} {x : Tr} {Aw : Option Addr} {cw : Nat} {W W' : World} (h : VW w d s A t x Aw cw W) (hb : Below W.heap.size W W') : VW w d s A t x Aw cw W' := ⟨h.mw.below hb, h.et.below hb⟩
theorem MadeW.chk {w : World} {d : Nat} {s : Sch} {A : Option Addr} {t : Nat} {x : Tr} {Aw : Option Addr} {cw : Nat} {W : World} (h : MadeW w d s A t x Aw cw W) (hd : d ≤ 5) : chk s 5 t x = 0 := h.made.chk hd
set_option maxRecDepth 100000 in
set_option maxHeartbeats 4000000 in
theorem lawBuilt_any (A1 : Option Addr) (L1 c1 : Nat) (A2 : Option Addr) (L2 c2 : Nat) (T : Int) (w : World) (hE : Cs.ErrT w) (hN1 : NumsAt w A1 L1 c1) (hN2 : NumsAt w A2 L2 c2) :
    Calls Tryd.prog 5 #[.agg #[.slice A1 L1 c1, .slice A2 L2 c2, .int .i64 T]] w fun e w' => e = .returned (.bool true) ∧ Below w.heap.size w w' := by
  have HE := Lib.hid hE
  have H1 := Lib.hid hN1
  have H2 := Lib.hid hN2
  clear hE hN1 hN2
  go_enter Tryd.func5, Tryd.ntmps5
  go_wp2_with fail
  refine (awake8_any _ (HE.out.below ((Below.refl _ _).alloc (Nat.le_refl _) _))).mono ?_
  rintro e w1 ⟨rfl, hb⟩
  have HB1 := Lib.hid (Below.step (B := w.heap.size) (a := w) (by (repeat (first | with_reducible exact Below.refl _ _ | with_reducible refine Below.drew ?_ | (with_reducible refine Below.setCell ?_ ?side _; case side => exact (by first | (simp; done) | (simp; omega) | omega)) | (with_reducible refine Below.alloc ?_ ?side _; case side => exact (by first | (simp; done) | (simp; omega) | omega))))) hb (by first | (simp; done) | (simp; omega) | omega))
  have hr := (spec8_row w A1 L1 c1 A2 L2 c2 T).of_block (hb.block _ (by simp))
  have b0 : w1.cell? ⟨w.heap.size, 0, none⟩ = some (.slice A1 L1 c1) := hr.cell (i := 0) (by omega)
  have b1 : w1.cell? ⟨w.heap.size, 1, none⟩ = some (.slice A2 L2 c2) := hr.cell (i := 1) (by omega)
  have b2 : w1.cell? ⟨w.heap.size, 2, none⟩ = some (.int .i64 T) := hr.cell (i := 2) (by omega)
  clear hr hb
  go_wp2_with fail
  clear b0 b1 b2
  refine (s8made_any 4 5 A1 L1 c1 A2 L2 c2 T _ (H1.out.below HB1.out) (H2.out.below HB1.out) (by omega) (by omega) (by omega)).mono ?_
  rintro e w2 ⟨s, A, c, t, x, Aw, cw, rfl, hQ⟩
  have HB2 := Lib.hid (Below.step HB1.out hQ.be HB1.out.size)
  have K0 := Lib.hid (show VW w1 5 s A t x Aw cw w2 from ⟨hQ, HE.out.below HB2.out⟩)
  have hck := hQ.chk (by omega)
  have HR := Lib.hid hQ.right
  have hcap := hQ.cap
  rcases bmsg_cases hQ.right hQ.lt hck with ⟨hl, he⟩ | ⟨hl, he, hlen⟩
  · have hlk := lookP_zero hQ.right (nth (bmsg s t x))
    have hlz : (bmsg s t x).length = 0 := by rw [he]; rfl
    have hrow := hQ.row.row
    rw [hlz] at hrow hcap ⊢
    have HRW := Lib.hid hrow
    have HLK := Lib.hid hlk
    clear hQ hck hl he hlz hrow hlk
    go_wp2_with fail
    refine (vcheck_any s A c Aw 0 cw _ _ K0.out.mw.sat HRW.out (Nat.zero_le _)).mono ?_
    rintro e w3 ⟨rfl, hb⟩
    rw [HLK.out, enc_code1 21 (by decide)]
    have K1 := Lib.hid (K0.out.below hb)
    clear hb
    go_wp2_with fail
    refine (top_one 21 (by decide) _ K1.out.et).mono ?_
    rintro e w4 ⟨rfl, hb⟩
    have K2 := Lib.hid (K1.out.below hb)
    clear hb
    go_wp2_with fail
    refine (visits_any s A c Aw 0 cw (nth (bmsg s t x)) _ K2.out.mw.sat ⟨fun j hj => absurd hj (Nat.not_lt_zero j), fun h => absurd h (Nat.lt_irrefl 0)⟩ (Nat.zero_le _)).mono ?_
    rintro e w5 ⟨rfl, hb⟩
    rw [HLK.out]
    have K3 := Lib.hid (K2.out.below hb)
    have HB5 := Lib.hid (Below.step HB1.out K3.out.mw.be HB1.out.size)
    clear hb
    go_wp2
    go_ret
    exact ⟨rfl, HB5.out⟩
  · have hlk := lookP_built hQ.right hQ.lt hck hl
    rw [he] at hcap
    obtain ⟨M, hM⟩ : ∃ M, wds true x = M := ⟨_, rfl⟩
    rw [hM] at hlk hl hlen
    have hml : (bmsg s t x).length = 1 + M := by rw [he]; exact hlen
    have hrow := hQ.row.row
    rw [hml, he] at hrow
    rw [hlen] at hcap
    rw [hml]
    have HRW := Lib.hid hrow
    have HLK := Lib.hid hlk
    have hm0 : ((1 + M : Nat) : Int) ≠ 0 := by omega
    have d0 : (((1 + M : Nat) : Int) == 0) = false := by simpa using hm0
    obtain ⟨NN, hNN⟩ : ∃ NN, 1 + M = NN := ⟨_, rfl⟩
    rw [hNN] at HRW HLK d0 hcap ⊢
    have hMN : M = NN - 1 := by omega
    have hNN1 : 1 ≤ NN ∧ NN ≤ 200 := by omega
    have HMN := Lib.hid hMN
    clear hQ hck hl he hrow hlk hlen hml hM hm0 hNN hMN
    go_wp2_with fail
    refine (vcheck_any s A c Aw NN cw _ _ K0.out.mw.sat HRW.out hcap).mono ?_
    rintro e w3 ⟨rfl, hb⟩
    rw [HLK.out, show Cs.enc (([], M) : List (Int × Int) × Nat).1 = .nilIface from rfl]
    have K1 := Lib.hid (K0.out.below hb)
    have HR1 := Lib.hid (HRW.out.below hb)
    clear hb HRW
    go_wp2_with fail
    refine (top_none _ K1.out.et).mono ?_
    rintro e w4 ⟨rfl, hb⟩
    have K2 := Lib.hid (K1.out.below hb)
    have HR2 := Lib.hid (HR1.out.below hb)
    clear hb HR1
    go_wp2_with fail
    refine (visits_any s A c Aw NN cw _ _ K2.out.mw.sat HR2.out hcap).mono ?_
    rintro e w5 ⟨rfl, hb⟩
    rw [HLK.out]
    have K3 := Lib.hid (K2.out.below hb)
    have HB5 := Lib.hid (Below.step HB1.out K3.out.mw.be HB1.out.size)
    have dM : ((M : Int) == ((NN : Int) - 1)) = true := by have := HMN.out; simp; omega
    clear hb
    go_wp2
    go_ret
    exact ⟨ret_bool (by first | rfl | exact dM | simpa using dM), HB5.out⟩

end Go.Proofs.YthcachmcjekckaaDoor
