/- BuildApart: the counting's walk. -/
import Derived.Test.YtifbaphfjamdlaaDoorBCount
namespace Go.Proofs.YtifbaphfjamdlaaDoor
open Go.ChangeShapes Go.WideShapes Go.ChangeAt Go.RowKit
theorem CountC.go {s : Sch} {A : Option Addr} {c : Nat} {Ws : World} {wl : List Nat} {Aw : Option Addr} {cw qi ci n N : Nat} (hN : wl.length = N) (IH : CountC s A c Ws wl Aw cw qi ci n) {W0 : World} {G : Nat → Nat} {fq : Nat} {κ : Int} {τ' : Nat} {W : World} (H : Hid (CF Ws W0 qi N G fq κ τ' W)) (τ : Nat) (x : Tr) (a q : Nat) (ai left : Int) (G' : Nat → Nat) (ht : τ < s.n) (hc : chk s (n + 1) τ x = 0) (hst : StAt s wl n τ x a q) (h1 : ai ≤ a) (h2 : a ≤ ai) (ha : 1 ≤ a) (hl : (n : Int) + 1 ≤ left) (hl2 : left ≤ 100) (hz : Zr G a x.kl (a + x.kl + q) (refsN s n τ x x.kl)) (hG : setR G a x.kl (a + x.kl + q) (refsN s n τ x x.kl) = G') :
    Calls Tryd.prog 25 #[.slice A s.n c, .int .i64 (τ : Int), .slice Aw N cw, .int .i64 ai, .slice (some ⟨qi, 0, none⟩) N ci, .int .i64 left] W fun e W' => e = .returned (.bool true) ∧ Hid (CF Ws W0 qi N G' fq κ τ' W') := by
  subst hN
  exact (IH τ x a q ai left G W ht hc hst h1 h2 ha hl hl2 hz ⟨H.out.ci.row, H.out.ci.wb, ButP.refl _ _⟩).mono fun _ _ ⟨he, h⟩ => ⟨he, Lib.hid ((H.out.step h).congr hG)⟩

set_option maxRecDepth 100000 in
set_option maxHeartbeats 16000000 in
theorem counts_any (s : Sch) (hR : RightS s) (A : Option Addr) (c : Nat) (Ws : World) (hs : SAt Ws A s) (wl : List Nat) (Aw : Option Addr) (cw qi ci : Nat) (hw : WRow Ws Aw wl.length (nth wl)) (hN : wl.length ≤ 200) (hqi : Ws.heap.size ≤ qi) (n : Nat) (hIH : ∀ m, n = m + 1 → CountC s A c Ws wl Aw cw qi ci m) : CountC s A c Ws wl Aw cw qi ci n := by
  intro t x a q ai left G W ht hck hst ha1 ha2 ha hl1 hl2 hz hci
  obtain rfl : ai = (a : Int) := by omega
  clear ha1 ha2
  have HIH := Lib.hid hIH
  have HR := Lib.hid hR
  have HS := Lib.hid hs
  have HW := Lib.hid hw
  have HST := Lib.hid hst
  have HZ := Lib.hid hz
  have HCI := Lib.hid hci
  obtain ⟨e0, he0, hso, hkk⟩ := chk_inv hck
  obtain rfl : n = e0 := by omega
  have HKK := Lib.hid hkk
  have hkl : x.kl = s.len t := hso.2.2.2
  have hl1' := (hR.2.2 t ht).1
  have hl6 := (hR.2.2 t ht).2.1
  have hown := hst.1.le (by rw [ownWs_len, fdsX_len]; omega)
  rw [ownWs_len, fdsX_len] at hown
  obtain ⟨bs, os, rfl, hbs, hcs⟩ := hs.some_ (by omega)
  obtain ⟨Ai, cti, hct, hfr⟩ := hcs t ht
  obtain ⟨bf, of, rfl, hbf, hcf⟩ := hfr.some_ (by omega)
  obtain ⟨bw, ow, rfl, hbw, hcw⟩ := hw.some_ (by omega)
  have HCS := Lib.hid hcs
  have HCF := Lib.hid hcf
  have HCT := Lib.hid hct
  have HCW := Lib.hid hcw
  obtain ⟨N, HNN⟩ : ∃ N, Hid (wl.length = N) := ⟨_, Lib.hid rfl⟩
  obtain ⟨r, HRR⟩ : ∃ r, Hid (a + x.kl + q = r) := ⟨_, Lib.hid rfl⟩
  obtain ⟨LL, HLL⟩ : ∃ LL, Hid (s.len t = LL) := ⟨_, Lib.hid rfl⟩
  have HKL := Lib.hid hkl
  rw [HLL.out] at HCT HCF HKL hl1' hl6
  rw [HRR.out] at HZ ⊢
  rw [HNN.out] at HCI HCW hN hown ⊢
  have hkl2 : x.kl = LL := HKL.out
  have hc1 := (hci.wb.cell (p := ⟨bs, os + t, none⟩) hbs).trans HCT.out
  have d1 : (left == 0) = false := by simp; omega
  have d1' : (left = 0) = False := by simp; omega
  have d2 : decide ((a : Int) < 1) = false := decide_eq_false (by omega)
  have d2' : decide (a < 1) = false := decide_eq_false (by omega)
  have d2'' : decide (a = 0) = false := decide_eq_false (by omega)
  have d3 : decide ((N : Int) < (a : Int) + (LL : Int)) = false := decide_eq_false (by omega)
  have d3' : decide (N < a + LL) = false := decide_eq_false (by omega)
  have hw3 : IntKind.i64.wrap ((a : Int) + (LL : Int)) = (a : Int) + (LL : Int) := IntWalk.i64_in _ (by omega)
  have ht0 : (0 : Int) ≤ (t : Int) := by omega
  clear hIH hR hs hw hst hz hci hck hso hkk hkl hcs hct hfr hcf hcw
  go_enter Tryd.func25, Tryd.ntmps25
  go_wp2
  clear hc1 d1 d1' d2 d2' d2'' d3 d3' hw3
  go_loopw [13] (fun iv wr => ∃ i : Nat, i ≤ x.kl ∧ iv = .int .i64 i ∧ Hid (CI Ws W qi N (setR G a i r (refsN s n t x i)) wr)) (fun iv _ => x.kl - (intOf iv).toNat)
  case atStart => exact ⟨0, by omega, rfl, Lib.hid (HCI.out.congr (setR_zero G a r).symm)⟩
  case round =>
    clear HCI
    obtain ⟨i, hi, rfl, HC⟩ := hrel
    have v1 := (HC.out.wb.cell (p := ⟨bs, os + t, none⟩) hbs).trans HCT.out
    by_cases hi1 : i < x.kl
    · have hil : i < LL := by omega
      have hils : i < s.len t := by rw [HLL.out]; exact hil
      have HFD := Lib.hid (HST.out.field hi1)
      rw [HRR.out] at HFD
      have HK := Lib.hid (HKK.out i hi1)
      obtain ⟨fk1, fk2⟩ := HCF.out i hil
      have u1 := (HC.out.wb.cell (p := ⟨bf, of + i * 2, none⟩) hbf).trans fk1
      have u2 := (HC.out.wb.cell (p := ⟨bf, of + i * 2 + 1, none⟩) hbf).trans fk2
      have hfd := HR.out.field ht hils
      obtain ⟨τ, HTT⟩ : ∃ τ, Hid ((s.t t i).toNat = τ) := ⟨_, Lib.hid rfl⟩
      have htl : τ < s.n := by rw [← HTT.out]; exact HR.out.tlt ht hils
      have htv : s.t t i = (τ : Int) := by rw [← HTT.out]; omega
      obtain ⟨κ, HKP⟩ : ∃ κ, Hid (s.k t i = κ) := ⟨_, Lib.hid rfl⟩
      rw [HKP.out] at u1 HFD HK hfd
      rw [htv] at u2
      rw [HTT.out] at HFD HK
      clear htv
      obtain ⟨y, HY⟩ : ∃ y, Hid (x.kf i = y) := ⟨_, Lib.hid rfl⟩
      rw [HY.out] at HFD HK
      have hnle := fd_n_le (f := ⟨κ, τ, y⟩) HK.out.1
      have w1 := (HC.out.wb.cell (p := ⟨bw, ow + (a + i), none⟩) hbw).trans (HCW.out (a + i) (by omega))
      have hz0 : setR G a i r (refsN s n t x i) (a + i) = 0 := by
        unfold setR
        rw [if_neg (by have := HRR.out; omega)]
        exact HZ.out (a + i) (.inl (by omega))
      have i0 := HC.out.row.cell (i := a + i) (by omega)
      rw [hz0] at i0
      have if0 := HC.out.row.frozen (a + i)
      have hqlt := HC.out.row.lt
      have HP := Lib.hid (HC.out.put hqi (a + i) (setR_own G a i r (refsN s n t x i)))
      have hd1 : decide ((i : Int) < (LL : Int)) = true := decide_eq_true (by omega)
      have hd1' : decide (i < LL) = true := decide_eq_true hil
      have q1 : (0 : Int) ≤ (i : Int) := by omega
      have q2 : (i : Int) < (LL : Int) := by omega
      have q3 : (0 : Int) ≤ (a : Int) + (i : Int) := by omega
      have q4 : (a : Int) + (i : Int) < (N : Int) := by omega
      have hw4 : IntKind.i64.wrap ((a : Int) + (i : Int)) = (a : Int) + (i : Int) := IntWalk.i64_in _ (by omega)
      have hnq1 : bs ≠ qi := by omega
      have hnq2 : bf ≠ qi := by omega
      have hnq3 : bw ≠ qi := by omega
      have hwsz := HC.out.wb.size
      have hnq4 : bw ≠ wr.heap.size := by omega
      have hnq5 : bw < wr.heap.size := by omega
      have HF0 : Hid (CF Ws W qi N (setR G a (i + 1) r (refsN s n t x i)) wr.heap.size κ τ ((wr.setCell ⟨qi, a + i, none⟩ (.int .i64 1)).alloc (.cells #[.int .i64 κ, .int .i64 (τ : Int)] 55))) := Lib.hid (by
        have hsz : (wr.setCell ⟨qi, a + i, none⟩ (.int .i64 1)).heap.size = wr.heap.size := by simp
        have hb := fld_box (wr.setCell ⟨qi, a + i, none⟩ (.int .i64 1)) κ τ
        rw [hsz] at hb
        exact ⟨HP.out.below ((Below.refl _ _).alloc (Nat.le_refl _) _), hb, by omega⟩)
      obtain ⟨U, HU⟩ : ∃ U, Hid (nth wl (a + i) = U) := ⟨_, Lib.hid rfl⟩
      rw [HU.out] at w1 HFD
      by_cases hcont : κ = 1 ∨ (⟨κ, τ, y⟩ : Fd).n = 0
      · have hnil := fd_none (pc := piece s n) (f := ⟨κ, τ, y⟩) HK.out.1 hcont (fun _ _ => piece_zero _ _ _ _)
        have HNX : Hid (CI Ws W qi N (setR G a (i + 1) r (refsN s n t x (i + 1))) ((wr.setCell ⟨qi, a + i, none⟩ (.int .i64 1)).alloc (.cells #[.int .i64 κ, .int .i64 (τ : Int)] 55))) := Lib.hid (by
          have e := HFD.out.2.2.1
          rw [hnil, List.length_nil, Nat.add_zero] at e
          rw [e]; exact HF0.out.ci)
        by_cases hk1 : κ = 1
        · subst hk1
          clear hcont hnil hfd hnle HF0 HP w1 hz0
          go_wp2
          go_roundw
          case rel => exact ⟨i + 1, by omega, by go_num, HNX⟩
          case measure => simp [intOf]; omega
        · have hU0 : U = 0 := by rw [HFD.out.1]; exact fd_word (f := ⟨κ, τ, y⟩) HK.out.1 hk1 (by omega)
          subst hU0
          have hk1b : (κ == 1) = false := by simp; exact hk1
          have hk1c : (κ = 1) = False := eq_false hk1
          clear hcont hnil hfd hnle HF0 HP hz0
          go_wp2
          go_roundw
          case rel => exact ⟨i + 1, by omega, by go_num, HNX⟩
          case measure => simp [intOf]; omega
      · have hk1 : κ ≠ 1 := fun e => hcont (.inl e)
        have hn0 : 0 < (⟨κ, τ, y⟩ : Fd).n := by
          by_cases e : (⟨κ, τ, y⟩ : Fd).n = 0
          · exact absurd (.inr e) hcont
          · omega
        have hfl := HFD.out.2.1
        have hlen0 : 0 < (fpc (piece s n) ⟨κ, τ, y⟩).length := fpc_pos HR.out (f := ⟨κ, τ, y⟩) HK.out.1 HK.out.2 htl hn0
        have hto := hfl.le hlen0
        rw [HNN.out] at hto
        obtain ⟨S, HSS⟩ : ∃ S, Hid (refsN s n t x i = S) := ⟨_, Lib.hid rfl⟩
        obtain ⟨o, HOO⟩ : ∃ o, Hid (x.kl - i + q + refsN s n t x i = o) := ⟨_, Lib.hid rfl⟩
        obtain ⟨nn, HNF⟩ : ∃ nn, Hid ((⟨κ, τ, y⟩ : Fd).n = nn) := ⟨_, Lib.hid rfl⟩
        obtain ⟨T, HT⟩ : ∃ T, Hid (r + refsN s n t x i = T) := ⟨_, Lib.hid rfl⟩
        have hT0 : r + S = T := by rw [← HSS.out]; exact HT.out
        have hTo : a + i + o = T := by have h1 := HOO.out; have h2 := HT.out; have h3 := HRR.out; omega
        have hTN : T ≤ N := by have h2 := HT.out; omega
        have hT2 : T ≤ 200 := by omega
        obtain ⟨p1, p2, p3, p4⟩ := fd_ref (f := ⟨κ, τ, y⟩) (o := o) hn0 (by omega) (by omega)
        rw [HNF.out] at p1 p2 p3 p4 hn0 hnle
        have hUe : U = refN (o : Int) (nn : Int) := by rw [HFD.out.1, HOO.out]; exact p1
        rw [← hUe] at p2 p3 p4
        have HUL : Hid (U < 18446744073709551616) := Lib.hid (by rw [hUe]; exact refN_lt _ _)
        have HP2 : Hid (((U % 4294967296 : Nat) : Int) = (o : Int)) := Lib.hid (by rw [p2])
        have HP3 : Hid (((U / 4294967296 : Nat) : Int) = (nn : Int)) := Lib.hid (by rw [p3])
        have hub : ((U : Int) == 0) = false := by simp; omega
        have hub' : ((U : Int) = 0) = False := by simp; omega
        have hub'' : (U = 0) = False := by simp; omega
        have hkb : (κ == 1) = false := by simp; exact hk1
        have hkb' : (κ = 1) = False := eq_false hk1
        have hsum : (a : Int) + (i : Int) + (o : Int) = (T : Int) := by omega
        have hwT : IntKind.i64.wrap (T : Int) = (T : Int) := IntWalk.i64_in _ (by omega)
        have e1 : decide ((200 : Int) < (o : Int)) = false := decide_eq_false (by omega)
        have e1' : decide (200 < o) = false := decide_eq_false (by omega)
        have e2 : decide ((200 : Int) < (nn : Int)) = false := decide_eq_false (by omega)
        have e2' : decide (200 < nn) = false := decide_eq_false (by omega)
        have e3 : decide ((N : Int) < (T : Int)) = false := decide_eq_false (by omega)
        have e3' : decide (N < T) = false := decide_eq_false (by omega)
        have HTOT : Hid (refsN s n t x (i + 1) = S + (fpc (piece s n) ⟨κ, τ, y⟩).length ∧ S + (fpc (piece s n) ⟨κ, τ, y⟩).length ≤ refsN s n t x x.kl) := Lib.hid (by
          have h1 := HFD.out.2.2
          rw [HSS.out] at h1
          exact ⟨h1.1, Nat.le_trans (Nat.le_of_eq h1.1.symm) h1.2⟩)
        have HFP := Lib.hid hfl
        rw [show r + refsN s n t x i = T from HT.out] at hto HFP
        rw [HSS.out] at HF0
        obtain ⟨FL, HFL⟩ : ∃ FL, Hid ((fpc (piece s n) ⟨κ, τ, y⟩).length = FL) := ⟨_, Lib.hid rfl⟩
        rw [HFL.out] at hto HTOT hlen0
        have hra : a + x.kl ≤ r := by have := HRR.out; omega
        clear hcont HP hz0 p1 p2 p3 p4 hUe hfl HOO HT
        obtain rfl | rfl | rfl | rfl : κ = 2 ∨ κ = 3 ∨ κ = 4 ∨ κ = 5 := by omega
        · have hcn : FL = cnt nn := by rw [← HFL.out, ← HNF.out]; exact wordsB_length _
          have hdiv : ((nn : Int) + 7) / 8 = (FL : Int) := by rw [hcn]; unfold cnt; omega
          have hdiv2 : ((nn : Int) + 7).tdiv 8 = (FL : Int) := by rw [← hdiv]; exact Int.tdiv_eq_ediv_of_nonneg (by omega)
          clear hcn hfd
          go_wp2_with fail
          refine (bpart_any U HUL.out _).mono ?_
          rintro e w' ⟨rfl, rfl⟩
          rw [HP2.out, HP3.out]
          have bx0 := HF0.out.box.cell (i := 0) (by omega)
          simp only [if_true] at bx0
          go_wp2
          clear bx0 e1 e1' e2 e2' e3 e3' hub hub' hub'' hkb hkb' hsum hwT w1 u1 u2 i0 v1 hd1 hd1'
          go_loopw [18] (fun jv wr => ∃ j : Nat, j ≤ FL ∧ jv = .int .i64 j ∧ Hid (CI Ws W qi N (setR G a (i + 1) r (S + j)) wr)) (fun jv _ => FL - (intOf jv).toNat)
          case atStart => exact ⟨0, by omega, rfl, Lib.hid HF0.out.ci⟩
          case round =>
            clear HF0
            obtain ⟨j, hj, rfl, HJ⟩ := hrel
            by_cases hj1 : j < FL
            · have z0 : setR G a (i + 1) r (S + j) (T + j) = 0 := by
                unfold setR
                rw [if_neg (by omega)]
                exact HZ.out (T + j) (.inr (by have := HTOT.out; omega))
              have j0 := HJ.out.row.cell (i := T + j) (by omega)
              rw [z0] at j0
              have jf := HJ.out.row.frozen (T + j)
              have HJP := Lib.hid (HJ.out.put hqi (T + j) (G' := setR G a (i + 1) r (S + j + 1)) (fun k => by rw [show T + j = r + (S + j) by omega]; exact setR_ref G a (i + 1) r (S + j) k))
              have f1 : decide ((N : Int) ≤ (T : Int) + (j : Int)) = false := decide_eq_false (by omega)
              have f1' : decide (N ≤ T + j) = false := decide_eq_false (by omega)
              have f2 : decide ((j : Int) < (FL : Int)) = true := decide_eq_true (by omega)
              have f2' : decide (j < FL) = true := decide_eq_true hj1
              have f3 : (0 : Int) ≤ (T : Int) + (j : Int) := by omega
              have f4 : (T : Int) + (j : Int) < (N : Int) := by omega
              clear z0
              go_wp2
              go_roundw
              case rel => exact ⟨j + 1, by omega, by go_num, HJP⟩
              case measure => simp [intOf]; omega
            · have e : j = FL := by omega
              subst e
              have f2 : decide ((j : Int) < (j : Int)) = false := decide_eq_false (by omega)
              go_wp2
              go_roundw
              case rel => exact ⟨i + 1, by omega, by go_num, Lib.hid (by rw [HTOT.out.1]; exact HJ.out)⟩
              case measure => simp [intOf]; omega
        · have hcn : FL = nn := by rw [← HFL.out, ← HNF.out]; exact numsL_length _
          subst hcn
          clear hfd
          go_wp2_with fail
          refine (bpart_any U HUL.out _).mono ?_
          rintro e w' ⟨rfl, rfl⟩
          rw [HP2.out, HP3.out]
          have bx0 := HF0.out.box.cell (i := 0) (by omega)
          simp only [if_true] at bx0
          go_wp2
          clear bx0 e1 e1' e2 e2' e3 e3' hub hub' hub'' hkb hkb' hsum hwT w1 u1 u2 i0 v1 hd1 hd1'
          go_loopw [18] (fun jv wr => ∃ j : Nat, j ≤ FL ∧ jv = .int .i64 j ∧ Hid (CI Ws W qi N (setR G a (i + 1) r (S + j)) wr)) (fun jv _ => FL - (intOf jv).toNat)
          case atStart => exact ⟨0, by omega, rfl, Lib.hid HF0.out.ci⟩
          case round =>
            clear HF0
            obtain ⟨j, hj, rfl, HJ⟩ := hrel
            by_cases hj1 : j < FL
            · have z0 : setR G a (i + 1) r (S + j) (T + j) = 0 := by
                unfold setR
                rw [if_neg (by omega)]
                exact HZ.out (T + j) (.inr (by have := HTOT.out; omega))
              have j0 := HJ.out.row.cell (i := T + j) (by omega)
              rw [z0] at j0
              have jf := HJ.out.row.frozen (T + j)
              have HJP := Lib.hid (HJ.out.put hqi (T + j) (G' := setR G a (i + 1) r (S + j + 1)) (fun k => by rw [show T + j = r + (S + j) by omega]; exact setR_ref G a (i + 1) r (S + j) k))
              have f1 : decide ((N : Int) ≤ (T : Int) + (j : Int)) = false := decide_eq_false (by omega)
              have f1' : decide (N ≤ T + j) = false := decide_eq_false (by omega)
              have f2 : decide ((j : Int) < (FL : Int)) = true := decide_eq_true (by omega)
              have f2' : decide (j < FL) = true := decide_eq_true hj1
              have f3 : (0 : Int) ≤ (T : Int) + (j : Int) := by omega
              have f4 : (T : Int) + (j : Int) < (N : Int) := by omega
              clear z0
              go_wp2
              go_roundw
              case rel => exact ⟨j + 1, by omega, by go_num, HJP⟩
              case measure => simp [intOf]; omega
            · have e : j = FL := by omega
              subst e
              have f2 : decide ((j : Int) < (j : Int)) = false := decide_eq_false (by omega)
              go_wp2
              go_roundw
              case rel => exact ⟨i + 1, by omega, by go_num, Lib.hid (by rw [HTOT.out.1]; exact HJ.out)⟩
              case measure => simp [intOf]; omega
        · skip
          have hFC : FL = (piece s n τ y.kl y.kf).length := by rw [← HFL.out]; rfl
          have HPC : Hid (AtL wl T (piece s n τ y.kl y.kf)) := Lib.hid HFP.out
          have hK0 : y.kl = nn := by rw [← HNF.out]; rfl
          subst hK0
          obtain ⟨m, hnm, -, -⟩ := chk_inv (HK.out.2 0 hn0)
          subst hnm
          have HIM := Lib.hid (HIH.out m rfl)
          obtain ⟨F, HF⟩ : ∃ F, Hid (s.len τ = F) := ⟨_, Lib.hid rfl⟩
          have HKF : Hid (∀ j, j < y.kl → (y.kf j).kl = F) := Lib.hid fun j hj => by
            obtain ⟨_, _, hso, _⟩ := chk_inv (HK.out.2 j hj)
            rw [hso.2.2.2, HF.out]
          have HFLK : Hid (FL = y.kl * F + refsK s m τ y.kf y.kl) := Lib.hid (by rw [hFC, piece_len HKF.out])
          obtain ⟨Aτ, ctτ, hcτ, -⟩ := HCS.out τ htl
          rw [HF.out] at hcτ
          have HCTT := Lib.hid hcτ
          have hF6 : F ≤ 6 := by rw [← HF.out]; exact (HR.out.2.2 τ htl).2.1
          clear hcτ hFC hfd
          go_wp2_with fail
          refine (bpart_any U HUL.out _).mono ?_
          rintro e w' ⟨rfl, rfl⟩
          rw [HP2.out, HP3.out]
          have bx0 := HF0.out.box.cell (i := 0) (by omega)
          simp only [if_true] at bx0
          go_wp2
          clear bx0 e1 e1' e2 e2' e3 e3' hub hub' hub'' hkb hkb' hsum hwT w1 u1 u2 i0 v1 hd1 hd1'
          have hfq : wr.heap.size ≠ qi := HF0.out.ne
          have HG0 : Hid (CF Ws W qi N (setR (setR G a (i + 1) r S) T 0 (T + y.kl * F) 0) wr.heap.size 4 τ ((wr.setCell ⟨qi, a + i, none⟩ (.int .i64 1)).alloc (.cells #[.int .i64 4, .int .i64 (τ : Int)] 55))) := Lib.hid (HF0.out.congr (setR_zero _ _ _).symm)
          clear HF0
          generalize wr.heap.size = fq at HG0 hfq ⊢
          generalize (wr.setCell ⟨qi, a + i, none⟩ (.int .i64 1)).alloc (.cells #[.int .i64 4, .int .i64 (τ : Int)] 55) = Wq at HG0 ⊢
          go_loopw [19] (fun jv wr => ∃ j : Nat, j ≤ y.kl ∧ jv = .int .i64 j ∧ Hid (CF Ws W qi N (setR (setR G a (i + 1) r S) T (j * F) (T + y.kl * F) (refsK s m τ y.kf j)) fq 4 τ wr)) (fun jv _ => y.kl - (intOf jv).toNat)
          case atStart => exact ⟨0, by omega, rfl, by rw [Nat.zero_mul]; exact HG0⟩
          case round =>
            clear HG0
            obtain ⟨j, hj, rfl, HJ⟩ := hrel
            by_cases hj1 : j < y.kl
            · have f2 : decide ((j : Int) < (y.kl : Int)) = true := decide_eq_true (by omega)
              have f2' : decide (j < y.kl) = true := decide_eq_true hj1
              have hstj := HPC.out.struct HKF.out hj1
              have hkj := HKF.out j hj1
              have hsj : (j + 1) * F = j * F + F := Nat.succ_mul j F
              have hle : (j + 1) * F ≤ y.kl * F := Nat.mul_le_mul_right _ (by omega)
              have hrk := refsK_le (s := s) (n := m) (t := τ) (kf := y.kf) (show j + 1 ≤ y.kl from hj1)
              rw [refsK_succ] at hrk
              have hj12 : j ≤ 40 := by omega
              have HZJ : Hid (Zr (setR (setR G a (i + 1) r S) T (j * F) (T + y.kl * F) (refsK s m τ y.kf j)) (T + j * F) (y.kf j).kl (T + j * F + (y.kf j).kl + (y.kl * F - (j + 1) * F + refsK s m τ y.kf j)) (refsN s m τ (y.kf j) (y.kf j).kl)) := Lib.hid (by
                intro k hk
                rw [hkj] at hk
                have h1 := HTOT.out.2
                have h2 := HFLK.out
                have h3 := hrk
                rw [hkj] at h3
                rw [show T + j * F + F + (y.kl * F - (j + 1) * F + refsK s m τ y.kf j) = T + y.kl * F + refsK s m τ y.kf j by omega] at hk
                unfold setR
                rw [if_neg (by omega), if_neg (by omega)]
                exact HZ.out k (.inr (by omega)))
              have HGJ : Hid (setR (setR (setR G a (i + 1) r S) T (j * F) (T + y.kl * F) (refsK s m τ y.kf j)) (T + j * F) (y.kf j).kl (T + j * F + (y.kf j).kl + (y.kl * F - (j + 1) * F + refsK s m τ y.kf j)) (refsN s m τ (y.kf j) (y.kf j).kl) = setR (setR G a (i + 1) r S) T ((j + 1) * F) (T + y.kl * F) (refsK s m τ y.kf (j + 1))) := Lib.hid (by
                have e5 : T + j * F + (y.kf j).kl + (y.kl * F - (j + 1) * F + refsK s m τ y.kf j) = T + y.kl * F + refsK s m τ y.kf j := by rw [hkj]; omega
                have e6 := setR_kid (setR G a (i + 1) r S) T (j * F) (T + y.kl * F) (refsK s m τ y.kf j) (y.kf j).kl (refsN s m τ (y.kf j) (y.kf j).kl)
                rw [e5, e6, hkj, ← hsj, refsK_succ, hkj])
              have HSTJ := Lib.hid hstj
              obtain ⟨P, HPP⟩ : ∃ P, Hid (j * F = P) := ⟨_, Lib.hid rfl⟩
              have hP : (j : Int) * (F : Int) = (P : Int) := by rw [← HPP.out]; exact (Int.natCast_mul j F).symm
              have hPle : P + F + T ≤ 200 := by
                have h1 := HFLK.out
                rw [← HPP.out]; omega
              rw [HPP.out] at HSTJ HZJ HJ HGJ
              have HCJ := Lib.hid (HK.out.2 j hj1)
              clear hstj hkj hsj hle hrk
              go_wp2_with fail
              have HJD := Lib.hid (HJ.out.below (Below.refl _ _).drew)
              clear HJ
              have g1 : (0 : Int) ≤ (τ : Int) := by omega
              have g2 : (τ : Int) < (s.n : Int) := by omega
              have hwP : IntKind.i64.wrap (P : Int) = (P : Int) := IntWalk.i64_in _ (by omega)
              have hwTP : IntKind.i64.wrap ((T : Int) + (P : Int)) = (T : Int) + (P : Int) := IntWalk.i64_in _ (by omega)
              have hwl1 : IntKind.i64.wrap (left - 1) = left - 1 := IntWalk.i64_in _ (by omega)
              go_region_held3 (fun w' => w'.cell? ⟨fq, 1, none⟩ = some (.int .i64 (τ : Int)) ∧ w'.cell? ⟨bs, os + τ, none⟩ = some (.slice Aτ F ctτ))
                (first | exact HJD.out.cells hbs HCTT.out | exact HJN.out.cells hbs HCTT.out | fail)
                (first
                  | (go_at_call 25; (with_reducible refine (CountC.go HNN.out HIM.out HJD τ (y.kf j) (T + P) _ _ _ _ htl HCJ.out HSTJ.out (by omega) (by omega) (by omega) (by omega) (by omega) HZJ.out HGJ.out).mono ?_); rintro e w5 ⟨rfl, HJN⟩) | fail)
              all_goals
                go_wp2
                go_roundw
                case rel => exact ⟨j + 1, by omega, by go_num, HJN⟩
                case measure => simp [intOf]; omega
            · have e : j = y.kl := by omega
              subst e
              have f2 : decide ((y.kl : Int) < (y.kl : Int)) = false := decide_eq_false (by omega)
              go_wp2
              go_roundw
              case rel => exact ⟨i + 1, by omega, by go_num, Lib.hid (HJ.out.ci.congr (by rw [HTOT.out.1, HFLK.out]; have h5 := setR_kids G a (i + 1) r S (y.kl * F) (refsK s m τ y.kf y.kl); rw [hT0] at h5; exact h5))⟩
              case measure => simp [intOf]; omega
        · skip
          have hFC : FL = (piece s n τ y.kl y.kf).length := by rw [← HFL.out]; rfl
          have HPC : Hid (AtL wl T (piece s n τ y.kl y.kf)) := Lib.hid HFP.out
          have hK0 : y.kl = nn := by rw [← HNF.out]; rfl
          subst hK0
          obtain ⟨m, hnm, -, -⟩ := chk_inv (HK.out.2 0 hn0)
          subst hnm
          have HIM := Lib.hid (HIH.out m rfl)
          obtain ⟨F, HF⟩ : ∃ F, Hid (s.len τ = F) := ⟨_, Lib.hid rfl⟩
          have HKF : Hid (∀ j, j < y.kl → (y.kf j).kl = F) := Lib.hid fun j hj => by
            obtain ⟨_, _, hso, _⟩ := chk_inv (HK.out.2 j hj)
            rw [hso.2.2.2, HF.out]
          have HFLK : Hid (FL = y.kl * F + refsK s m τ y.kf y.kl) := Lib.hid (by rw [hFC, piece_len HKF.out])
          obtain ⟨Aτ, ctτ, hcτ, -⟩ := HCS.out τ htl
          rw [HF.out] at hcτ
          have HCTT := Lib.hid hcτ
          have hF6 : F ≤ 6 := by rw [← HF.out]; exact (HR.out.2.2 τ htl).2.1
          clear hcτ hFC hfd
          go_wp2_with fail
          refine (bpart_any U HUL.out _).mono ?_
          rintro e w' ⟨rfl, rfl⟩
          rw [HP2.out, HP3.out]
          have bx0 := HF0.out.box.cell (i := 0) (by omega)
          simp only [if_true] at bx0
          go_wp2
          clear bx0 e1 e1' e2 e2' e3 e3' hub hub' hub'' hkb hkb' hsum hwT w1 u1 u2 i0 v1 hd1 hd1'
          have hfq : wr.heap.size ≠ qi := HF0.out.ne
          have HG0 : Hid (CF Ws W qi N (setR (setR G a (i + 1) r S) T 0 (T + y.kl * F) 0) wr.heap.size 5 τ ((wr.setCell ⟨qi, a + i, none⟩ (.int .i64 1)).alloc (.cells #[.int .i64 5, .int .i64 (τ : Int)] 55))) := Lib.hid (HF0.out.congr (setR_zero _ _ _).symm)
          clear HF0
          generalize wr.heap.size = fq at HG0 hfq ⊢
          generalize (wr.setCell ⟨qi, a + i, none⟩ (.int .i64 1)).alloc (.cells #[.int .i64 5, .int .i64 (τ : Int)] 55) = Wq at HG0 ⊢
          go_loopw [19] (fun jv wr => ∃ j : Nat, j ≤ y.kl ∧ jv = .int .i64 j ∧ Hid (CF Ws W qi N (setR (setR G a (i + 1) r S) T (j * F) (T + y.kl * F) (refsK s m τ y.kf j)) fq 5 τ wr)) (fun jv _ => y.kl - (intOf jv).toNat)
          case atStart => exact ⟨0, by omega, rfl, by rw [Nat.zero_mul]; exact HG0⟩
          case round =>
            clear HG0
            obtain ⟨j, hj, rfl, HJ⟩ := hrel
            by_cases hj1 : j < y.kl
            · have f2 : decide ((j : Int) < (y.kl : Int)) = true := decide_eq_true (by omega)
              have f2' : decide (j < y.kl) = true := decide_eq_true hj1
              have hstj := HPC.out.struct HKF.out hj1
              have hkj := HKF.out j hj1
              have hsj : (j + 1) * F = j * F + F := Nat.succ_mul j F
              have hle : (j + 1) * F ≤ y.kl * F := Nat.mul_le_mul_right _ (by omega)
              have hrk := refsK_le (s := s) (n := m) (t := τ) (kf := y.kf) (show j + 1 ≤ y.kl from hj1)
              rw [refsK_succ] at hrk
              have hj12 : j ≤ 40 := by omega
              have HZJ : Hid (Zr (setR (setR G a (i + 1) r S) T (j * F) (T + y.kl * F) (refsK s m τ y.kf j)) (T + j * F) (y.kf j).kl (T + j * F + (y.kf j).kl + (y.kl * F - (j + 1) * F + refsK s m τ y.kf j)) (refsN s m τ (y.kf j) (y.kf j).kl)) := Lib.hid (by
                intro k hk
                rw [hkj] at hk
                have h1 := HTOT.out.2
                have h2 := HFLK.out
                have h3 := hrk
                rw [hkj] at h3
                rw [show T + j * F + F + (y.kl * F - (j + 1) * F + refsK s m τ y.kf j) = T + y.kl * F + refsK s m τ y.kf j by omega] at hk
                unfold setR
                rw [if_neg (by omega), if_neg (by omega)]
                exact HZ.out k (.inr (by omega)))
              have HGJ : Hid (setR (setR (setR G a (i + 1) r S) T (j * F) (T + y.kl * F) (refsK s m τ y.kf j)) (T + j * F) (y.kf j).kl (T + j * F + (y.kf j).kl + (y.kl * F - (j + 1) * F + refsK s m τ y.kf j)) (refsN s m τ (y.kf j) (y.kf j).kl) = setR (setR G a (i + 1) r S) T ((j + 1) * F) (T + y.kl * F) (refsK s m τ y.kf (j + 1))) := Lib.hid (by
                have e5 : T + j * F + (y.kf j).kl + (y.kl * F - (j + 1) * F + refsK s m τ y.kf j) = T + y.kl * F + refsK s m τ y.kf j := by rw [hkj]; omega
                have e6 := setR_kid (setR G a (i + 1) r S) T (j * F) (T + y.kl * F) (refsK s m τ y.kf j) (y.kf j).kl (refsN s m τ (y.kf j) (y.kf j).kl)
                rw [e5, e6, hkj, ← hsj, refsK_succ, hkj])
              have HSTJ := Lib.hid hstj
              obtain ⟨P, HPP⟩ : ∃ P, Hid (j * F = P) := ⟨_, Lib.hid rfl⟩
              have hP : (j : Int) * (F : Int) = (P : Int) := by rw [← HPP.out]; exact (Int.natCast_mul j F).symm
              have hPle : P + F + T ≤ 200 := by
                have h1 := HFLK.out
                rw [← HPP.out]; omega
              rw [HPP.out] at HSTJ HZJ HJ HGJ
              have HCJ := Lib.hid (HK.out.2 j hj1)
              clear hstj hkj hsj hle hrk
              go_wp2_with fail
              have HJD := Lib.hid (HJ.out.below (Below.refl _ _).drew)
              clear HJ
              have g1 : (0 : Int) ≤ (τ : Int) := by omega
              have g2 : (τ : Int) < (s.n : Int) := by omega
              have hwP : IntKind.i64.wrap (P : Int) = (P : Int) := IntWalk.i64_in _ (by omega)
              have hwTP : IntKind.i64.wrap ((T : Int) + (P : Int)) = (T : Int) + (P : Int) := IntWalk.i64_in _ (by omega)
              have hwl1 : IntKind.i64.wrap (left - 1) = left - 1 := IntWalk.i64_in _ (by omega)
              go_region_held3 (fun w' => w'.cell? ⟨fq, 1, none⟩ = some (.int .i64 (τ : Int)) ∧ w'.cell? ⟨bs, os + τ, none⟩ = some (.slice Aτ F ctτ))
                (first | exact HJD.out.cells hbs HCTT.out | exact HJN.out.cells hbs HCTT.out | fail)
                (first
                  | (go_at_call 25; (with_reducible refine (CountC.go HNN.out HIM.out HJD τ (y.kf j) (T + P) _ _ _ _ htl HCJ.out HSTJ.out (by omega) (by omega) (by omega) (by omega) (by omega) HZJ.out HGJ.out).mono ?_); rintro e w5 ⟨rfl, HJN⟩) | fail)
              all_goals
                go_wp2
                go_roundw
                case rel => exact ⟨j + 1, by omega, by go_num, HJN⟩
                case measure => simp [intOf]; omega
            · have e : j = y.kl := by omega
              subst e
              have f2 : decide ((y.kl : Int) < (y.kl : Int)) = false := decide_eq_false (by omega)
              go_wp2
              go_roundw
              case rel => exact ⟨i + 1, by omega, by go_num, Lib.hid (HJ.out.ci.congr (by rw [HTOT.out.1, HFLK.out]; have h5 := setR_kids G a (i + 1) r S (y.kl * F) (refsK s m τ y.kf y.kl); rw [hT0] at h5; exact h5))⟩
              case measure => simp [intOf]; omega
    · have e : i = x.kl := by omega
      subst e
      have di : decide ((x.kl : Int) < (LL : Int)) = false := decide_eq_false (by omega)
      have di' : decide (x.kl < LL) = false := decide_eq_false (by omega)
      go_wp2
      go_ret
      exact ⟨rfl, HC.out⟩

end Go.Proofs.YtifbaphfjamdlaaDoor
