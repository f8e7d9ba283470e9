/- The document's fill: the walk. -/
import Derived.Test.YtkhbhkllnigbgaaDoorBFill
import Derived.Deep.RegionHeld3
namespace Go.Proofs.YtkhbhkllnigbgaaDoor
open Go.ChangeShapes Go.WideShapes Go.ChangeAt Go.RowKit
/-- While fields are filled in: the struct's box at xq. -/
structure FX (Ws W : World) (g0 : Nat) (x : Tr) (An : Option Addr) (cn : Nat) (Ak : Option Addr) (ck xq : Nat) (L : List Nat) (g cap : Nat) (W' : World) : Prop where
  fi : FI Ws W g0 L g cap W'
  bx : Cell4 W' xq 0 x An cn Ak ck
  nx : xq ≠ g
  lx : xq < W'.heap.size
theorem FX.step {Ws W : World} {g0 : Nat} {x : Tr} {An : Option Addr} {cn : Nat} {Ak : Option Addr} {ck xq : Nat} {L L2 : List Nat} {g cap g2 cap2 : Nat} {W' W2 : World} (h : FX Ws W g0 x An cn Ak ck xq L g cap W') (k : FI Ws W' g L2 g2 cap2 W2) : FX Ws W g0 x An cn Ak ck xq L2 g2 cap2 W2 :=
  ⟨h.fi.step k, h.bx.of_block (k.fr.block _ h.lx h.nx), by have := h.nx; have := h.lx; rcases k.at_ with e | e <;> omega, Nat.lt_of_lt_of_le h.lx k.fr.size⟩
theorem FX.below {Ws W : World} {g0 : Nat} {x : Tr} {An : Option Addr} {cn : Nat} {Ak : Option Addr} {ck xq : Nat} {L : List Nat} {g cap : Nat} {W' W2 : World} (h : FX Ws W g0 x An cn Ak ck xq L g cap W') (hb : Below W'.heap.size W' W2) : FX Ws W g0 x An cn Ak ck xq L g cap W2 := h.step (h.fi.here.below hb)
/-- .. and a field's box at fq, its tree's at kq. -/
structure FY (Ws W : World) (g0 : Nat) (x : Tr) (An : Option Addr) (cn : Nat) (Ak : Option Addr) (ck xq : Nat) (κ : Int) (τ fq : Nat) (y : Tr) (A1 : Option Addr) (k1 : Nat) (A2 : Option Addr) (k2 kq : Nat) (L : List Nat) (g cap : Nat) (W' : World) : Prop where
  fx : FX Ws W g0 x An cn Ak ck xq L g cap W'
  bf : W'.rowIs fq 95 2 (fun j => if j = 0 then .int .i64 κ else .int .i64 (τ : Int))
  bk : Cell4 W' kq 0 y A1 k1 A2 k2
  nf : fq ≠ g
  nk : kq ≠ g
  lk : kq < W'.heap.size
theorem FY.step {Ws W : World} {g0 : Nat} {x : Tr} {An : Option Addr} {cn : Nat} {Ak : Option Addr} {ck xq : Nat} {κ : Int} {τ fq : Nat} {y : Tr} {A1 : Option Addr} {k1 : Nat} {A2 : Option Addr} {k2 kq : Nat} {L L2 : List Nat} {g cap g2 cap2 : Nat} {W' W2 : World} (h : FY Ws W g0 x An cn Ak ck xq κ τ fq y A1 k1 A2 k2 kq L g cap W') (k : FI Ws W' g L2 g2 cap2 W2) : FY Ws W g0 x An cn Ak ck xq κ τ fq y A1 k1 A2 k2 kq L2 g2 cap2 W2 :=
  ⟨h.fx.step k, h.bf.of_block (k.fr.block _ h.bf.lt h.nf), h.bk.of_block (k.fr.block _ h.lk h.nk), by have := h.nf; have := h.bf.lt; rcases k.at_ with e | e <;> omega, by have := h.nk; have := h.lk; rcases k.at_ with e | e <;> omega, Nat.lt_of_lt_of_le h.lk k.fr.size⟩
theorem FY.below {Ws W : World} {g0 : Nat} {x : Tr} {An : Option Addr} {cn : Nat} {Ak : Option Addr} {ck xq : Nat} {κ : Int} {τ fq : Nat} {y : Tr} {A1 : Option Addr} {k1 : Nat} {A2 : Option Addr} {k2 kq : Nat} {L : List Nat} {g cap : Nat} {W' W2 : World} (h : FY Ws W g0 x An cn Ak ck xq κ τ fq y A1 k1 A2 k2 kq L g cap W') (hb : Below W'.heap.size W' W2) : FY Ws W g0 x An cn Ak ck xq κ τ fq y A1 k1 A2 k2 kq L g cap W2 := h.step (h.fx.fi.here.below hb)
theorem FY.put {Ws W : World} {g0 : Nat} {x : Tr} {An : Option Addr} {cn : Nat} {Ak : Option Addr} {ck xq : Nat} {κ : Int} {τ fq : Nat} {y : Tr} {A1 : Option Addr} {k1 : Nat} {A2 : Option Addr} {k2 kq : Nat} {L : List Nat} {g cap : Nat} {W' : World} (h : FY Ws W g0 x An cn Ak ck xq κ τ fq y A1 k1 A2 k2 kq L g cap W') (p v : Nat) : FY Ws W g0 x An cn Ak ck xq κ τ fq y A1 k1 A2 k2 kq (L.set p v) g cap (W'.setCell ⟨g, p, none⟩ (.int .u64 (v : Nat))) := h.step (h.fx.fi.put p v)
theorem FY.cells {Ws W : World} {g0 : Nat} {x : Tr} {An : Option Addr} {cn : Nat} {Ak : Option Addr} {ck xq : Nat} {κ : Int} {τ fq : Nat} {y : Tr} {A1 : Option Addr} {k1 : Nat} {A2 : Option Addr} {k2 kq : Nat} {L : List Nat} {g cap : Nat} {W' : World} (h : FY Ws W g0 x An cn Ak ck xq κ τ fq y A1 k1 A2 k2 kq L g cap W') : W'.cell? ⟨fq, 0, none⟩ = some (.int .i64 κ) ∧ W'.cell? ⟨fq, 1, none⟩ = some (.int .i64 (τ : Int)) ∧ W'.cell? ⟨kq, 0, none⟩ = some (.int .u64 (y.num : Nat)) ∧ W'.cell? ⟨kq, 1, none⟩ = some (.string y.bs) ∧ W'.cell? ⟨kq, 2, none⟩ = some (.slice A1 y.nl k1) ∧ W'.cell? ⟨kq, 3, none⟩ = some (.slice A2 y.kl k2) :=
  ⟨h.bf.cell (i := 0) (by omega), h.bf.cell (i := 1) (by omega), h.bk.c0, h.bk.c1, h.bk.c2, h.bk.c3⟩
def FillC (s : Sch) (A : Option Addr) (c : Nat) (Ws : World) (n : Nat) : Prop := ∀ (t : Nat) (x : Tr) (An Ak : Option Addr) (cn ck : Nat) (P Q L : List Nat) (ai : Int) (g cap ℓ : Nat) (W : World),
  t < s.n → chk s (n + 1) t x = 0 → TAt Ws (fun _ => True) x An Ak → L = P ++ (List.replicate x.kl 0 ++ Q) → ℓ = L.length → ai ≤ (P.length : Int) → (P.length : Int) ≤ ai → L.length + refsN s n t x x.kl ≤ 1000 → FI Ws W g L g cap W →
    Calls Tryd.prog 76 #[.slice A s.n c, .int .i64 (t : Int), (.agg #[.int .u64 ((x).num : Nat), .string (x).bs, .slice An (x).nl cn, .slice Ak (x).kl ck]), .slice (some ⟨g, 0, none⟩) ℓ cap, .int .i64 ai] W fun e W' => ∃ L' g' cap', e = .returned (.slice (some ⟨g', 0, none⟩) (List.length L') cap') ∧ Hid (L' = fillR s n t x P Q x.kl) ∧ FI Ws W g L' g' cap' W'

theorem FY.S {Ws W : World} {g0 : Nat} {x : Tr} {An : Option Addr} {cn : Nat} {Ak : Option Addr} {ck xq : Nat} {κ : Int} {τ fq : Nat} {y : Tr} {A1 : Option Addr} {k1 : Nat} {A2 : Option Addr} {k2 kq : Nat} {L : List Nat} {g cap : Nat} {W' : World} (h : FY Ws W g0 x An cn Ak ck xq κ τ fq y A1 k1 A2 k2 kq L g cap W') {b o : Nat} {u : Tr} {A3 A4 : Option Addr} {k3 k4 : Nat} (hb : b < Ws.heap.size) (h4 : Cell4 Ws b o u A3 k3 A4 k4) :
    W'.cell? ⟨fq, 1, none⟩ = some (.int .i64 (τ : Int)) ∧ W'.cell? ⟨kq, 3, none⟩ = some (.slice A2 y.kl k2) ∧ W'.cell? ⟨b, o, none⟩ = some (.int .u64 (u.num : Nat)) ∧ W'.cell? ⟨b, o + 1, none⟩ = some (.string u.bs) ∧ W'.cell? ⟨b, o + 2, none⟩ = some (.slice A3 u.nl k3) ∧ W'.cell? ⟨b, o + 3, none⟩ = some (.slice A4 u.kl k4) := by
  have h5 := h4.of_block (h.fx.fi.wb.block b hb)
  exact ⟨h.cells.2.1, h.cells.2.2.2.2.2, h5.c0, h5.c1, h5.c2, h5.c3⟩
theorem FillC.go {s : Sch} {A : Option Addr} {c : Nat} {Ws : World} {n : Nat} (IH : FillC s A c Ws n) {W : World} {g0 : Nat} {x0 : Tr} {An0 : Option Addr} {cn0 : Nat} {Ak0 : Option Addr} {ck0 xq : Nat} {κ : Int} {τ' fq : Nat} {y : Tr} {A1 : Option Addr} {k1 : Nat} {A2 : Option Addr} {k2 kq : Nat} {L : List Nat} {g cap : Nat} {W' : World} (H : Hid (FY Ws W g0 x0 An0 cn0 Ak0 ck0 xq κ τ' fq y A1 k1 A2 k2 kq L g cap W')) (t : Nat) (x : Tr) (An Ak : Option Addr) (cn ck : Nat) (P Q : List Nat) (ai : Int) (ℓ : Nat) {R : List Nat} (ht : t < s.n) (hc : chk s (n + 1) t x = 0) (hx : TAt Ws (fun _ => True) x An Ak) (hL : L = P ++ (List.replicate x.kl 0 ++ Q)) (hℓ : ℓ = L.length) (h1 : ai ≤ (P.length : Int)) (h2 : (P.length : Int) ≤ ai) (hsz : L.length + refsN s n t x x.kl ≤ 1000) (hR : fillR s n t x P Q x.kl = R) :
    Calls Tryd.prog 76 #[.slice A s.n c, .int .i64 (t : Int), (.agg #[.int .u64 ((x).num : Nat), .string (x).bs, .slice An (x).nl cn, .slice Ak (x).kl ck]), .slice (some ⟨g, 0, none⟩) ℓ cap, .int .i64 ai] W' fun e W2 => ∃ L' g' cap', e = .returned (.slice (some ⟨g', 0, none⟩) (List.length L') cap') ∧ Hid (L' = R) ∧ Hid (FY Ws W g0 x0 An0 cn0 Ak0 ck0 xq κ τ' fq y A1 k1 A2 k2 kq L' g' cap' W2) :=
  (IH t x An Ak cn ck P Q L ai g cap ℓ W' ht hc hx hL hℓ h1 h2 hsz H.out.fx.fi.here).mono fun _ _ ⟨L', g', cap', he, hl, hf⟩ => ⟨L', g', cap', he, Lib.hid (by rw [hl.out, hR]), Lib.hid (H.out.step hf)⟩
set_option maxRecDepth 100000 in
set_option maxHeartbeats 16000000 in
theorem fill_any (s : Sch) (hR : RightS s) (A : Option Addr) (c : Nat) (Ws : World) (hs : SAt Ws A s) (n : Nat) (hIH : ∀ m, n = m + 1 → FillC s A c Ws m) : FillC s A c Ws n := by
  intro t x An Ak cn ck P Q L ai g cap ℓ W ht hck hx hL hℓ ha1 ha2 hsz hfi
  subst hℓ
  obtain rfl : ai = (P.length : Int) := by omega
  obtain ⟨i0, hi0, hz1, hz2, hz3⟩ := info_parts info_u64
  have HIH := Lib.hid hIH
  have HR := Lib.hid hR
  have HX := Lib.hid hx
  obtain ⟨e0, he0, hso, hkk⟩ := chk_inv hck
  obtain rfl : n = e0 := by omega
  have HKK := Lib.hid hkk
  have hkl : x.kl = s.len t := hso.2.2.2
  have hl1' := (hR.2.2 t ht).1
  have hl6 := (hR.2.2 t ht).2.1
  obtain ⟨bs, os, rfl, hbs, hcs⟩ := hs.some_ (by omega)
  obtain ⟨Ai, cti, hct, hfr⟩ := hcs t ht
  obtain ⟨bf, of, rfl, hbf, hcf⟩ := hfr.some_ (by omega)
  have HCS := Lib.hid hcs
  have HCF := Lib.hid hcf
  have HCT := Lib.hid hct
  have HFL := Lib.hid (fun i (hi : i ≤ x.kl) => fillR_len s n t x P Q hi)
  have hLl : L.length = P.length + x.kl + Q.length := by rw [hL]; simp; omega
  obtain ⟨LL, HLL⟩ : ∃ LL, Hid (s.len t = LL) := ⟨_, Lib.hid rfl⟩
  rw [HLL.out] at HCT HCF hkl hl1' hl6
  have hkl2 : x.kl ≤ LL := Nat.le_of_eq hkl
  have hkl3 : LL ≤ x.kl := Nat.le_of_eq hkl.symm
  have HF0 : Hid (FX Ws W g x An cn Ak ck W.heap.size L g cap (W.alloc (.cells #[.int .u64 ((x).num : Nat), .string (x).bs, .slice An (x).nl cn, .slice Ak (x).kl ck] 41))) := Lib.hid ⟨hfi.below ((Below.refl _ _).alloc (Nat.le_refl _) _), cell4_box W x An cn Ak ck, by have := hfi.own.lt; omega, by simp⟩
  have HZ0 : Hid (L = fillR s n t x P Q 0) := Lib.hid (by rw [fillR_zero]; exact hL)
  have ht0 : (0 : Int) ≤ (t : Int) := by omega
  obtain ⟨a, HA⟩ : ∃ a, Hid (P.length = a) := ⟨_, Lib.hid rfl⟩
  have hLa : L.length ≤ a + x.kl + Q.length := by have := HA.out; omega
  have hLb : a + x.kl + Q.length ≤ L.length := by have := HA.out; omega
  have HSZ := Lib.hid hsz
  clear hIH hR hs hx hfi hck hso hkk hkl hcs hct hfr hcf hL hLl hsz
  rw [HA.out]
  go_enter Tryd.func76, Tryd.ntmps76
  go_wp2
  generalize W.heap.size = xq at HF0 ⊢
  generalize W.alloc (.cells #[.int .u64 ((x).num : Nat), .string (x).bs, .slice An (x).nl cn, .slice Ak (x).kl ck] 41) = W1 at HF0 ⊢
  go_loopw [11, 3] (fun iv sv wr => ∃ (i : Nat) (Li : List Nat) (gi capi : Nat), i ≤ x.kl ∧ iv = .int .i64 i ∧ sv = .slice (some ⟨gi, 0, none⟩) Li.length capi ∧ Hid (Li = fillR s n t x P Q i) ∧ Hid (FX Ws W g x An cn Ak ck xq Li gi capi wr)) (fun iv _ _ => x.kl - (intOf iv).toNat)
  case atStart => exact ⟨0, L, g, cap, by omega, rfl, rfl, HZ0, HF0⟩
  case round =>
    clear HF0 HZ0
    obtain ⟨i, Li, gi, capi, hi, rfl, rfl, HLI, HC⟩ := hrel
    have v1 := (HC.out.fi.wb.cell (p := ⟨bs, os + t, none⟩) hbs).trans HCT.out
    by_cases hi1 : i < x.kl
    · have hil : i < LL := by omega
      have hils : i < s.len t := by rw [HLL.out]; exact hil
      have HK := Lib.hid (HKK.out i hi1)
      obtain ⟨fk1, fk2⟩ := HCF.out i hil
      have u1 := (HC.out.fi.wb.cell (p := ⟨bf, of + i * 2, none⟩) hbf).trans fk1
      have u2 := (HC.out.fi.wb.cell (p := ⟨bf, of + i * 2 + 1, none⟩) hbf).trans fk2
      have hfd := HR.out.field ht hils
      have HNEXT := Lib.hid (fillR_succ s n t x P Q hi1)
      have HSKIP := Lib.hid (fillR_skip s n t x P Q hi1)
      rw [← HLI.out, HA.out] at HNEXT
      rw [← HLI.out] at HSKIP
      have hlen := HFL.out i hi
      have hlen2 := HFL.out (i + 1) hi1
      rw [← HLI.out, HA.out] at hlen
      have hn1 : refsN s n t x (i + 1) = refsN s n t x i + (fpc (piece s n) ⟨s.k t i, (s.t t i).toNat, x.kf i⟩).length := by
        unfold refsN; rw [fdsX_succ, refs_append]; simp [refs]
      have hn2 : refsN s n t x (i + 1) ≤ refsN s n t x x.kl := by
        obtain ⟨gs, h1, h2⟩ := fdsX_split s t x hi1
        rw [hn1]; unfold refsN
        rw [h1, refs_append, refs_cons]
        simp only [List.length_append]; omega
      have hszz := HSZ.out
      obtain ⟨τ, HTT⟩ : ∃ τ, Hid ((s.t t i).toNat = τ) := ⟨_, Lib.hid rfl⟩
      have htl : τ < s.n := by rw [← HTT.out]; exact HR.out.tlt ht hils
      have htv : s.t t i = (τ : Int) := by rw [← HTT.out]; omega
      obtain ⟨κ, HKP⟩ : ∃ κ, Hid (s.k t i = κ) := ⟨_, Lib.hid rfl⟩
      rw [HKP.out] at u1 HK hfd HNEXT HSKIP hn1
      rw [htv] at u2
      rw [HTT.out] at HK HNEXT HSKIP hn1
      obtain ⟨b, off, rfl, -, hlt, hc⟩ := HX.out.kids (by omega)
      obtain ⟨A1, k1, A2, k2, h4, hty⟩ := hc i hi1
      obtain ⟨o, HOO⟩ : ∃ o, Hid (x.kl - i + Q.length + refsN s n t x i = o) := ⟨_, Lib.hid rfl⟩
      rw [HOO.out] at HNEXT HSKIP
      have hoo := HOO.out
      obtain ⟨y, HY⟩ : ∃ y, Hid (x.kf i = y) := ⟨_, Lib.hid rfl⟩
      rw [HY.out] at HK HNEXT HSKIP h4 hty hn1
      have HTY := Lib.hid hty
      obtain ⟨c0, c1, c2, c3⟩ := h4.of_block (HC.out.fi.wb.block b hlt)
      have x3 := HC.out.bx.c3
      simp only [Nat.zero_add] at x3
      have hnle := fd_n_le (f := ⟨κ, τ, y⟩) HK.out.1
      have HFN : Hid (fpc (piece s n) ⟨κ, τ, y⟩ = fpc (piece s n) ⟨κ, τ, y⟩) := Lib.hid rfl
      have hpl : a + i < Li.length := by omega
      have hsub : (Li.length : Int) - ((a : Int) + (i : Int)) = (o : Int) := by omega
      have hol : o ≤ 1000 := by omega
      have q1 : (0 : Int) ≤ (i : Int) := by omega
      have q3 : (0 : Int) ≤ (a : Int) + (i : Int) := by omega
      have q4 : (a : Int) + (i : Int) < (Li.length : Int) := by omega
      have hd1 : decide ((i : Int) < (LL : Int)) = true := decide_eq_true (by omega)
      have hd1' : decide (i < LL) = true := decide_eq_true hil
      have hll3 : Li.length ≤ 1000 := by omega
      have HY0 : Hid (FY Ws W g x An cn (some ⟨b, off, none⟩) ck xq κ τ wr.heap.size y A1 k1 A2 k2 (wr.heap.size + 1) Li gi capi ((wr.alloc (.cells #[.int .i64 κ, .int .i64 (τ : Int)] 95)).alloc (.cells #[.int .u64 ((y).num : Nat), .string (y).bs, .slice A1 (y).nl k1, .slice A2 (y).kl k2] 41))) := Lib.hid (by
        have h5 := cell4_box (wr.alloc (.cells #[.int .i64 κ, .int .i64 (τ : Int)] 95)) y A1 k1 A2 k2
        simp only [World.size_alloc] at h5
        have h6 := HC.out.fi.own.lt
        exact ⟨HC.out.below (by (repeat (first | with_reducible exact Below.refl _ _ | with_reducible refine Below.drew ?_ | (with_reducible refine Below.setCell ?_ ?side _; case side => exact (by first | (simp; done) | (simp; omega) | omega)) | (with_reducible refine Below.alloc ?_ ?side _; case side => exact (by first | (simp; done) | (simp; omega) | omega))))), (fld_box wr κ τ).alloc _, h5, by omega, by omega, by simp⟩)
      have hxlt := HC.out.lx
      have hwsz := HC.out.fi.wb.size
      have hblt : b < wr.heap.size := by omega
      have hbslt : bs < wr.heap.size := by omega
      have hbflt : bf < wr.heap.size := by omega
      have hglt := HC.out.fi.own.lt
      have HN1 := Lib.hid hn1
      clear htv hc h4 hty hn2 hlen hlen2 hoo hn1
      obtain rfl | rfl | rfl | rfl | rfl : κ = 1 ∨ κ = 2 ∨ κ = 3 ∨ κ = 4 ∨ κ = 5 := by omega
      · have hfp := fd_none (pc := piece s n) (f := ⟨1, τ, y⟩) HK.out.1 (.inl rfl) (fun _ _ => piece_zero _ _ _ _)
        have how : ownWd ⟨1, τ, y⟩ o = y.num := by
          unfold ownWd
          rw [if_neg]
          unfold Fd.n
          rw [if_neg (show ¬ ((1 : Int) = 2) by decide), if_neg (show ¬ ((1 : Int) = 3) by decide), if_neg (show ¬ ((1 : Int) = 4 ∨ (1 : Int) = 5) by decide)]
          omega
        have HNL : Hid (Li.set (a + i) y.num = fillR s n t x P Q (i + 1)) := Lib.hid (by rw [HNEXT.out, how, hfp, List.append_nil])
        have HNX : Hid (FX Ws W g x An cn (some ⟨b, off, none⟩) ck xq (Li.set (a + i) y.num) gi capi (((wr.setCell ⟨gi, a + i, none⟩ (.int .u64 (y.num : Nat))).alloc (.cells #[.int .i64 1, .int .i64 (τ : Int)] 95)).alloc (.cells #[.int .u64 ((y).num : Nat), .string (y).bs, .slice A1 (y).nl k1, .slice A2 (y).kl k2] 41))) := Lib.hid ((HC.out.step (HC.out.fi.put (a + i) y.num)).below (by (repeat (first | with_reducible exact Below.refl _ _ | with_reducible refine Below.drew ?_ | (with_reducible refine Below.setCell ?_ ?side _; case side => exact (by first | (simp; done) | (simp; omega) | omega)) | (with_reducible refine Below.alloc ?_ ?side _; case side => exact (by first | (simp; done) | (simp; omega) | omega))))))
        have w0 := HC.out.fi.own.cell hpl
        have wf := HC.out.fi.own.frozen (a + i)
        clear HY0 HNEXT HSKIP
        go_wp2
        go_roundw
        case rel => exact ⟨i + 1, Li.set (a + i) y.num, gi, capi, by omega, by go_num, by rw [List.length_set], HNL, HNX⟩
        case measure => simp [intOf]; omega
      · by_cases hs0 : y.bs.size = 0
        · have e1 : (y.bs.toList == []) = true := by rw [(str_nil y.bs).2 hs0]; rfl
          have e2 : (y.bs.toList = []) = True := eq_true ((str_nil y.bs).2 hs0)
          have hfp := fd_none (pc := piece s n) (f := ⟨2, τ, y⟩) HK.out.1 (.inr hs0) (fun _ _ => piece_zero _ _ _ _)
          have how := fd_word (f := ⟨2, τ, y⟩) (o := o) HK.out.1 (show ¬ ((2 : Int) = 1) by decide) hs0
          have HNL : Hid (Li = fillR s n t x P Q (i + 1)) := Lib.hid (HSKIP.out how hfp).symm
          have HNX := Lib.hid HY0.out.fx
          clear HY0 HNEXT HSKIP
          clear hs0
          go_wp2
          go_roundw
          case rel => exact ⟨i + 1, Li, gi, capi, by omega, by go_num, rfl, HNL, HNX⟩
          case measure => simp [intOf]; omega
        · have e1 : (y.bs.toList == []) = false := by
            rw [beq_eq_false_iff_ne]
            exact fun e => hs0 ((str_nil y.bs).1 e)
          have e2 : (y.bs.toList = []) = False := eq_false fun e => hs0 ((str_nil y.bs).1 e)
          have hn0 : 0 < y.bs.size := by omega
          have how : ownWd ⟨2, τ, y⟩ o = refN (o : Int) (y.bs.size : Int) := by
            unfold ownWd
            rw [if_pos]
            · rfl
            · exact hn0
          rw [how] at HNEXT
          clear how HSKIP
          have hfp : fpc (piece s n) ⟨2, τ, y⟩ = wordsB y.bs := rfl
          have hsz40 := HK.out.1.2.2.2.2.1
          have hcn : cnt y.bs.size ≤ 20 := by unfold cnt; omega
          have hcp : 0 < cnt y.bs.size := by unfold cnt; omega
          rw [hfp] at HNEXT
          clear hfp
          go_wp2_with fail
          refine (r7ref_any (o : Int) (y.bs.size : Int) _).mono ?_
          rintro e w' ⟨rfl, rfl⟩
          generalize wr.heap.size + 1 = kq at HY0 ⊢
          generalize wr.heap.size = fq at HY0 hxlt hblt hbslt hbflt hglt ⊢
          generalize (wr.alloc (.cells #[.int .i64 2, .int .i64 (τ : Int)] 95)).alloc (.cells #[.int .u64 ((y).num : Nat), .string (y).bs, .slice A1 (y).nl k1, .slice A2 (y).kl k2] 41) = V at HY0 ⊢
          obtain ⟨f0, f1, z0, z1, z2, z3⟩ := HY0.out.cells
          have w0 := HY0.out.fx.fi.own.cell hpl
          have wf := HY0.out.fx.fi.own.frozen (a + i)
          have hnk := HY0.out.nk
          have hnf := HY0.out.nf
          have HYP := Lib.hid (HY0.out.put (a + i) (refN (o : Int) (y.bs.size : Int)))
          go_wp2_with fail
          clear f0 f1 z0 z1 z2 z3 w0 wf
          refine (rwords_any y.bs (by omega) _).mono ?_
          rintro e w7 ⟨v, rfl, hra⟩
          obtain ⟨gz, capz, rfl, hgz, hgz2⟩ := hra.own.form hcp
          have HV2 := Lib.hid (HYP.out.below hra.below)
          have HCL : Hid (∀ j u, (wcells (wordsB y.bs))[j]? = some u → w7.cell? ((⟨gz, 0, none⟩ : Addr).add j) = some u) := Lib.hid (by
            have h1 := hra.own.cells (g := gz) rfl
            have e : cellsW (wordOf y.bs) (cnt y.bs.size) = wcells (wordsB y.bs) := by simp [cellsW, wcells, wordsB]
            rw [e] at h1
            exact h1)
          clear HYP hra hgz hgz2 HY0
          obtain ⟨B, HB⟩ : ∃ B, Hid (Li.set (a + i) (refN (o : Int) (y.bs.size : Int)) = B) := ⟨_, Lib.hid rfl⟩
          have hbl : B.length ≤ 1000 := by rw [← HB.out, List.length_set]; exact hll3
          have HBL : Hid (Li.length = B.length) := Lib.hid (by rw [← HB.out, List.length_set])
          rw [HB.out] at HV2 HNEXT
          rw [HBL.out]
          have HO := Lib.hid HV2.out.fx.fi.own
          go_wp2_with (at_builtin; refine wpList_append_lies _ rfl _ _ 22 rfl 0 26 i0 (.int .u64 0) 1 8 Tryd.underlying22 hi0 hz1 hz2 hz3 rfl (by omega) _ _ _ rfl HO.out ⟨gz, 0, none⟩ (cnt y.bs.size) _ (wcells (wordsB y.bs)) rfl (by simp [wcells, wordsB_length]) HCL.out (wcells_one _) (by omega) (by unfold maxLen; omega) (by omega) (Nat.zero_le _) _ rfl ?_; intro g2 cap2 w10 hown hgrow hat hlt; have HGR := Lib.hid (HV2.out.fx.step (HV2.out.fx.fi.grow (by simp [wordsB_length]) hown hgrow hat)); clear hown hgrow hat hlt)
          go_roundw
          case rel => exact ⟨i + 1, B ++ wordsB y.bs, g2, cap2, by omega, by go_num, by rw [List.length_append, wordsB_length], Lib.hid HNEXT.out.symm, HGR⟩
          case measure => simp [intOf]; omega
      · by_cases hs0 : y.nl = 0
        · have e1 : decide ((0 : Int) < (y.nl : Int)) = false := decide_eq_false (by omega)
          have e2 : decide (0 < y.nl) = false := decide_eq_false (by omega)
          have hfp := fd_none (pc := piece s n) (f := ⟨3, τ, y⟩) HK.out.1 (.inr hs0) (fun _ _ => piece_zero _ _ _ _)
          have how := fd_word (f := ⟨3, τ, y⟩) (o := o) HK.out.1 (show ¬ ((3 : Int) = 1) by decide) hs0
          have HNL : Hid (Li = fillR s n t x P Q (i + 1)) := Lib.hid (HSKIP.out how hfp).symm
          have HNX := Lib.hid HY0.out.fx
          clear HY0 HNEXT HSKIP
          clear hs0
          go_wp2
          go_roundw
          case rel => exact ⟨i + 1, Li, gi, capi, by omega, by go_num, rfl, HNL, HNX⟩
          case measure => simp [intOf]; omega
        · have e1 : decide ((0 : Int) < (y.nl : Int)) = true := decide_eq_true (by omega)
          have e2 : decide (0 < y.nl) = true := decide_eq_true (by omega)
          have hn0 : 0 < y.nl := by omega
          have how : ownWd ⟨3, τ, y⟩ o = refN (o : Int) (y.nl : Int) := by
            unfold ownWd
            rw [if_pos]
            · rfl
            · exact hn0
          rw [how] at HNEXT
          clear how HSKIP
          have hfp : fpc (piece s n) ⟨3, τ, y⟩ = numsL y := rfl
          have hsz40 := HK.out.1.2.2.2.2.2.1
          rw [hfp] at HNEXT
          clear hfp
          obtain ⟨bn, on, rfl, hbn, hcn⟩ := HTY.out.nums.some_ hn0
          have HNU := Lib.hid hcn
          clear hcn
          go_wp2_with fail
          refine (r7ref_any (o : Int) (y.nl : Int) _).mono ?_
          rintro e w' ⟨rfl, rfl⟩
          generalize wr.heap.size + 1 = kq at HY0 ⊢
          generalize wr.heap.size = fq at HY0 hxlt hblt hbslt hbflt hglt ⊢
          generalize (wr.alloc (.cells #[.int .i64 3, .int .i64 (τ : Int)] 95)).alloc (.cells #[.int .u64 ((y).num : Nat), .string (y).bs, .slice (some ⟨bn, on, none⟩) (y).nl k1, .slice A2 (y).kl k2] 41) = V at HY0 ⊢
          obtain ⟨f0, f1, z0, z1, z2, z3⟩ := HY0.out.cells
          have w0 := HY0.out.fx.fi.own.cell hpl
          have wf := HY0.out.fx.fi.own.frozen (a + i)
          have hnk := HY0.out.nk
          have hnf := HY0.out.nf
          have HYP := Lib.hid (HY0.out.put (a + i) (refN (o : Int) (y.nl : Int)))
          obtain ⟨B, HB⟩ : ∃ B, Hid (Li.set (a + i) (refN (o : Int) (y.nl : Int)) = B) := ⟨_, Lib.hid rfl⟩
          have hbl : B.length ≤ 1000 := by rw [← HB.out, List.length_set]; exact hll3
          have HBL : Hid (Li.length = B.length) := Lib.hid (by rw [← HB.out, List.length_set])
          rw [HB.out] at HYP HNEXT
          have hown0 := HYP.out.fx.fi.own
          have HCL : Hid (∀ j u, (wcells (numsL y))[j]? = some u → (V.setCell ⟨gi, a + i, none⟩ (.int .u64 (refN (o : Int) (y.nl : Int) : Nat))).cell? ((⟨bn, on, none⟩ : Addr).add j) = some u) := Lib.hid (fun j u hu => by
            obtain ⟨v, hv, rfl⟩ := wcells_get _ _ _ hu
            have hj : j < y.nl := by
              have := (List.getElem?_eq_some_iff.1 hv).1
              rw [numsL_length] at this
              exact this
            have e : v = y.nf j := by
              simp only [numsL, List.getElem?_map, List.getElem?_range hj, Option.map_some] at hv
              exact (Option.some.inj hv).symm
            rw [e, addr_add]
            exact (HYP.out.fx.fi.wb.cell (p := ⟨bn, on + j, none⟩) hbn).trans (HNU.out j hj))
          obtain ⟨ℓ, HLL2⟩ : ∃ ℓ, Hid (Li.length = ℓ) := ⟨_, Lib.hid rfl⟩
          rw [HLL2.out] at q4 hsub hpl hll3 HBL ⊢
          unfold WRw at hown0
          rw [← HBL.out] at hown0
          have HO := Lib.hid hown0
          clear hown0
          go_wp2_with (at_builtin; refine wpList_append_lies _ rfl _ _ 22 rfl 0 26 i0 (.int .u64 0) 1 8 Tryd.underlying22 hi0 hz1 hz2 hz3 rfl (by omega) _ _ _ rfl HO.out ⟨bn, on, none⟩ y.nl _ (wcells (numsL y)) rfl (by simp [wcells, numsL_length]) HCL.out (wcells_one _) (by omega) (by unfold maxLen; omega) (by omega) (Nat.zero_le _) _ rfl ?_; intro g2 cap2 w10 hown hgrow hat hlt; have HGR := Lib.hid (HYP.out.fx.step (HYP.out.fx.fi.grow (by rw [List.length_append, numsL_length, ← HBL.out]) hown hgrow hat)); clear hown hgrow hat hlt)
          go_roundw
          case rel => exact ⟨i + 1, B ++ numsL y, g2, cap2, by omega, by go_num, by rw [List.length_append, numsL_length, ← HBL.out], Lib.hid HNEXT.out.symm, HGR⟩
          case measure => simp [intOf]; omega
      · have hfp0 : fpc (piece s n) ⟨4, τ, y⟩ = piece s n τ y.kl y.kf := rfl
        obtain ⟨Aτ, ctτ, hcτ, -⟩ := HCS.out τ htl
        obtain ⟨F, HF⟩ : ∃ F, Hid (s.len τ = F) := ⟨_, Lib.hid rfl⟩
        rw [HF.out] at hcτ
        have g1 : (0 : Int) ≤ (τ : Int) := by omega
        have g2 : (τ : Int) < (s.n : Int) := by omega
        have hF6 : F ≤ 6 := by rw [← HF.out]; exact (HR.out.2.2 τ htl).2.1
        have hF1 : 1 ≤ F := by rw [← HF.out]; exact (HR.out.2.2 τ htl).1
        have v9 := (HC.out.fi.wb.cell (p := ⟨bs, os + τ, none⟩) hbs).trans hcτ
        have HCTT := Lib.hid hcτ
        clear hcτ
        by_cases hs0 : y.kl = 0
        · have e1 : decide ((0 : Int) < (y.kl : Int)) = false := decide_eq_false (by omega)
          have e2 : decide (0 < y.kl) = false := decide_eq_false (by omega)
          have hfp := fd_none (pc := piece s n) (f := ⟨4, τ, y⟩) HK.out.1 (.inr hs0) (fun _ _ => piece_zero _ _ _ _)
          have how := fd_word (f := ⟨4, τ, y⟩) (o := o) HK.out.1 (show ¬ ((4 : Int) = 1) by decide) hs0
          have HNL : Hid (Li = fillR s n t x P Q (i + 1)) := Lib.hid (HSKIP.out how hfp).symm
          have HNX := Lib.hid HY0.out.fx
          clear HNEXT HSKIP
          have hs1 : y.kl ≤ 0 := by omega
          clear hs0 HNX
          go_wp2
          clear e1 e2
          generalize wr.heap.size + 1 = kq at HY0 ⊢
          generalize wr.heap.size = fq at HY0 ⊢
          generalize (wr.alloc (.cells #[.int .i64 4, .int .i64 (τ : Int)] 95)).alloc (.cells #[.int .u64 ((y).num : Nat), .string (y).bs, .slice A1 (y).nl k1, .slice A2 (y).kl k2] 41) = V at HY0 ⊢
          go_loopw [17, 3] (fun jv sv wr => jv = .int .i64 0 ∧ sv = .slice (some ⟨gi, 0, none⟩) Li.length capi ∧ Hid (FY Ws W g x An cn (some ⟨b, off, none⟩) ck xq 4 τ fq y A1 k1 A2 k2 kq Li gi capi wr)) (fun jv _ _ => 0)
          case atStart => exact ⟨rfl, rfl, HY0⟩
          case round =>
            clear HY0
            obtain ⟨rfl, rfl, HJ⟩ := hrel
            obtain ⟨f0, f1, z0, z1, z2, z3⟩ := HJ.out.cells
            have HNX := Lib.hid HJ.out.fx
            have f2 : decide ((0 : Int) < (y.kl : Int)) = false := decide_eq_false (by omega)
            have f2' : decide (0 < y.kl) = false := decide_eq_false (by omega)
            go_wp2
            go_roundw
            case rel => exact ⟨i + 1, Li, gi, capi, by omega, by go_num, rfl, HNL, HNX⟩
            case measure => simp [intOf]; omega
        · have e1 : decide ((0 : Int) < (y.kl : Int)) = true := decide_eq_true (by omega)
          have e2 : decide (0 < y.kl) = true := decide_eq_true (by omega)
          have hn0 : 0 < y.kl := by omega
          have how : ownWd ⟨4, τ, y⟩ o = refN (o : Int) (y.kl : Int) := by
            unfold ownWd
            rw [if_pos]
            · rfl
            · exact hn0
          rw [how] at HNEXT
          clear how HSKIP
          obtain ⟨m, hnm, -, -⟩ := chk_inv (HK.out.2 0 hn0)
          subst hnm
          have HIM := Lib.hid (HIH.out m rfl)
          have HKF : Hid (∀ j, j < y.kl → (y.kf j).kl = F) := Lib.hid fun j hj => by
            obtain ⟨_, _, hso, _⟩ := chk_inv (HK.out.2 j hj)
            rw [hso.2.2.2, HF.out]
          have hkl12 : y.kl ≤ 12 := HK.out.1.2.2.2.2.2.2.1
          have hfpl : (fpc (piece s (m + 1)) ⟨4, τ, y⟩).length = y.kl * F + refsK s m τ y.kf y.kl := by rw [hfp0, piece_len HKF.out]
          have hroom : Li.length + y.kl * F + refsK s m τ y.kf y.kl ≤ 1000 := by
            have h1 := HN1.out
            rw [hfpl] at h1
            have h2 := HSZ.out
            have h3 : refsN s (m + 1) t x (i + 1) ≤ refsN s (m + 1) t x x.kl := by
              obtain ⟨gs, h1, h2⟩ := fdsX_split s t x hi1
              have hn1 : refsN s (m + 1) t x (i + 1) = refsN s (m + 1) t x i + (fpc (piece s (m + 1)) ⟨s.k t i, (s.t t i).toNat, x.kf i⟩).length := by
                unfold refsN; rw [fdsX_succ, refs_append]; simp [refs]
              rw [hn1]; unfold refsN
              rw [h1, refs_append, refs_cons]
              simp only [List.length_append]; omega
            have h4 := HFL.out i hi
            rw [← HLI.out, HA.out] at h4
            omega
          have HROOM := Lib.hid hroom
          rw [hfp0] at HNEXT
          obtain ⟨FK, HFK⟩ : ∃ FK, Hid (F * y.kl = FK) := ⟨_, Lib.hid rfl⟩
          have hmul : (F : Int) * (y.kl : Int) = (FK : Int) := by rw [← HFK.out]; exact (Int.natCast_mul F y.kl).symm
          have hFK0 : 0 < FK := by rw [← HFK.out]; exact Nat.mul_pos hF1 hn0
          have hFKr : Li.length + FK ≤ 1000 := by rw [← HFK.out, Nat.mul_comm]; omega
          have hwFK : IntKind.i64.wrap (FK : Int) = (FK : Int) := IntWalk.i64_in _ (by omega)
          clear hfp0 hfpl hroom
          go_wp2_with fail
          refine (r7ref_any (o : Int) (y.kl : Int) _).mono ?_
          rintro e w' ⟨rfl, rfl⟩
          generalize wr.heap.size + 1 = kq at HY0 ⊢
          generalize wr.heap.size = fq at HY0 hxlt hblt hbslt hbflt hglt ⊢
          generalize (wr.alloc (.cells #[.int .i64 4, .int .i64 (τ : Int)] 95)).alloc (.cells #[.int .u64 ((y).num : Nat), .string (y).bs, .slice A1 (y).nl k1, .slice A2 (y).kl k2] 41) = V at HY0 ⊢
          obtain ⟨f0, f1, z0, z1, z2, z3⟩ := HY0.out.cells
          have w0 := HY0.out.fx.fi.own.cell hpl
          have wf := HY0.out.fx.fi.own.frozen (a + i)
          have hnk := HY0.out.nk
          have hnf := HY0.out.nf
          have HYP := Lib.hid (HY0.out.put (a + i) (refN (o : Int) (y.kl : Int)))
          obtain ⟨B, HB⟩ : ∃ B, Hid (Li.set (a + i) (refN (o : Int) (y.kl : Int)) = B) := ⟨_, Lib.hid rfl⟩
          have HBL : Hid (Li.length = B.length) := Lib.hid (by rw [← HB.out, List.length_set])
          rw [HB.out] at HYP HNEXT
          have hown0 := HYP.out.fx.fi.own
          obtain ⟨ℓ, HLL2⟩ : ∃ ℓ, Hid (Li.length = ℓ) := ⟨_, Lib.hid rfl⟩
          rw [HLL2.out] at q4 hsub hpl hll3 HBL hFKr HROOM ⊢
          unfold WRw at hown0
          rw [← HBL.out] at hown0
          obtain ⟨ga, capa, wa, hrun, howna, hgrowa, hata⟩ := run_append_zeros (P := Tryd.prog) _ 22 3 22 26 i0 (.int .u64 0) .i64 .i64 8 Tryd.underlying22 Tryd.underlying3 hi0 hz1 hz2 hz3 rfl rfl gi ℓ capi (wcells B) hown0 FK hFK0 (by unfold maxLen; omega) (by omega)
          have HYA := Lib.hid (HYP.out.step (HYP.out.fx.fi.grow (M := List.replicate FK 0) (n := ℓ + FK) (by rw [List.length_append, List.length_replicate, ← HBL.out]) (by simpa [wcells] using howna) hgrowa (by rcases hata with e | e; exact .inl (by rw [e]); exact .inr e)))
          clear hown0 howna hgrowa hata HYP HY0
          go_wp2_with (at_builtin; refine Lib.wpList_append_run _ rfl _ _ _ _ rfl _ _ rfl rfl _ _ hrun ?_)
          clear f0 f1 z0 z1 z2 z3 w0 wf hrun e1 e2 hmul hwFK hsub
          go_loopw [17, 3] (fun jv sv wr => ∃ (j : Nat) (Lj : List Nat) (gj capj : Nat), j ≤ y.kl ∧ jv = .int .i64 j ∧ sv = .slice (some ⟨gj, 0, none⟩) Lj.length capj ∧ Hid (Lj = kidR s m τ y.kf B y.kl F j) ∧ Hid (FY Ws W g x An cn (some ⟨b, off, none⟩) ck xq 4 τ fq y A1 k1 A2 k2 kq Lj gj capj wr)) (fun jv _ _ => y.kl - (intOf jv).toNat)
          case atStart => exact ⟨0, B ++ List.replicate FK 0, ga, capa, by omega, rfl, by rw [List.length_append, List.length_replicate, ← HBL.out], Lib.hid (by rw [kidR_zero, HFK.out]), HYA⟩
          case round =>
            clear HYA
            obtain ⟨j, Lj, gj, capj, hj, rfl, rfl, HLJ, HJ⟩ := hrel
            obtain ⟨f0, f1, z0, z1, z2, z3⟩ := HJ.out.cells
            by_cases hj1 : j < y.kl
            · have f2 : decide ((j : Int) < (y.kl : Int)) = true := decide_eq_true (by omega)
              have f2' : decide (j < y.kl) = true := decide_eq_true hj1
              obtain ⟨b2, o2, rfl, -, hlt2, hc2⟩ := HTY.out.kids (by omega)
              obtain ⟨A3, k3, A4, k4, h44, htz⟩ := hc2 j hj1
              have HTZ := Lib.hid htz
              have H44 := Lib.hid h44
              have hkj := HKF.out j hj1
              have hspl := kidR_split s m τ y.kf B hkj hj1
              rw [← HLJ.out] at hspl
              have HSPL := Lib.hid hspl
              have HNJ := Lib.hid (kidR_succ s m τ y.kf B hkj hj1)
              have hlj := kidR_len s m τ y.kf B HKF.out hj
              rw [← HLJ.out, ← HBL.out] at hlj
              have hrk := refsK_le (s := s) (n := m) (t := τ) (kf := y.kf) (show j + 1 ≤ y.kl from hj1)
              rw [refsK_succ] at hrk
              have hfit : Lj.length + refsN s m τ (y.kf j) (y.kf j).kl ≤ 1000 := by have := HROOM.out; omega
              have hown1 := fdsK_len (s := s) (t := τ) (kf := y.kf) (F := F) (K := j) (fun i hi => HKF.out i (by omega))
              have hpl2 : (B ++ ownWs (piece s m) (fdsK s τ y.kf j) ((y.kl - j) * F)).length = ℓ + j * F := by rw [List.length_append, ownWs_len, hown1, ← HBL.out]
              have HFIT := Lib.hid hfit
              have hljl : Lj.length ≤ 1000 := by omega
              obtain ⟨Pj, HPJ⟩ : ∃ Pj, Hid (F * j = Pj) := ⟨_, Lib.hid rfl⟩
              have hmj : (F : Int) * (j : Int) = (Pj : Int) := by rw [← HPJ.out]; exact (Int.natCast_mul F j).symm
              rw [Nat.mul_comm j F, HPJ.out] at hpl2
              have HPL2 := Lib.hid hpl2
              have hPj : Pj ≤ 100 := by rw [← HPJ.out]; have : F * j ≤ 6 * 12 := Nat.mul_le_mul hF6 (by omega); omega
              have hwPj : IntKind.i64.wrap (Pj : Int) = (Pj : Int) := IntWalk.i64_in _ (by omega)
              have hwLP : IntKind.i64.wrap ((ℓ : Int) + (Pj : Int)) = (ℓ : Int) + (Pj : Int) := IntWalk.i64_in _ (by omega)
              have HCJ := Lib.hid (HK.out.2 j hj1)
              have q5 : (0 : Int) ≤ (j : Int) := by omega
              have q6 : (j : Int) < (y.kl : Int) := by omega
              clear hc2 htz h44 hspl hlj hrk hfit hown1 hpl2 hkj
              go_wp2_with fail
              clear f0 f1 z0 z1 z2 z3
              have HJD := Lib.hid (HJ.out.below (Below.refl _ _).drew)
              clear HJ
              go_region_held3 (fun w' => w'.cell? ⟨fq, 1, none⟩ = some (.int .i64 (τ : Int)) ∧ w'.cell? ⟨kq, 3, none⟩ = some (.slice (some ⟨b2, o2, none⟩) y.kl k2) ∧ w'.cell? ⟨b2, o2 + j * 4, none⟩ = some (.int .u64 ((y.kf j).num : Nat)) ∧ w'.cell? ⟨b2, o2 + j * 4 + 1, none⟩ = some (.string (y.kf j).bs) ∧ w'.cell? ⟨b2, o2 + j * 4 + 2, none⟩ = some (.slice A3 (y.kf j).nl k3) ∧ w'.cell? ⟨b2, o2 + j * 4 + 3, none⟩ = some (.slice A4 (y.kf j).kl k4))
                (first | exact HJD.out.S hlt2 H44.out | exact HJN.out.S hlt2 H44.out | fail)
                (first
                  | (go_at_call 76; (with_reducible refine (FillC.go HIM.out HJD τ (y.kf j) A3 A4 k3 k4 _ _ _ _ htl HCJ.out HTZ.out HSPL.out rfl (by rw [HPL2.out]; omega) (by rw [HPL2.out]; omega) HFIT.out HNJ.out).mono ?_); rintro e w5 ⟨Lk, gk, capk, rfl, HLK, HJN⟩) | fail)
              all_goals
                go_wp2
                go_roundw
                case rel => exact ⟨j + 1, Lk, gk, capk, by omega, by go_num, rfl, HLK, HJN⟩
                case measure => simp [intOf]; omega
            · have e : j = y.kl := by omega
              subst e
              have HNX := Lib.hid HJ.out.fx
              have HNL : Hid (Lj = fillR s (m + 1) t x P Q (i + 1)) := Lib.hid (by rw [HLJ.out, kidR_all, HNEXT.out])
              have f2 : decide ((y.kl : Int) < (y.kl : Int)) = false := decide_eq_false (by omega)
              go_wp2
              go_roundw
              case rel => exact ⟨i + 1, Lj, gj, capj, by omega, by go_num, rfl, HNL, HNX⟩
              case measure => simp [intOf]; omega
      · have hfp0 : fpc (piece s n) ⟨5, τ, y⟩ = piece s n τ y.kl y.kf := rfl
        obtain ⟨Aτ, ctτ, hcτ, -⟩ := HCS.out τ htl
        obtain ⟨F, HF⟩ : ∃ F, Hid (s.len τ = F) := ⟨_, Lib.hid rfl⟩
        rw [HF.out] at hcτ
        have g1 : (0 : Int) ≤ (τ : Int) := by omega
        have g2 : (τ : Int) < (s.n : Int) := by omega
        have hF6 : F ≤ 6 := by rw [← HF.out]; exact (HR.out.2.2 τ htl).2.1
        have hF1 : 1 ≤ F := by rw [← HF.out]; exact (HR.out.2.2 τ htl).1
        have v9 := (HC.out.fi.wb.cell (p := ⟨bs, os + τ, none⟩) hbs).trans hcτ
        have HCTT := Lib.hid hcτ
        clear hcτ
        by_cases hs0 : y.kl = 0
        · have e1 : decide ((0 : Int) < (y.kl : Int)) = false := decide_eq_false (by omega)
          have e2 : decide (0 < y.kl) = false := decide_eq_false (by omega)
          have hfp := fd_none (pc := piece s n) (f := ⟨5, τ, y⟩) HK.out.1 (.inr hs0) (fun _ _ => piece_zero _ _ _ _)
          have how := fd_word (f := ⟨5, τ, y⟩) (o := o) HK.out.1 (show ¬ ((5 : Int) = 1) by decide) hs0
          have HNL : Hid (Li = fillR s n t x P Q (i + 1)) := Lib.hid (HSKIP.out how hfp).symm
          have HNX := Lib.hid HY0.out.fx
          clear HNEXT HSKIP
          have hs1 : y.kl ≤ 0 := by omega
          clear hs0 HNX
          go_wp2
          clear e1 e2
          generalize wr.heap.size + 1 = kq at HY0 ⊢
          generalize wr.heap.size = fq at HY0 ⊢
          generalize (wr.alloc (.cells #[.int .i64 5, .int .i64 (τ : Int)] 95)).alloc (.cells #[.int .u64 ((y).num : Nat), .string (y).bs, .slice A1 (y).nl k1, .slice A2 (y).kl k2] 41) = V at HY0 ⊢
          go_loopw [17, 3] (fun jv sv wr => jv = .int .i64 0 ∧ sv = .slice (some ⟨gi, 0, none⟩) Li.length capi ∧ Hid (FY Ws W g x An cn (some ⟨b, off, none⟩) ck xq 5 τ fq y A1 k1 A2 k2 kq Li gi capi wr)) (fun jv _ _ => 0)
          case atStart => exact ⟨rfl, rfl, HY0⟩
          case round =>
            clear HY0
            obtain ⟨rfl, rfl, HJ⟩ := hrel
            obtain ⟨f0, f1, z0, z1, z2, z3⟩ := HJ.out.cells
            have HNX := Lib.hid HJ.out.fx
            have f2 : decide ((0 : Int) < (y.kl : Int)) = false := decide_eq_false (by omega)
            have f2' : decide (0 < y.kl) = false := decide_eq_false (by omega)
            go_wp2
            go_roundw
            case rel => exact ⟨i + 1, Li, gi, capi, by omega, by go_num, rfl, HNL, HNX⟩
            case measure => simp [intOf]; omega
        · have e1 : decide ((0 : Int) < (y.kl : Int)) = true := decide_eq_true (by omega)
          have e2 : decide (0 < y.kl) = true := decide_eq_true (by omega)
          have hn0 : 0 < y.kl := by omega
          have how : ownWd ⟨5, τ, y⟩ o = refN (o : Int) (y.kl : Int) := by
            unfold ownWd
            rw [if_pos]
            · rfl
            · exact hn0
          rw [how] at HNEXT
          clear how HSKIP
          obtain ⟨m, hnm, -, -⟩ := chk_inv (HK.out.2 0 hn0)
          subst hnm
          have HIM := Lib.hid (HIH.out m rfl)
          have HKF : Hid (∀ j, j < y.kl → (y.kf j).kl = F) := Lib.hid fun j hj => by
            obtain ⟨_, _, hso, _⟩ := chk_inv (HK.out.2 j hj)
            rw [hso.2.2.2, HF.out]
          have hkl12 : y.kl ≤ 12 := HK.out.1.2.2.2.2.2.2.1
          have hfpl : (fpc (piece s (m + 1)) ⟨5, τ, y⟩).length = y.kl * F + refsK s m τ y.kf y.kl := by rw [hfp0, piece_len HKF.out]
          have hroom : Li.length + y.kl * F + refsK s m τ y.kf y.kl ≤ 1000 := by
            have h1 := HN1.out
            rw [hfpl] at h1
            have h2 := HSZ.out
            have h3 : refsN s (m + 1) t x (i + 1) ≤ refsN s (m + 1) t x x.kl := by
              obtain ⟨gs, h1, h2⟩ := fdsX_split s t x hi1
              have hn1 : refsN s (m + 1) t x (i + 1) = refsN s (m + 1) t x i + (fpc (piece s (m + 1)) ⟨s.k t i, (s.t t i).toNat, x.kf i⟩).length := by
                unfold refsN; rw [fdsX_succ, refs_append]; simp [refs]
              rw [hn1]; unfold refsN
              rw [h1, refs_append, refs_cons]
              simp only [List.length_append]; omega
            have h4 := HFL.out i hi
            rw [← HLI.out, HA.out] at h4
            omega
          have HROOM := Lib.hid hroom
          rw [hfp0] at HNEXT
          obtain ⟨FK, HFK⟩ : ∃ FK, Hid (F * y.kl = FK) := ⟨_, Lib.hid rfl⟩
          have hmul : (F : Int) * (y.kl : Int) = (FK : Int) := by rw [← HFK.out]; exact (Int.natCast_mul F y.kl).symm
          have hFK0 : 0 < FK := by rw [← HFK.out]; exact Nat.mul_pos hF1 hn0
          have hFKr : Li.length + FK ≤ 1000 := by rw [← HFK.out, Nat.mul_comm]; omega
          have hwFK : IntKind.i64.wrap (FK : Int) = (FK : Int) := IntWalk.i64_in _ (by omega)
          clear hfp0 hfpl hroom
          go_wp2_with fail
          refine (r7ref_any (o : Int) (y.kl : Int) _).mono ?_
          rintro e w' ⟨rfl, rfl⟩
          generalize wr.heap.size + 1 = kq at HY0 ⊢
          generalize wr.heap.size = fq at HY0 hxlt hblt hbslt hbflt hglt ⊢
          generalize (wr.alloc (.cells #[.int .i64 5, .int .i64 (τ : Int)] 95)).alloc (.cells #[.int .u64 ((y).num : Nat), .string (y).bs, .slice A1 (y).nl k1, .slice A2 (y).kl k2] 41) = V at HY0 ⊢
          obtain ⟨f0, f1, z0, z1, z2, z3⟩ := HY0.out.cells
          have w0 := HY0.out.fx.fi.own.cell hpl
          have wf := HY0.out.fx.fi.own.frozen (a + i)
          have hnk := HY0.out.nk
          have hnf := HY0.out.nf
          have HYP := Lib.hid (HY0.out.put (a + i) (refN (o : Int) (y.kl : Int)))
          obtain ⟨B, HB⟩ : ∃ B, Hid (Li.set (a + i) (refN (o : Int) (y.kl : Int)) = B) := ⟨_, Lib.hid rfl⟩
          have HBL : Hid (Li.length = B.length) := Lib.hid (by rw [← HB.out, List.length_set])
          rw [HB.out] at HYP HNEXT
          have hown0 := HYP.out.fx.fi.own
          obtain ⟨ℓ, HLL2⟩ : ∃ ℓ, Hid (Li.length = ℓ) := ⟨_, Lib.hid rfl⟩
          rw [HLL2.out] at q4 hsub hpl hll3 HBL hFKr HROOM ⊢
          unfold WRw at hown0
          rw [← HBL.out] at hown0
          obtain ⟨ga, capa, wa, hrun, howna, hgrowa, hata⟩ := run_append_zeros (P := Tryd.prog) _ 22 3 22 26 i0 (.int .u64 0) .i64 .i64 8 Tryd.underlying22 Tryd.underlying3 hi0 hz1 hz2 hz3 rfl rfl gi ℓ capi (wcells B) hown0 FK hFK0 (by unfold maxLen; omega) (by omega)
          have HYA := Lib.hid (HYP.out.step (HYP.out.fx.fi.grow (M := List.replicate FK 0) (n := ℓ + FK) (by rw [List.length_append, List.length_replicate, ← HBL.out]) (by simpa [wcells] using howna) hgrowa (by rcases hata with e | e; exact .inl (by rw [e]); exact .inr e)))
          clear hown0 howna hgrowa hata HYP HY0
          go_wp2_with (at_builtin; refine Lib.wpList_append_run _ rfl _ _ _ _ rfl _ _ rfl rfl _ _ hrun ?_)
          clear f0 f1 z0 z1 z2 z3 w0 wf hrun e1 e2 hmul hwFK hsub
          go_loopw [17, 3] (fun jv sv wr => ∃ (j : Nat) (Lj : List Nat) (gj capj : Nat), j ≤ y.kl ∧ jv = .int .i64 j ∧ sv = .slice (some ⟨gj, 0, none⟩) Lj.length capj ∧ Hid (Lj = kidR s m τ y.kf B y.kl F j) ∧ Hid (FY Ws W g x An cn (some ⟨b, off, none⟩) ck xq 5 τ fq y A1 k1 A2 k2 kq Lj gj capj wr)) (fun jv _ _ => y.kl - (intOf jv).toNat)
          case atStart => exact ⟨0, B ++ List.replicate FK 0, ga, capa, by omega, rfl, by rw [List.length_append, List.length_replicate, ← HBL.out], Lib.hid (by rw [kidR_zero, HFK.out]), HYA⟩
          case round =>
            clear HYA
            obtain ⟨j, Lj, gj, capj, hj, rfl, rfl, HLJ, HJ⟩ := hrel
            obtain ⟨f0, f1, z0, z1, z2, z3⟩ := HJ.out.cells
            by_cases hj1 : j < y.kl
            · have f2 : decide ((j : Int) < (y.kl : Int)) = true := decide_eq_true (by omega)
              have f2' : decide (j < y.kl) = true := decide_eq_true hj1
              obtain ⟨b2, o2, rfl, -, hlt2, hc2⟩ := HTY.out.kids (by omega)
              obtain ⟨A3, k3, A4, k4, h44, htz⟩ := hc2 j hj1
              have HTZ := Lib.hid htz
              have H44 := Lib.hid h44
              have hkj := HKF.out j hj1
              have hspl := kidR_split s m τ y.kf B hkj hj1
              rw [← HLJ.out] at hspl
              have HSPL := Lib.hid hspl
              have HNJ := Lib.hid (kidR_succ s m τ y.kf B hkj hj1)
              have hlj := kidR_len s m τ y.kf B HKF.out hj
              rw [← HLJ.out, ← HBL.out] at hlj
              have hrk := refsK_le (s := s) (n := m) (t := τ) (kf := y.kf) (show j + 1 ≤ y.kl from hj1)
              rw [refsK_succ] at hrk
              have hfit : Lj.length + refsN s m τ (y.kf j) (y.kf j).kl ≤ 1000 := by have := HROOM.out; omega
              have hown1 := fdsK_len (s := s) (t := τ) (kf := y.kf) (F := F) (K := j) (fun i hi => HKF.out i (by omega))
              have hpl2 : (B ++ ownWs (piece s m) (fdsK s τ y.kf j) ((y.kl - j) * F)).length = ℓ + j * F := by rw [List.length_append, ownWs_len, hown1, ← HBL.out]
              have HFIT := Lib.hid hfit
              have hljl : Lj.length ≤ 1000 := by omega
              obtain ⟨Pj, HPJ⟩ : ∃ Pj, Hid (F * j = Pj) := ⟨_, Lib.hid rfl⟩
              have hmj : (F : Int) * (j : Int) = (Pj : Int) := by rw [← HPJ.out]; exact (Int.natCast_mul F j).symm
              rw [Nat.mul_comm j F, HPJ.out] at hpl2
              have HPL2 := Lib.hid hpl2
              have hPj : Pj ≤ 100 := by rw [← HPJ.out]; have : F * j ≤ 6 * 12 := Nat.mul_le_mul hF6 (by omega); omega
              have hwPj : IntKind.i64.wrap (Pj : Int) = (Pj : Int) := IntWalk.i64_in _ (by omega)
              have hwLP : IntKind.i64.wrap ((ℓ : Int) + (Pj : Int)) = (ℓ : Int) + (Pj : Int) := IntWalk.i64_in _ (by omega)
              have HCJ := Lib.hid (HK.out.2 j hj1)
              have q5 : (0 : Int) ≤ (j : Int) := by omega
              have q6 : (j : Int) < (y.kl : Int) := by omega
              clear hc2 htz h44 hspl hlj hrk hfit hown1 hpl2 hkj
              go_wp2_with fail
              clear f0 f1 z0 z1 z2 z3
              have HJD := Lib.hid (HJ.out.below (Below.refl _ _).drew)
              clear HJ
              go_region_held3 (fun w' => w'.cell? ⟨fq, 1, none⟩ = some (.int .i64 (τ : Int)) ∧ w'.cell? ⟨kq, 3, none⟩ = some (.slice (some ⟨b2, o2, none⟩) y.kl k2) ∧ w'.cell? ⟨b2, o2 + j * 4, none⟩ = some (.int .u64 ((y.kf j).num : Nat)) ∧ w'.cell? ⟨b2, o2 + j * 4 + 1, none⟩ = some (.string (y.kf j).bs) ∧ w'.cell? ⟨b2, o2 + j * 4 + 2, none⟩ = some (.slice A3 (y.kf j).nl k3) ∧ w'.cell? ⟨b2, o2 + j * 4 + 3, none⟩ = some (.slice A4 (y.kf j).kl k4))
                (first | exact HJD.out.S hlt2 H44.out | exact HJN.out.S hlt2 H44.out | fail)
                (first
                  | (go_at_call 76; (with_reducible refine (FillC.go HIM.out HJD τ (y.kf j) A3 A4 k3 k4 _ _ _ _ htl HCJ.out HTZ.out HSPL.out rfl (by rw [HPL2.out]; omega) (by rw [HPL2.out]; omega) HFIT.out HNJ.out).mono ?_); rintro e w5 ⟨Lk, gk, capk, rfl, HLK, HJN⟩) | fail)
              all_goals
                go_wp2
                go_roundw
                case rel => exact ⟨j + 1, Lk, gk, capk, by omega, by go_num, rfl, HLK, HJN⟩
                case measure => simp [intOf]; omega
            · have e : j = y.kl := by omega
              subst e
              have HNX := Lib.hid HJ.out.fx
              have HNL : Hid (Lj = fillR s (m + 1) t x P Q (i + 1)) := Lib.hid (by rw [HLJ.out, kidR_all, HNEXT.out])
              have f2 : decide ((y.kl : Int) < (y.kl : Int)) = false := decide_eq_false (by omega)
              go_wp2
              go_roundw
              case rel => exact ⟨i + 1, Lj, gj, capj, by omega, by go_num, rfl, HNL, HNX⟩
              case measure => simp [intOf]; omega
    · have e : i = x.kl := by omega
      subst e
      have f2 : decide ((x.kl : Int) < (LL : Int)) = false := decide_eq_false (by omega)
      have f2' : decide (x.kl < LL) = false := decide_eq_false (by omega)
      go_wp2
      go_ret
      exact ⟨Li, gi, capi, rfl, HLI, HC.out.fi⟩

end Go.Proofs.YtkhbhkllnigbgaaDoor
