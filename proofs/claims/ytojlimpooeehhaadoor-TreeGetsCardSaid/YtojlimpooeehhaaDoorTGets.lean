/- The document's Get; TreeGets' own helper. -/
import Derived.Test.YtojlimpooeehhaaDoorTRGet
import Derived.Test.YtojlimpooeehhaaDoorTChecks
namespace Go.Proofs.YtojlimpooeehhaaDoor
open Go.RowKit
set_option maxRecDepth 100000 in
set_option maxHeartbeats 4000000 in
theorem r6Get_any (s : Sch) (A : Option Addr) (c : Nat) (t : Int) (x : Tr) (An Ak : Option Addr) (cn ck n : Nat) (Ap : Option Addr) (cp : Nat) (p : List Int) (w : World) (hs : SAt w A s) (hS : Sm n x) (hT : TAt w (fun _ => True) x An Ak) (hP : PRow w Ap p) (hpc : p.length ≤ cp) (hp1 : p.length ≤ 1000) :
    Calls Tryd.prog 41 #[.slice A s.n c, .int .i64 t, (.agg #[.int .u64 ((x).num : Nat), .string (x).bs, .slice An (x).nl cn, .slice Ak (x).kl ck]), .slice Ap p.length cp] w fun e w' => e = .returned (gotG (getC s t x p)) ∧ Below w.heap.size w w' := by
  have Hs := Lib.hid hs
  have HS := Lib.hid hS
  have HT := Lib.hid hT
  have HP := Lib.hid hP
  have K0 := Lib.hid (GX.mk' w x An cn Ak ck)
  clear hs hS hT hP
  go_enter Tryd.func41, Tryd.ntmps41
  go_wp2_with fail
  refine (r6check_any s A c t x An Ak cn ck n _ (Hs.out.below K0.out.be) HS.out (HT.out.below K0.out.be)).mono ?_
  rintro e w1 ⟨rfl, hb⟩
  have K1 := Lib.hid (K0.out.below hb)
  clear hb K0
  have rf := K1.out.rr.frozen
  have r0 := K1.out.rr.cell (i := 0) (by omega)
  have r1 := K1.out.rr.cell (i := 1) (by omega)
  simp only [if_true] at r0
  simp only [show ((1 : Nat) = 0) = False by simp, if_false] at r1
  rcases chkC_vals s t x with h | h | h | h
  · have HC := Lib.hid h
    rw [h]
    obtain ⟨hR, m, rfl, hm, hX⟩ := chkC_0 h
    have HX := Lib.hid hX
    clear h hX
    cases p with
    | nil =>
      have HG : Hid (getC s m x [] = (0, 1)) := Lib.hid (by rw [getC, if_pos HC.out, if_pos rfl])
      go_wp2
      obtain ⟨g0, g1, hB9⟩ := K1.out.fin 0 1
      exact bodyPost_ret (v := gotG (0, 1)) (by simp [gotG, results, Tryd.results41, go_sem, g0, g1]) rfl ⟨ret_gotG HG.out.symm, hB9⟩
    | cons i rest =>
      have hlen : (i :: rest).length = rest.length + 1 := rfl
      have HG0 : Hid (getC s m x (i :: rest) = getT s (i :: rest).length m x (i :: rest)) := Lib.hid (by rw [getC, if_pos HC.out, if_neg (by simp), Int.toNat_natCast])
      have hit := fun W => r6get_any s hR A c (i :: rest).length m 5 n x An Ak Ap cn ck cp (i :: rest) W hm HX.out HS.out
      obtain ⟨G, HGV⟩ : ∃ G, Hid (getT s (i :: rest).length m x (i :: rest) = G) := ⟨_, Lib.hid rfl⟩
      have HG : Hid (getC s m x (i :: rest) = G) := Lib.hid (HG0.out.trans HGV.out)
      simp only [HGV.out] at hit
      have HIT := Lib.hid hit
      have a0 := K1.out.bx.c0
      have a1 := K1.out.bx.c1
      have a2 := K1.out.bx.c2
      have a3 := K1.out.bx.c3
      simp only [Nat.zero_add] at a1 a2 a3
      obtain ⟨L, HL⟩ : ∃ L, Hid (rest.length = L) := ⟨_, Lib.hid rfl⟩
      rw [hlen, HL.out] at hpc hp1 ⊢
      have hne : ((L : Int) + 1 == 0) = false := by simp; omega
      have hne2 : ((L : Int) + 1 = 0) = False := by simp; omega
      clear hit HG0 hlen
      go_wp2_with fail
      clear a0 a1 a2 a3 hne hne2 r0 r1 rf
      have hit2 := HIT.out _ (Hs.out.below K1.out.be) (HT.out.below K1.out.be) (HP.out.below K1.out.be) (by simp) (Nat.le_refl _) (by rw [List.length_cons, HL.out]; exact hpc) (by rw [List.length_cons, HL.out]; exact hp1)
      rw [List.length_cons, HL.out] at hit2
      refine hit2.mono ?_
      rintro e w2 ⟨rfl, hb⟩
      unfold gotG
      have K2 := Lib.hid (K1.out.below hb)
      clear hb hit2
      have rf := K2.out.rr.frozen
      have r0 := K2.out.rr.cell (i := 0) (by omega)
      have r1 := K2.out.rr.cell (i := 1) (by omega)
      simp only [if_true] at r0
      simp only [show ((1 : Nat) = 0) = False by simp, if_false] at r1
      go_wp2
      obtain ⟨g0, g1, hB9⟩ := K2.out.fin ((G.1 : Nat) : Int) ((G.2 : Nat) : Int)
      exact bodyPost_ret (v := gotG G) (by simp [gotG, results, Tryd.results41, go_sem, g0, g1]) rfl ⟨ret_gotG HG.out.symm, hB9⟩
  all_goals
    have HG : Hid (getC s t x p = (0, chkC s t x)) := Lib.hid (by rw [getC, if_neg (by omega)])
    rw [h] at HG ⊢
    clear h
    go_wp2
    first
      | (obtain ⟨g0, g1, hB9⟩ := K1.out.fin 0 1; exact bodyPost_ret (v := gotG (0, 1)) (by simp [gotG, results, Tryd.results41, go_sem, g0, g1]) rfl ⟨ret_gotG HG.out.symm, hB9⟩)
      | (obtain ⟨g0, g1, hB9⟩ := K1.out.fin 0 16; exact bodyPost_ret (v := gotG (0, 16)) (by simp [gotG, results, Tryd.results41, go_sem, g0, g1]) rfl ⟨ret_gotG HG.out.symm, hB9⟩)
      | (obtain ⟨g0, g1, hB9⟩ := K1.out.fin 0 24; exact bodyPost_ret (v := gotG (0, 24)) (by simp [gotG, results, Tryd.results41, go_sem, g0, g1]) rfl ⟨ret_gotG HG.out.symm, hB9⟩)

/-- What Get told, in its box. -/
structure HV (w : World) (q N E : Nat) (W : World) : Prop where
  be : Below w.heap.size w W
  et : Cs.ErrT W
  c0 : W.cell? ⟨q, 0, none⟩ = some (.int .u64 (N : Nat))
  c1 : W.cell? ⟨q, 1, none⟩ = some (.int .i64 (E : Nat))
  lt : q < W.heap.size
theorem HV.below {w : World} {q N E : Nat} {W W' : World} (h : HV w q N E W) (hb : Below W.heap.size W W') : HV w q N E W' := ⟨Below.step h.be hb h.be.size, h.et.below hb, (hb.cell (p := ⟨q, 0, none⟩) h.lt).trans h.c0, (hb.cell (p := ⟨q, 1, none⟩) h.lt).trans h.c1, Nat.lt_of_lt_of_le h.lt hb.size⟩
theorem HV.all {w : World} {q N E : Nat} {W : World} (H : Hid (HV w q N E W)) : W.cell? ⟨q, 0, none⟩ = some (.int .u64 (N : Nat)) ∧ W.cell? ⟨q, 1, none⟩ = some (.int .i64 (E : Nat)) ∧ Hid (HV w q N E W) := ⟨H.out.c0, H.out.c1, H⟩
theorem HV.top {w : World} {q N E : Nat} {W : World} (H : Hid (HV w q N E W)) : Calls Tryd.prog 28 #[errV E] W fun e W' => e = .returned (.int .i64 (E : Int)) ∧ Hid (HV w q N E W') :=
  (top_err E W H.out.et).mono fun _ _ ⟨he, hb⟩ => ⟨he, Lib.hid (H.out.below hb)⟩

set_option maxRecDepth 100000 in
set_option maxHeartbeats 8000000 in
theorem gets_any (s : Sch) (A : Option Addr) (c : Nat) (t : Int) (x : Tr) (An Ak : Option Addr) (cn ck n : Nat) (Ap : Option Addr) (cp : Nat) (p : List Int) (w : World) (hE : Cs.ErrT w) (hs : SAt w A s) (hS : Sm n x) (hT : TAt w (fun _ => True) x An Ak) (hP : PRow w Ap p) (hpc : p.length ≤ cp) (hp1 : p.length ≤ 1000) :
    Calls Tryd.prog 18 #[.slice A s.n c, .int .i64 t, (.agg #[.int .u64 ((x).num : Nat), .string (x).bs, .slice An (x).nl cn, .slice Ak (x).kl ck]), .slice Ap p.length cp] w fun e w' => e = .returned (.bool true) ∧ Below w.heap.size w w' := by
  have K0 : Hid (LW w s A w.heap.size x An cn Ak ck (w.alloc (.cells #[.int .u64 ((x).num : Nat), .string (x).bs, .slice An (x).nl cn, .slice Ak (x).kl ck] 34))) := Lib.hid ⟨hs.below ((Below.refl _ _).alloc (Nat.le_refl _) _), hE.below ((Below.refl _ _).alloc (Nat.le_refl _) _), cell4_box w x An cn Ak ck, by simp, hT.below ((Below.refl _ _).alloc (Nat.le_refl _) _), ((Below.refl _ _).alloc (Nat.le_refl _) _)⟩
  have HS := Lib.hid hS
  have HP := Lib.hid hP
  have hg1 := fun W => tget_any s A c t x An Ak cn ck n Ap cp p W
  have hg2 := fun W => r6Get_any s A c t x An Ak cn ck n Ap cp p W
  obtain ⟨N, E, HG⟩ : ∃ N E, Hid (getC s t x p = (N, E)) := ⟨(getC s t x p).1, (getC s t x p).2, Lib.hid rfl⟩
  simp only [HG.out] at hg1 hg2
  have HG1 := Lib.hid hg1
  have HG2 := Lib.hid hg2
  clear hE hs hS hT hP hg1 hg2
  go_enter Tryd.func18, Tryd.ntmps18
  go_wp2_with fail
  refine (HG1.out _ K0.out.sat HS.out K0.out.tat (HP.out.below K0.out.be) hpc hp1).mono ?_
  rintro e w1 ⟨rfl, hb⟩
  have K1 := Lib.hid (K0.out.below hb)
  clear hb K0
  unfold gotV
  obtain ⟨v0, v1, v2, v3⟩ := K1.out.all
  go_wp2_with fail
  clear v0 v1 v2 v3
  refine (HG2.out _ K1.out.sat HS.out K1.out.tat (HP.out.below K1.out.be) hpc hp1).mono ?_
  rintro e w2 ⟨rfl, hb⟩
  have K2 := Lib.hid (K1.out.below hb)
  clear hb K1
  unfold gotG
  go_wp2_with fail
  have hr := World.rowIs_alloc w2 #[.int .u64 (N : Nat), .int .i64 (E : Nat)] 78 (fun j => if j = 0 then .int .u64 (N : Nat) else .int .i64 (E : Nat)) (by intro j hj; match j, hj with | 0, _ => rfl | 1, _ => rfl)
  have K3 : Hid (HV w w2.heap.size N E (w2.alloc (.cells #[.int .u64 (N : Nat), .int .i64 (E : Nat)] 78))) := Lib.hid ⟨K2.out.be.alloc K2.out.be.size _, K2.out.et.below ((Below.refl _ _).alloc (Nat.le_refl _) _), hr.cell (i := 0) (by simp), hr.cell (i := 1) (by simp), hr.lt⟩
  clear hr K2
  generalize w2.alloc (.cells #[.int .u64 (N : Nat), .int .i64 (E : Nat)] 78) = W3 at K3 ⊢
  generalize w2.heap.size = q at K3 ⊢
  have KD := Lib.hid (K3.out.below (Below.refl _ _).drew)
  go_region_held3 (fun w' => w'.cell? ⟨q, 0, none⟩ = some (.int .u64 (N : Nat)) ∧ w'.cell? ⟨q, 1, none⟩ = some (.int .i64 (E : Nat)) ∧ Hid (HV w q N E w'))
    (first | exact HV.all (by assumption))
    (first
      | (go_at_call 28; (with_reducible refine (HV.top (by assumption)).mono ?_); rintro e w5 ⟨rfl, K4⟩))
  all_goals
    go_wp2
    go_ret
    exact ⟨rfl, K4.out.be⟩

end Go.Proofs.YtojlimpooeehhaaDoor
