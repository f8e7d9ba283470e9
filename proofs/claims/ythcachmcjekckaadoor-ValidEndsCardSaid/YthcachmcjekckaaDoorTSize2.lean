/- tree.Size, tree.Deep. -/
import Derived.Test.YthcachmcjekckaaDoorTEnterS

namespace Go.Proofs.YthcachmcjekckaaDoor
open Go.RowKit
set_option maxRecDepth 100000 in
set_option maxHeartbeats 2000000 in
theorem eachS_any (q1 : Nat) (n : Nat) (x : Tr) (An Ak : Option Addr) (cn ck : Nat) (a : Nat × Nat) (W : World) (hS : Sm (2 * n) x) (hn : n ≤ 90) (hT : TAt W (fun b => ¬ (fun b => b = q1) b) x An Ak) (hI : IS q1 a W) (hr : a.2 + cntT x ≤ 2147483647) :
    Calls Tryd.prog 58 #[(.agg #[.int .u64 ((x).num : Nat), .string (x).bs, .slice An (x).nl cn, .slice Ak (x).kl ck]), .func (.func 59) #[] #[.pointer (some ⟨q1, 0, none⟩)]] W fun e W' => e = .returned (.tuple #[]) ∧ IS q1 (visN (fun y _ b => b + ownW y) n x 1 a) W' ∧ ButP (fun b => b = q1) W W' := by
  have HS := Lib.hid hS
  have HT := Lib.hid hT
  have HI := Lib.hid hI
  have hqlt : ∀ b, (fun b => b = q1) b → b < W.heap.size := fun b e => by have e : b = q1 := e; have := HI.out.row.lt; omega
  have HQL := Lib.hid hqlt
  have hmf := mk_func
  clear hS hT hI hqlt
  go_enter Tryd.func58, Tryd.ntmps58
  go_wp2_with fail
  have hb3 : Below W.heap.size W (((W.alloc (.cells #[.int .u64 ((x).num : Nat), .string (x).bs, .slice An (x).nl cn, .slice Ak (x).kl ck] 32)).alloc (.cells #[.func (.func 59) #[] #[.pointer (some ⟨q1, 0, none⟩)]] 120)).alloc (.cells #[.func (.func 96) #[] #[.pointer (some ⟨W.heap.size + 1, 0, none⟩), .pointer (some ⟨W.heap.size + 1 + 1, 0, none⟩)]] 120)) := by (repeat (first | with_reducible exact Below.refl _ _ | with_reducible refine Below.drew ?_ | (with_reducible refine Below.setCell ?_ ?side _; case side => exact (by first | (simp; done) | (simp; omega) | omega)) | (with_reducible refine Below.alloc ?_ ?side _; case side => exact (by first | (simp; done) | (simp; omega) | omega))))
  have hEW : EW (W.heap.size + 1) (W.heap.size + 1 + 1) (.func (.func 59) #[] #[.pointer (some ⟨q1, 0, none⟩)]) (((W.alloc (.cells #[.int .u64 ((x).num : Nat), .string (x).bs, .slice An (x).nl cn, .slice Ak (x).kl ck] 32)).alloc (.cells #[.func (.func 59) #[] #[.pointer (some ⟨q1, 0, none⟩)]] 120)).alloc (.cells #[.func (.func 96) #[] #[.pointer (some ⟨W.heap.size + 1, 0, none⟩), .pointer (some ⟨W.heap.size + 1 + 1, 0, none⟩)]] 120)) := by
    have r1 := (World.rowIs_alloc (W.alloc (.cells #[.int .u64 ((x).num : Nat), .string (x).bs, .slice An (x).nl cn, .slice Ak (x).kl ck] 32)) #[.func (.func 59) #[] #[.pointer (some ⟨q1, 0, none⟩)]] 120 (fun _ => .func (.func 59) #[] #[.pointer (some ⟨q1, 0, none⟩)]) (by intro j hj; match j, hj with | 0, _ => rfl)).alloc (.cells #[.func (.func 96) #[] #[.pointer (some ⟨W.heap.size + 1, 0, none⟩), .pointer (some ⟨W.heap.size + 1 + 1, 0, none⟩)]] 120)
    have r2 := World.rowIs_alloc ((W.alloc (.cells #[.int .u64 ((x).num : Nat), .string (x).bs, .slice An (x).nl cn, .slice Ak (x).kl ck] 32)).alloc (.cells #[.func (.func 59) #[] #[.pointer (some ⟨q1, 0, none⟩)]] 120)) #[.func (.func 96) #[] #[.pointer (some ⟨W.heap.size + 1, 0, none⟩), .pointer (some ⟨W.heap.size + 1 + 1, 0, none⟩)]] 120 (fun _ => .func (.func 96) #[] #[.pointer (some ⟨W.heap.size + 1, 0, none⟩), .pointer (some ⟨W.heap.size + 1 + 1, 0, none⟩)]) (by intro j hj; match j, hj with | 0, _ => rfl)
    simp only [World.size_alloc] at r1 r2
    exact ⟨r1.lt, r2.lt, r1.cell (i := 0) (by simp), r2.cell (i := 0) (by simp)⟩
  refine (enterS_any q1 (W.heap.size + 1) (W.heap.size + 1 + 1) n x An Ak cn ck 1 1 a _ HS.out (by omega) (by omega) (by omega) (HT.out.below hb3) (HI.out.below hb3) hEW (fun e => by have := HQL.out _ e; omega) (fun e => by have := HQL.out _ e; omega) hr).mono ?_
  rintro e w1 ⟨rfl, hI1, hB1⟩
  have HI1 := Lib.hid hI1
  have HB1 := Lib.hid (ButP.trans (ButP.of_below hb3) hB1)
  clear hI1 hB1 hb3 hmf hEW
  go_wp2
  exact bodyPost_end (v := .tuple #[]) (by simp [results, Tryd.results58, go_sem]) rfl ⟨rfl, HI1.out, HB1.out⟩

/-- What Size tells. -/
noncomputable def sizeC (s : Sch) (t : Int) (x : Tr) : Nat := if chkC s t x = 0 then 1 + wds true x else 0
theorem cnt_room {n : Nat} {x : Tr} (h : Sm (2 * n) x) (hn : n ≤ 6) : cntT x ≤ 2000000000 := by
  have h1 := cntT_le (h.mono (show 2 * n ≤ 12 by omega))
  have h2 : (5 : Nat) ^ 12 = 244140625 := by decide
  omega
theorem int_row (w : World) (z : Nat) : (w.alloc (.cells #[.int .i64 ((z : Nat) : Int)] 3)).rowIs w.heap.size 3 1 (fun _ => .int .i64 ((z : Nat) : Int)) := World.rowIs_alloc w #[.int .i64 ((z : Nat) : Int)] 3 _ (by intro j hj; match j, hj with | 0, _ => rfl)

set_option maxRecDepth 100000 in
set_option maxHeartbeats 2000000 in
theorem tsize_any (s : Sch) (A : Option Addr) (c : Nat) (t : Int) (x : Tr) (An Ak : Option Addr) (cn ck n : Nat) (w : World) (hs : SAt w A s) (hS : Sm (2 * n) x) (hn : n ≤ 6) (hT : TAt w (fun _ => True) x An Ak) :
    Calls Tryd.prog 33 #[.slice A s.n c, .int .i64 t, (.agg #[.int .u64 ((x).num : Nat), .string (x).bs, .slice An (x).nl cn, .slice Ak (x).kl ck])] w fun e w' => e = .returned (.int .i64 ((sizeC s t x : Nat) : Int)) ∧ Below w.heap.size w w' := by
  have H0 := Lib.hid (CC.mk' (k1 := cn) (k2 := ck) hs hT)
  have HS := Lib.hid hS
  have hmf := mk_func
  clear hs hT hS
  by_cases h0 : chkC s t x = 0
  · have HC := Lib.hid h0
    have HZ : Hid (sizeC s t x = 1 + wds true x) := Lib.hid (if_pos h0)
    clear h0
    go_enter Tryd.func33, Tryd.ntmps33
    go_wp2_with fail
    refine (tcheck_any s A c t x An Ak cn ck _ _ H0.out.sat HS.out H0.out.tat).mono ?_
    rintro e w1 ⟨rfl, hb⟩
    rw [HC.out, errV_0]
    have H1 := Lib.hid (H0.out.below hb)
    clear hb
    obtain ⟨b0, b1, b2, b3, -⟩ := H1.out.all
    have l0 := H1.out.lt
    have hne : w.heap.size ≠ w1.heap.size := by omega
    go_wp2_with fail
    clear b0 b1 b2 b3
    have hI : IS w1.heap.size (1, 0) (w1.alloc (.cells #[.int .i64 1] 3)) := ⟨int_row w1 1, by simp⟩
    refine (eachS_any w1.heap.size n x An Ak cn ck (1, 0) _ HS.out (by omega) ((H1.out.tat.lt.below ((Below.refl _ _).alloc (Nat.le_refl _) (.cells #[.int .i64 1] 3))).mono fun b hb _ => by show ¬ b = w1.heap.size; omega) hI (by have := cnt_room HS.out hn; omega)).mono ?_
    rintro e w2 ⟨rfl, hI2, hB2⟩
    have c0 := hI2.row.cell (i := 0) (by omega)
    have HV := Lib.hid (vis_size HS.out 1 (1, 0))
    rw [HV.out] at c0
    have HB : Hid (Below w.heap.size w w2) := Lib.hid ((H1.out.be.alloc H1.out.be.size (.cells #[.int .i64 1] 3)).trans (hB2.below (B := w.heap.size) (by simp; omega) (fun k hk e => by have e : k = w1.heap.size := e; omega)))
    clear hI2 hB2 hmf
    go_wp2
    go_ret
    exact ⟨by rw [HZ.out, Int.natCast_add]; rfl, HB.out⟩
  · have HZ : Hid (sizeC s t x = 0) := Lib.hid (if_neg h0)
    rcases chkC_vals s t x with h | h | h | h
    · exact absurd h h0
    all_goals
      have HC := Lib.hid h
      clear h h0
      go_enter Tryd.func33, Tryd.ntmps33
      go_wp2_with fail
      refine (tcheck_any s A c t x An Ak cn ck _ _ H0.out.sat HS.out H0.out.tat).mono ?_
      rintro e w1 ⟨rfl, hb⟩
      rw [HC.out]
      first | rw [show errV 1 = .iface 37 (.int .i64 1) from rfl] | rw [errV_16] | rw [errV_24]
      have H1 := Lib.hid (H0.out.below hb)
      clear hb
      go_wp2
      go_ret
      exact ⟨by rw [HZ.out]; rfl, H1.out.be⟩


end Go.Proofs.YthcachmcjekckaaDoor
