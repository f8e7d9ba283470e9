/- What a field refers to is laid behind: texts' words, numbers, structs. -/
import Derived.Test.YthcachmcjekckaaDoorBEach
import Derived.Test.YthcachmcjekckaaDoorTMade2
import Derived.Deep.Upon
namespace Go.Proofs.YthcachmcjekckaaDoor
open Go.ChangeShapes Go.WideShapes Go.ChangeAt Go.RowKit
/-- A field as the builder gets it. -/
def boxF (p k τ : Int) (y : Tr) (A1 : Option Addr) (k1 : Nat) (A2 : Option Addr) (k2 : Nat) (j : Nat) : Value :=
  if j = 0 then .int .i64 p else if j = 1 then .int .i64 k else if j = 2 then .int .i64 τ else if j = 3 then .int .u64 (y.num : Nat) else if j = 4 then .string y.bs else if j = 5 then .slice A1 y.nl k1 else .slice A2 y.kl k2
def kidsX (y : Tr) : Tr := .mk 0 ⟨#[]⟩ 0 (fun _ => 0) y.kl y.kf
theorem TAt.kidsOf {W : World} {P : Nat → Prop} {y : Tr} {A1 A2 : Option Addr} (h : TAt W P y A1 A2) : TAt W P (kidsX y) none A2 := ⟨none_row _ _ _, ((TAt_eq _ _ _ _ _).1 h).2⟩
theorem boxF_row (w : World) (p k τ : Int) (y : Tr) (A1 : Option Addr) (k1 : Nat) (A2 : Option Addr) (k2 : Nat) : (w.alloc (.cells #[.int .i64 p, .int .i64 k, .int .i64 τ, .int .u64 (y.num : Nat), .string y.bs, .slice A1 y.nl k1, .slice A2 y.kl k2] 168)).rowIs w.heap.size 168 7 (boxF p k τ y A1 k1 A2 k2) := World.rowIs_alloc w #[.int .i64 p, .int .i64 k, .int .i64 τ, .int .u64 (y.num : Nat), .string y.bs, .slice A1 y.nl k1, .slice A2 y.kl k2] 168 _ (by intro j hj; match j, hj with | 0, _ => rfl | 1, _ => rfl | 2, _ => rfl | 3, _ => rfl | 4, _ => rfl | 5, _ => rfl | 6, _ => rfl)
/-- Within layBehind. -/
structure HB (Ws W : World) (q : Nat) (s : Sch) (A : Option Addr) (c : Nat) (g : Nat) (p k τ : Int) (y : Tr) (A1 : Option Addr) (k1 : Nat) (A2 : Option Addr) (k2 : Nat) (fq : Nat) (L' : List Nat) (g' cap' : Nat) (W' : World) : Prop where
  eo : EO Ws W q s A c (kidsX y) A2 g L' g' cap' W'
  nr : NRow W' (fun b => b ≠ q ∧ b ≠ g') A1 y.nl y.nf
  box : W'.rowIs fq 168 7 (boxF p k τ y A1 k1 A2 k2)
  n1 : fq ≠ q
  n2 : fq ≠ g'
theorem HB.cells {Ws W : World} {q : Nat} {s : Sch} {A : Option Addr} {c g : Nat} {p k τ : Int} {y : Tr} {A1 : Option Addr} {k1 : Nat} {A2 : Option Addr} {k2 : Nat} {fq : Nat} {L' : List Nat} {g' cap' : Nat} {W' : World} (h : HB Ws W q s A c g p k τ y A1 k1 A2 k2 fq L' g' cap' W') :
    W'.cell? ⟨fq, 0, none⟩ = some (.int .i64 p) ∧ W'.cell? ⟨fq, 1, none⟩ = some (.int .i64 k) ∧ W'.cell? ⟨fq, 2, none⟩ = some (.int .i64 τ) ∧ W'.cell? ⟨fq, 4, none⟩ = some (.string y.bs) ∧ W'.cell? ⟨fq, 5, none⟩ = some (.slice A1 y.nl k1) ∧ W'.cell? ⟨fq, 6, none⟩ = some (.slice A2 y.kl k2) :=
  ⟨h.box.cell (i := 0) (by omega), h.box.cell (i := 1) (by omega), h.box.cell (i := 2) (by omega), h.box.cell (i := 4) (by omega), h.box.cell (i := 5) (by omega), h.box.cell (i := 6) (by omega)⟩
theorem NRow.below {w w' : World} {P : Nat → Prop} {A : Option Addr} {L : Nat} {f : Nat → Nat} (h : NRow w P A L f) (hb : Below w.heap.size w w') : NRow w' P A L f := ⟨h.1.below hb, h.2⟩
theorem NRow.butP {w w' : World} {Q P : Nat → Prop} {A : Option Addr} {L : Nat} {f : Nat → Nat} (h : NRow w P A L f) (hb : ButP Q w w') (hQ : ∀ b, P b → ¬ Q b) : NRow w' P A L f := ⟨h.1.of_block (fun h0 a e hl => hb.block _ hl (hQ _ (h.2 h0 a e))) hb.size, h.2⟩
theorem HB.below {Ws W : World} {q : Nat} {s : Sch} {A : Option Addr} {c g : Nat} {p k τ : Int} {y : Tr} {A1 : Option Addr} {k1 : Nat} {A2 : Option Addr} {k2 : Nat} {fq : Nat} {L' : List Nat} {g' cap' : Nat} {W' W2 : World} (h : HB Ws W q s A c g p k τ y A1 k1 A2 k2 fq L' g' cap' W') (hb : Below W'.heap.size W' W2) : HB Ws W q s A c g p k τ y A1 k1 A2 k2 fq L' g' cap' W2 :=
  ⟨h.eo.below hb, h.nr.below hb, h.box.of_block (hb.block _ h.box.lt), h.n1, h.n2⟩
theorem ButP.mono {Q Q' : Nat → Prop} {w w' : World} (h : ButP Q w w') (hq : ∀ b, Q b → Q' b) : ButP Q' w w' := ⟨h.os, h.tape, h.output, h.size, fun k hk hn => h.block k hk fun e => hn (hq _ e)⟩
/-- Words were laid at the same row. -/
theorem HB.same {Ws W : World} {q : Nat} {s : Sch} {A : Option Addr} {c g : Nat} {p k τ : Int} {y : Tr} {A1 : Option Addr} {k1 : Nat} {A2 : Option Addr} {k2 : Nat} {fq : Nat} {L' L2 : List Nat} {g' cap' cap2 : Nat} {W' W2 : World} (h : HB Ws W q s A c g p k τ y A1 k1 A2 k2 fq L' g' cap' W') (hbw : BW q s A c L2 g' cap2 W2) (hp : ButP (fun b => b = q ∨ b = g') W' W2) : HB Ws W q s A c g p k τ y A1 k1 A2 k2 fq L2 g' cap2 W2 :=
  ⟨h.eo.step (.inl rfl) hbw hp, h.nr.butP hp (fun b hb e => by
    rcases e with e | e
    · exact hb.1 e
    · exact hb.2 e), h.box.of_block (hp.block _ h.box.lt (fun e => by
    rcases e with e | e
    · exact h.n1 e
    · exact h.n2 e)), h.n1, h.n2⟩
theorem HB.refer {Ws W : World} {q : Nat} {s : Sch} {A : Option Addr} {c g : Nat} {p : Nat} {k τ : Int} {y : Tr} {A1 : Option Addr} {k1 : Nat} {A2 : Option Addr} {k2 : Nat} {fq : Nat} {L' : List Nat} {g' cap' : Nat} {W' : World} (n : Nat) (H : Hid (HB Ws W q s A c g (p : Int) k τ y A1 k1 A2 k2 fq L' g' cap' W')) (hp : p < L'.length) (hL : L'.length ≤ 10000) :
    Calls Tryd.prog 99 #[.pointer (some ⟨q, 0, none⟩), .int .i64 (p : Int), .int .i64 (n : Int)] W' fun e W2 => e = .returned (.tuple #[]) ∧ Hid (HB Ws W q s A c g (p : Int) k τ y A1 k1 A2 k2 fq (referL p n L') g' cap' W2) ∧ Hid (ButP (fun b => b = g') W' W2) :=
  (refer_any q s A c L' g' cap' p n W' H.out.eo.bw hp hL).mono fun _ _ ⟨he, hbw, hb⟩ => ⟨he, Lib.hid (H.out.same hbw (hb.mono fun _ e => .inr e)), Lib.hid hb⟩
/-- The words' contract. -/
theorem HB.words {Ws W : World} {q : Nat} {s : Sch} {A : Option Addr} {c g : Nat} {p k τ : Int} {y : Tr} {A1 : Option Addr} {k1 : Nat} {A2 : Option Addr} {k2 : Nat} {fq : Nat} {L' : List Nat} {g' cap' : Nat} {W' : World} (H : Hid (HB Ws W q s A c g p k τ y A1 k1 A2 k2 fq L' g' cap' W')) (hm : y.bs.size ≤ 50) :
    Calls Tryd.prog 98 #[.string y.bs] W' fun e W2 => ∃ z, e = .returned (.slice (some ⟨z, 0, none⟩) (cnt y.bs.size) (cnt y.bs.size)) ∧ Hid (HB Ws W q s A c g p k τ y A1 k1 A2 k2 fq L' g' cap' W2) ∧ Hid (W2.rowIs z 28 (cnt y.bs.size) (fun j => .int .u64 (wordOf y.bs j : Nat)) ∧ z ≠ q ∧ z ≠ g') :=
  (bwords_any y.bs (by omega) W').mono fun _ _ ⟨he, hr, hb⟩ => ⟨W'.heap.size, he, Lib.hid (H.out.below hb), Lib.hid ⟨hr, by have := H.out.eo.bw.box.lt; omega, by have := H.out.eo.bw.gq; omega⟩⟩

/-- The contract of layStructs, n levels deep. -/
def LayC (s : Sch) (A : Option Addr) (c : Nat) (Ws : World) (n : Nat) : Prop := ∀ (q t K : Nat) (kf : Nat → Tr) (Ak : Option Addr) (ck : Nat) (L : List Nat) (g cap : Nat) (W : World),
  EO Ws W q s A c (.mk 0 ⟨#[]⟩ 0 (fun _ => 0) K kf) Ak g L g cap W → t < s.n → (∀ j, j < K → chk s n t (kf j) = 0) → K ≤ 12 → L.length + sumN (fun j => wds true (kf j)) K ≤ 1000 →
    Calls Tryd.prog 36 #[.pointer (some ⟨q, 0, none⟩), .int .i64 (t : Int), .slice Ak K ck] W fun e W' => e = .returned (.tuple #[]) ∧ ∃ g' cap', EO Ws W q s A c (.mk 0 ⟨#[]⟩ 0 (fun _ => 0) K kf) Ak g (layL s n t K kf L) g' cap' W'
theorem EO.here {Ws W : World} {q : Nat} {s : Sch} {A : Option Addr} {c : Nat} {X : Tr} {Ak : Option Addr} {g : Nat} {L' : List Nat} {g' cap' : Nat} {W' : World} (h : EO Ws W q s A c X Ak g L' g' cap' W') : EO Ws W' q s A c X Ak g' L' g' cap' W' := ⟨h.bw, h.wb, h.lq, h.lg, .inl rfl, h.tat, ButP.refl _ _⟩
theorem LayC.go {s : Sch} {A : Option Addr} {c : Nat} {Ws : World} {n : Nat} (IH : LayC s A c Ws n) {W : World} {q g : Nat} {p k τ' : Int} {y : Tr} {A1 : Option Addr} {k1 : Nat} {A2 : Option Addr} {k2 : Nat} {fq : Nat} {L' : List Nat} {g' cap' : Nat} {W' : World} (τ : Nat) (H : Hid (HB Ws W q s A c g p k τ' y A1 k1 A2 k2 fq L' g' cap' W')) (ht : τ < s.n) (hc : ∀ j, j < y.kl → chk s n τ (y.kf j) = 0) (hK : y.kl ≤ 12) (hL : L'.length + sumN (fun j => wds true (y.kf j)) y.kl ≤ 1000) :
    Calls Tryd.prog 36 #[.pointer (some ⟨q, 0, none⟩), .int .i64 (τ : Int), .slice A2 y.kl k2] W' fun e W2 => e = .returned (.tuple #[]) ∧ ∃ g2 cap2, Hid (EO Ws W q s A c (kidsX y) A2 g (layL s n τ y.kl y.kf L') g2 cap2 W2) :=
  (IH q τ y.kl y.kf A2 k2 L' g' cap' W' H.out.eo.here ht hc hK hL).mono fun _ _ ⟨he, g2, cap2, h2⟩ => ⟨he, g2, cap2, Lib.hid (H.out.eo.step h2.at_ h2.bw h2.fr)⟩

theorem wcells_get (L : List Nat) (j : Nat) (u : Value) (h : (wcells L)[j]? = some u) : ∃ x, L[j]? = some x ∧ u = .int .u64 (x : Nat) := by
  simp only [wcells, List.getElem?_map] at h
  cases hx : L[j]? with
  | none => rw [hx] at h; cases h
  | some x => rw [hx] at h; exact ⟨x, rfl, (Option.some.inj h).symm⟩
theorem wcells_one (L : List Nat) : ∀ u ∈ wcells L, u.oneCell' = true := by
  intro u hu
  simp only [wcells, List.mem_map] at hu
  obtain ⟨x, _, rfl⟩ := hu
  rfl
theorem nrow_cells {W : World} {P : Nat → Prop} {A : Option Addr} {y : Tr} (h : NRow W P A y.nl y.nf) (h0 : 0 < y.nl) : ∃ a, A = some a ∧ P a.block ∧ ∀ j u, (wcells (numsL y))[j]? = some u → W.cell? (a.add j) = some u := by
  obtain ⟨b, o, hA, _, hc⟩ := h.1.2 h0
  refine ⟨⟨b, o, none⟩, hA, h.2 h0 _ hA, fun j u hu => ?_⟩
  obtain ⟨x, hx, rfl⟩ := wcells_get _ _ _ hu
  have hj : j < y.nl := by
    have := (List.getElem?_eq_some_iff.1 hx).1
    rw [numsL_length] at this
    exact this
  have e : x = y.nf j := by
    simp only [numsL, List.getElem?_map, List.getElem?_range hj, Option.map_some] at hx
    exact (Option.some.inj hx).symm
  rw [e, addr_add]
  exact hc j hj
theorem row_cells {W : World} {z : Nat} {bs : ByteArray} (h : W.rowIs z 28 (cnt bs.size) (fun j => .int .u64 (wordOf bs j : Nat))) : ∀ j u, (wcells (wordsB bs))[j]? = some u → W.cell? ((⟨z, 0, none⟩ : Addr).add j) = some u := fun j u hu => by
  obtain ⟨x, hx, rfl⟩ := wcells_get _ _ _ hu
  have hj : j < cnt bs.size := by
    have := (List.getElem?_eq_some_iff.1 hx).1
    rw [wordsB_length] at this
    exact this
  have e : x = wordOf bs j := by
    simp only [wordsB, List.getElem?_map, List.getElem?_range hj, Option.map_some] at hx
    exact (Option.some.inj hx).symm
  rw [e, addr_add, Nat.zero_add]
  exact h.cell hj

end Go.Proofs.YthcachmcjekckaaDoor
