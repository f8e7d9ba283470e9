/- A struct by numbers: the document's made. -/
import Derived.Test.YtkhbhkllnigbgaaDoorTKids
import Derived.Test.YtkhbhkllnigbgaaDoorTGetM
import Derived.Deep.DeepCutAuto
import Derived.Deep.CutRange
import Derived.Deep.CutBlock
namespace Go.Proofs.YtkhbhkllnigbgaaDoor
open Go.ChangeShapes Go.WideShapes Go.ChangeAt Go.RowKit
/-- A number by a mask. -/
theorem and_mask (q : Int) (M : Nat) (hM : M < 4611686018427387904) : ∃ m : Nat, m ≤ M ∧ bits .and .i64 q (M : Int) = (m : Int) := by
  have e : (BitVec.ofInt 64 (M : Int)).toNat = M := by
    rw [BitVec.ofInt_natCast, BitVec.toNat_ofNat]; exact Nat.mod_eq_of_lt (by omega)
  refine ⟨(BitVec.ofInt 64 q &&& BitVec.ofInt 64 (M : Int)).toNat, ?_, ?_⟩
  · rw [BitVec.toNat_and, e]; exact Nat.and_le_right
  · have h : (BitVec.ofInt 64 q &&& BitVec.ofInt 64 (M : Int)).toNat ≤ M := by rw [BitVec.toNat_and, e]; exact Nat.and_le_right
    show IntKind.i64.wrap ((BitVec.ofInt 64 q &&& BitVec.ofInt 64 (M : Int)).toNat : Int) = _
    generalize (BitVec.ofInt 64 q &&& BitVec.ofInt 64 (M : Int)).toNat = m at h ⊢
    simp [IntKind.wrap, IntKind.bits, IntKind.signed]
    omega
/-- Numbers that are left. -/
structure NumsAt (w : World) (A : Option Addr) (L c : Nat) : Prop where
  row : IRow w A L
  cap : L ≤ c
  max : L ≤ 9223372036854775807
theorem NumsAt.tail {w : World} {A : Option Addr} {L c : Nat} (h : NumsAt w A (L + 1) c) : NumsAt w (behind A c) L (c - 1) := by
  have h1 := h.cap
  have h2 := h.max
  refine ⟨fun h0 => ?_, by omega, by omega⟩
  obtain ⟨b, off, hA, hlt, hc⟩ := h.row (by omega)
  subst hA
  refine ⟨b, off + 1, ?_, hlt, fun j hj => ?_⟩
  · rw [behind, if_neg (by omega)]
    simp [addr_add]
  · have := hc (j + 1) (by omega)
    rw [show off + 1 + j = off + (j + 1) by omega]
    exact this
/-- What is left of numbers, wherever these lie. -/
def Suf (A : Option Addr) (L c : Nat) (A' : Option Addr) (L' c' : Nat) : Prop := ∀ w, NumsAt w A L c → NumsAt w A' L' c'
theorem Suf.refl (A : Option Addr) (L c : Nat) : Suf A L c A L c := fun _ h => h
theorem Suf.trans {A A' A'' : Option Addr} {L L' L'' c c' c'' : Nat} (h : Suf A L c A' L' c') (g : Suf A' L' c' A'' L'' c'') : Suf A L c A'' L'' c'' := fun w k => g w (h w k)
theorem Suf.tail (A : Option Addr) (L c : Nat) : Suf A (L + 1) c (behind A c) L (c - 1) := fun _ h => h.tail
theorem NumsAt.below {w w' : World} {A : Option Addr} {L c : Nat} (h : NumsAt w A L c) (hb : Below w.heap.size w w') : NumsAt w' A L c := ⟨h.row.below hb, h.cap, h.max⟩
def zeroT (j : Nat) : Value := if j = 0 then .int .u64 0 else if j = 1 then .string ⟨#[]⟩ else .slice none 0 0
def boxT (y : Tr) (A1 : Option Addr) (k1 : Nat) (A2 : Option Addr) (k2 : Nat) (j : Nat) : Value := if j = 0 then .int .u64 (y.num : Nat) else if j = 1 then .string y.bs else if j = 2 then .slice A1 y.nl k1 else .slice A2 y.kl k2
/-- made, when m fields are there. -/
structure ML (w : World) (s : Sch) (d t : Nat) (f : Nat → Tr) (a1 : Nat → Option Addr) (k1 : Nat → Nat) (a2 : Nat → Option Addr) (k2 : Nat → Nat) (m : Nat) (Ak : Option Addr) (ck : Nat) (W : World) : Prop where
  ka : KA (fun b => w.heap.size + 2 ≤ b) (w.heap.size + 2) f a1 k1 a2 k2 m (.slice Ak m ck) W
  rbox : W.rowIs w.heap.size 41 4 zeroT
  vbox : W.rowIs (w.heap.size + 1) 41 4 (fun j => if j = 3 then .slice Ak m ck else zeroT j)
  be : Below w.heap.size w W
  ok : ∀ i, i < m → FieldT s d t i (f i)
theorem ML.size {w : World} {s : Sch} {d t : Nat} {f : Nat → Tr} {a1 : Nat → Option Addr} {k1 : Nat → Nat} {a2 : Nat → Option Addr} {k2 : Nat → Nat} {m : Nat} {Ak : Option Addr} {ck : Nat} {W : World} (h : ML w s d t f a1 k1 a2 k2 m Ak ck W) : w.heap.size + 1 < W.heap.size := h.vbox.lt
theorem ML.below {w : World} {s : Sch} {d t : Nat} {f : Nat → Tr} {a1 : Nat → Option Addr} {k1 : Nat → Nat} {a2 : Nat → Option Addr} {k2 : Nat → Nat} {m : Nat} {Ak : Option Addr} {ck : Nat} {W W' : World} (h : ML w s d t f a1 k1 a2 k2 m Ak ck W) (hb : Below W.heap.size W W') : ML w s d t f a1 k1 a2 k2 m Ak ck W' :=
  ⟨h.ka.below hb, h.rbox.of_block (hb.block _ h.rbox.lt), h.vbox.of_block (hb.block _ h.vbox.lt), Below.step h.be hb h.be.size, h.ok⟩
/-- A field in its box, behind the world Wm. -/
structure MF (Wm : World) (s : Sch) (t i : Nat) (y : Tr) (A1 : Option Addr) (k1 : Nat) (A2 : Option Addr) (k2 : Nat) (W : World) : Prop where
  fbox : W.rowIs Wm.heap.size 95 2 (fun j => if j = 0 then .int .i64 (s.k t i) else .int .i64 (s.t t i))
  box : W.rowIs (Wm.heap.size + 1) 41 4 (boxT y A1 k1 A2 k2)
  tat : TAt W (fun b => Wm.heap.size + 2 ≤ b) y A1 A2
  be : Below Wm.heap.size Wm W
theorem ML.v1 {w : World} {s : Sch} {d t : Nat} {f : Nat → Tr} {a1 : Nat → Option Addr} {k1 : Nat → Nat} {a2 : Nat → Option Addr} {k2 : Nat → Nat} {m : Nat} {Ak : Option Addr} {ck : Nat} {W w1 : World} (h : ML w s d t f a1 k1 a2 k2 m Ak ck W) {o : Obj} (hg : (W.alloc o).grownBy w1 (Value.slice Ak m ck).ownBlock) : w1.rowIs (w.heap.size + 1) 41 4 (fun j => if j = 3 then .slice Ak m ck else zeroT j) := by
  have hz := h.size
  exact h.vbox.of_block ((hg.block _ (by simp; omega) (fun e => by have := (h.ka.own.lt _ e.symm).1; omega)).trans (((Below.refl W.heap.size W).alloc (Nat.le_refl _) o).block _ hz))
/-- The field is changed in its box. -/
theorem MF.put {Wm : World} {s : Sch} {t i : Nat} {y y' : Tr} {A1 A1' : Option Addr} {k1 k1' : Nat} {A2 A2' : Option Addr} {k2 k2' : Nat} {W : World} (h : MF Wm s t i y A1 k1 A2 k2 W) (j : Nat) (u : Value) (hb : ∀ q, q < 4 → (if q = j then u else boxT y A1 k1 A2 k2 q) = boxT y' A1' k1' A2' k2' q) (ht : TAt W (fun b => Wm.heap.size + 2 ≤ b) y' A1' A2') : MF Wm s t i y' A1' k1' A2' k2' (W.setCell ⟨Wm.heap.size + 1, j, none⟩ u) :=
  ⟨h.fbox.setOther (a := ⟨Wm.heap.size + 1, j, none⟩) (by show Wm.heap.size ≠ Wm.heap.size + 1; omega) _, (h.box.set j u).congr hb, ht.keep (fun b hP _ => Below.heap_setCell W ⟨Wm.heap.size + 1, j, none⟩ u b (by show b ≠ Wm.heap.size + 1; omega)) (fun _ h _ => h) ((Below.refl 0 W).setCell (Nat.zero_le _) u).size, h.be.setCell (p := ⟨Wm.heap.size + 1, j, none⟩) (by show Wm.heap.size ≤ Wm.heap.size + 1; omega) u⟩
theorem MF.fresh {Wm : World} {s : Sch} {t i : Nat} {y : Tr} {A1 : Option Addr} {k1 : Nat} {A2 : Option Addr} {k2 : Nat} {W W' : World} (h : MF Wm s t i y A1 k1 A2 k2 W) (hb : Below W.heap.size W W') : MF Wm s t i y A1 k1 A2 k2 W' :=
  ⟨h.fbox.of_block (hb.block _ h.fbox.lt), h.box.of_block (hb.block _ h.box.lt), h.tat.below hb, Below.step h.be hb h.be.size⟩
/-- The field's box stays where an own row grows. -/
theorem MF.grown {Wm : World} {s : Sch} {t i : Nat} {y y' : Tr} {A1 A1' : Option Addr} {k1 k1' : Nat} {A2 A2' : Option Addr} {k2 k2' : Nat} {W w1 : World} (h : MF Wm s t i y A1 k1 A2 k2 W) {r : Option Nat} (hg : W.grownBy w1 r) (hr : ∀ k, r = some k → Wm.heap.size + 2 ≤ k) (hy : y = y') (e1 : A1 = A1') (e2 : k1 = k1') (e3 : A2 = A2') (e4 : k2 = k2') : w1.rowIs (Wm.heap.size + 1) 41 4 (boxT y' A1' k1' A2' k2') ∧ w1.rowIs Wm.heap.size 95 2 (fun j => if j = 0 then .int .i64 (s.k t i) else .int .i64 (s.t t i)) ∧ Below Wm.heap.size Wm w1 := by
  subst hy e1 e2 e3 e4
  refine ⟨h.box.of_block (hg.block _ h.box.lt (fun e => by have := hr _ e.symm; omega)), h.fbox.of_block (hg.block _ h.fbox.lt (fun e => by have := hr _ e.symm; omega)), h.be.trans ⟨hg.os, hg.tape, hg.output, hg.size, fun k hk => hg.block k (Nat.lt_of_lt_of_le hk h.be.size) (fun e => by have := hr _ e.symm; omega)⟩⟩
theorem none_row (W : World) (P : Nat → Prop) (nf : Nat → Nat) : NRow W P none 0 nf := ⟨⟨fun j hj => absurd hj (Nat.not_lt_zero j), fun h => absurd h (Nat.lt_irrefl 0)⟩, fun h => absurd h (Nat.lt_irrefl 0)⟩
theorem flat_tat (W : World) (P : Nat → Prop) (num : Nat) (bs : ByteArray) (nf : Nat → Nat) (kf : Nat → Tr) : TAt W P (.mk num bs 0 nf 0 kf) none none := ⟨none_row W P nf, fun h => absurd h (Nat.lt_irrefl 0)⟩
theorem fieldT_num {s : Sch} {d t i : Nat} (hk : s.k t i = 1) {N : Nat} (hN : N < 18446744073709551616) (nf : Nat → Nat) (kf : Nat → Tr) : FieldT s d t i (.mk N ⟨#[]⟩ 0 nf 0 kf) :=
  ⟨⟨fun h => absurd hk h, fun _ => rfl, fun _ => rfl, fun _ => rfl, Nat.zero_le _, Nat.zero_le _, Nat.zero_le _, fun _ => Nat.zero_le _⟩, hN, Nat.zero_le _, Nat.zero_le _, fun j hj => absurd hj (Nat.not_lt_zero j), Nat.zero_le _, fun j hj => absurd hj (Nat.not_lt_zero j)⟩
theorem fieldT_bytes {s : Sch} {d t i : Nat} (hk : s.k t i = 2) {bs : ByteArray} (hb : bs.size ≤ 15) (nf : Nat → Nat) (kf : Nat → Tr) : FieldT s d t i (.mk 0 bs 0 nf 0 kf) :=
  ⟨⟨fun _ => rfl, fun h => absurd hk h, fun _ => rfl, fun _ => rfl, by show bs.size ≤ 40; omega, Nat.zero_le _, Nat.zero_le _, fun _ => Nat.zero_le _⟩, by show 0 < 18446744073709551616; omega, hb, Nat.zero_le _, fun j hj => absurd hj (Nat.not_lt_zero j), Nat.zero_le _, fun j hj => absurd hj (Nat.not_lt_zero j)⟩
theorem fieldT_nums {s : Sch} {d t i : Nat} (hk : s.k t i = 3) {nl : Nat} (hn : nl ≤ 3) {nf : Nat → Nat} (hf : ∀ j, j < nl → nf j < 18446744073709551616) (kf : Nat → Tr) : FieldT s d t i (.mk 0 ⟨#[]⟩ nl nf 0 kf) :=
  ⟨⟨fun _ => rfl, fun _ => rfl, fun h => absurd hk h, fun _ => rfl, Nat.zero_le _, by show nl ≤ 12; omega, Nat.zero_le _, fun _ => Nat.zero_le _⟩, by show 0 < 18446744073709551616; omega, Nat.zero_le _, hn, hf, Nat.zero_le _, fun j hj => absurd hj (Nat.not_lt_zero j)⟩
theorem fieldT_kids {s : Sch} {d t i : Nat} (hk : 4 ≤ s.k t i) {kl : Nat} (h2 : kl ≤ 2) (h1 : s.k t i = 4 → kl ≤ 1) (nf : Nat → Nat) {kf : Nat → Tr} (hf : ∀ j, j < kl → MadeT s d (s.t t i).toNat (kf j)) : FieldT s d t i (.mk 0 ⟨#[]⟩ 0 nf kl kf) :=
  ⟨⟨fun _ => rfl, fun _ => rfl, fun _ => rfl, fun h => by omega, Nat.zero_le _, Nat.zero_le _, by show kl ≤ 12; omega, h1⟩, by show 0 < 18446744073709551616; omega, Nat.zero_le _, Nat.zero_le _, fun j hj => absurd hj (Nat.not_lt_zero j), h2, hf⟩
/-- One byte as a text. -/
theorem one_byte (W : World) (z : Int) (h0 : 0 ≤ z) (h1 : z < 256) : ∃ u : UInt8, (convert 195 9 (.slice (some ⟨W.heap.size, 0, none⟩) 1 1)).run Tryd.prog (W.alloc (.cells #[.int .u8 z] 5)) = .ok (.string ⟨#[u]⟩) (W.alloc (.cells #[.int .u8 z] 5)) := by
  refine ⟨UInt8.ofNat z.toNat, ?_⟩
  refine run_convert_bytes_back _ 195 9 5 ⟨W.heap.size, 0, none⟩ 1 [UInt8.ofNat z.toNat] Tryd.underlying195 Tryd.underlying5 Tryd.underlying9 ?_
  intro j hj
  match j, hj with
  | 0, _ =>
    have h2 : (UInt8.ofNat z.toNat).toNat = z.toNat % 2 ^ 8 := UInt8.toNat_ofNat'
    have : ((UInt8.ofNat z.toNat).toNat : Int) = z := by rw [h2]; omega
    show (W.alloc (.cells #[.int .u8 z] 5)).cell? ((⟨W.heap.size, 0, none⟩ : Addr).add 0) = some (.int .u8 ((UInt8.ofNat z.toNat).toNat : Int))
    rw [this]
    simp [Addr.add]
theorem cellsW_put (nf : Nat → Nat) (j N : Nat) : cellsW (adPut nf j N) (j + 1) = cellsW nf j ++ [.int .u64 (N : Nat)] := by
  rw [cellsW_succ, adPut_at]
  congr 1
  unfold cellsW
  apply List.map_congr_left
  intro i hi
  rw [adPut_ne _ _ (List.mem_range.1 hi)]
theorem own_nrow {W : World} {base : Nat} {g n c : Nat} {nf : Nat → Nat} (h : W.ownsRow base 26 1 (.slice (some ⟨g, 0, none⟩) n c) n (cellsW nf n)) (hf : ∀ i, i < n → nf i < 18446744073709551616) : NRow W (fun b => base ≤ b) (some ⟨g, 0, none⟩) n nf := by
  have hlt := h.lt g rfl
  refine ⟨⟨hf, fun _ => ⟨g, 0, rfl, hlt.2, fun j hj => ?_⟩⟩, fun _ a e => by cases e; exact hlt.1⟩
  have := h.cells (g := g) rfl j (.int .u64 (nf j : Nat)) (by simp [cellsW, hj])
  rw [addr_add] at this
  exact this
theorem MF.nums {Wm : World} {s : Sch} {t i j : Nat} {nf : Nat → Nat} {kf : Nat → Tr} {A1 : Option Addr} {c1 : Nat} {W w1 : World} (h : MF Wm s t i (.mk 0 ⟨#[]⟩ j nf 0 kf) A1 c1 none 0 W) {g cap : Nat} {z : Int} (h0 : 0 ≤ z) (h1 : z < 18446744073709551616) (hn : ∀ i, i < j → nf i < 18446744073709551616)
    (ho : w1.ownsRow (Wm.heap.size + 2) 26 1 (.slice (some ⟨g, 0, none⟩) (j + 1) cap) (j + 1) (cellsW nf j ++ [.int .u64 z])) {o : Obj} (hg : (W.alloc o).grownBy w1 (Value.slice A1 j c1).ownBlock) (hlo : ∀ k, (Value.slice A1 j c1).ownBlock = some k → Wm.heap.size + 2 ≤ k) :
    ∃ nf' : Nat → Nat, (∀ i, i < j + 1 → nf' i < 18446744073709551616) ∧ (w1.setCell ⟨Wm.heap.size + 1, 2, none⟩ (.slice (some ⟨g, 0, none⟩) (j + 1) cap)).ownsRow (Wm.heap.size + 2) 26 1 (.slice (some ⟨g, 0, none⟩) (j + 1) cap) (j + 1) (cellsW nf' (j + 1)) ∧ MF Wm s t i (.mk 0 ⟨#[]⟩ (j + 1) nf' 0 kf) (some ⟨g, 0, none⟩) cap none 0 (w1.setCell ⟨Wm.heap.size + 1, 2, none⟩ (.slice (some ⟨g, 0, none⟩) (j + 1) cap)) := by
  obtain ⟨N, rfl⟩ : ∃ N : Nat, z = N := ⟨z.toNat, by omega⟩
  have hn' : ∀ i, i < j + 1 → adPut nf j N i < 18446744073709551616 := fun i hi => by
    by_cases e : i = j
    · subst e; rw [adPut_at]; omega
    · rw [adPut_ne _ _ (by omega)]; exact hn i (by omega)
  rw [← cellsW_put] at ho
  obtain ⟨b1, b2, b3⟩ := (h.fresh ((Below.refl _ _).alloc (Nat.le_refl _) o)).grown hg hlo rfl rfl rfl rfl rfl
  have hgl := ho.lt g rfl
  have ho' := own_of (w' := w1.setCell ⟨Wm.heap.size + 1, 2, none⟩ (.slice (some ⟨g, 0, none⟩) (j + 1) cap)) ho fun k hk => Below.heap_setCell w1 ⟨Wm.heap.size + 1, 2, none⟩ _ k (by show k ≠ Wm.heap.size + 1; have := (ho.lt k hk).1; omega)
  refine ⟨adPut nf j N, hn', ho', b2.setOther (a := ⟨Wm.heap.size + 1, 2, none⟩) (by show Wm.heap.size ≠ Wm.heap.size + 1; omega) _, (b1.set 2 _).congr fun q hq => ?_, ⟨own_nrow ho' hn', fun h => absurd h (Nat.lt_irrefl 0)⟩, b3.setCell (p := ⟨Wm.heap.size + 1, 2, none⟩) (by show Wm.heap.size ≤ Wm.heap.size + 1; omega) _⟩
  match q, hq with
  | 0, _ => rfl
  | 1, _ => rfl
  | 2, _ => rfl
  | 3, _ => rfl
/-- A struct more in a field. -/
theorem MF.kids {Wm : World} {s : Sch} {t i j : Nat} {nf : Nat → Nat} {g : Nat → Tr} {a1 : Nat → Option Addr} {k1 : Nat → Nat} {a2 : Nat → Option Addr} {k2 : Nat → Nat} {Ak : Option Addr} {ck : Nat} {W w1 : World} (h : MF Wm s t i (.mk 0 ⟨#[]⟩ 0 nf j g) none 0 Ak ck W) (hk : KA (fun b => Wm.heap.size + 2 ≤ b) (Wm.heap.size + 2) g a1 k1 a2 k2 j (.slice Ak j ck) W) {x : Tr} {A1 : Option Addr} {K1 : Nat} {A2 : Option Addr} {K2 : Nat} (hx : TAt W (fun b => Wm.heap.size + 2 ≤ b ∧ (Value.slice Ak j ck).ownBlock ≠ some b) x A1 A2) {g' cap : Nat}
    (ho : w1.ownsRow (Wm.heap.size + 2) 41 4 (.slice (some ⟨g', 0, none⟩) (j + 1) cap) (j + 1) (cells4 g a1 k1 a2 k2 j ++ [.int .u64 (x.num : Nat), .string x.bs, .slice A1 x.nl K1, .slice A2 x.kl K2])) {o : Obj} (hg : (W.alloc o).grownBy w1 (Value.slice Ak j ck).ownBlock) (hv : (Value.slice (some ⟨g', 0, none⟩) (j + 1) cap).ownBlock = (Value.slice Ak j ck).ownBlock ∨ (Value.slice (some ⟨g', 0, none⟩) (j + 1) cap).ownBlock = some (W.alloc o).heap.size) :
    KA (fun b => Wm.heap.size + 2 ≤ b) (Wm.heap.size + 2) (adPut g j x) (adPut a1 j A1) (adPut k1 j K1) (adPut a2 j A2) (adPut k2 j K2) (j + 1) (.slice (some ⟨g', 0, none⟩) (j + 1) cap) (w1.setCell ⟨Wm.heap.size + 1, 3, none⟩ (.slice (some ⟨g', 0, none⟩) (j + 1) cap)) ∧ MF Wm s t i (.mk 0 ⟨#[]⟩ 0 nf (j + 1) (adPut g j x)) none 0 (some ⟨g', 0, none⟩) cap (w1.setCell ⟨Wm.heap.size + 1, 3, none⟩ (.slice (some ⟨g', 0, none⟩) (j + 1) cap)) ∧ w1.rowIs (Wm.heap.size + 1) 41 4 (boxT (.mk 0 ⟨#[]⟩ 0 nf j g) none 0 Ak ck) := by
  have hlo : ∀ k, (Value.slice Ak j ck).ownBlock = some k → Wm.heap.size + 2 ≤ k := fun k e => (hk.own.lt k e).1
  obtain ⟨b1, b2, b3⟩ := (h.fresh ((Below.refl _ _).alloc (Nat.le_refl _) o)).grown hg hlo rfl rfl rfl rfl rfl
  have hn := (hk.next (o := o) (K1 := K1) (K2 := K2) hx ho hg hv).set (p := ⟨Wm.heap.size + 1, 3, none⟩) (by show Wm.heap.size + 1 < Wm.heap.size + 2; omega) (by show ¬ (Wm.heap.size + 2 ≤ Wm.heap.size + 1); omega) (.slice (some ⟨g', 0, none⟩) (j + 1) cap)
  obtain ⟨A', c', hv', hT⟩ := hn.tat (Q := fun b => Wm.heap.size + 2 ≤ b) (num := 0) (bs := ⟨#[]⟩) (none_row _ _ nf) (fun b hb => hb) (fun b hb => hb)
  injection hv' with e1 e2 e3
  subst e1
  refine ⟨hn, ⟨b2.setOther (a := ⟨Wm.heap.size + 1, 3, none⟩) (by show Wm.heap.size ≠ Wm.heap.size + 1; omega) _, (b1.set 3 _).congr fun q hq => ?_, hT, b3.setCell (p := ⟨Wm.heap.size + 1, 3, none⟩) (by show Wm.heap.size ≤ Wm.heap.size + 1; omega) _⟩, b1⟩
  match q, hq with
  | 0, _ => rfl
  | 1, _ => rfl
  | 2, _ => rfl
  | 3, _ => rfl
/-- The next field is appended. -/
theorem ML.next {w : World} {s : Sch} {d t : Nat} {f : Nat → Tr} {a1 : Nat → Option Addr} {k1 : Nat → Nat} {a2 : Nat → Option Addr} {k2 : Nat → Nat} {m : Nat} {Ak : Option Addr} {ck : Nat} {Wm W w1 : World} (h : ML w s d t f a1 k1 a2 k2 m Ak ck Wm) {y : Tr} {A1 : Option Addr} {K1 : Nat} {A2 : Option Addr} {K2 : Nat} (hf : MF Wm s t m y A1 K1 A2 K2 W) (hy : FieldT s d t m y) {g cap : Nat}
    (ho : w1.ownsRow (w.heap.size + 2) 41 4 (.slice (some ⟨g, 0, none⟩) (m + 1) cap) (m + 1) (cells4 f a1 k1 a2 k2 m ++ [.int .u64 (y.num : Nat), .string y.bs, .slice A1 y.nl K1, .slice A2 y.kl K2])) {o : Obj} (hg : (W.alloc o).grownBy w1 (Value.slice Ak m ck).ownBlock) (hv : (Value.slice (some ⟨g, 0, none⟩) (m + 1) cap).ownBlock = (Value.slice Ak m ck).ownBlock ∨ (Value.slice (some ⟨g, 0, none⟩) (m + 1) cap).ownBlock = some (W.alloc o).heap.size) :
    ML w s d t (adPut f m y) (adPut a1 m A1) (adPut k1 m K1) (adPut a2 m A2) (adPut k2 m K2) (m + 1) (some ⟨g, 0, none⟩) cap (w1.setCell ⟨w.heap.size + 1, 3, none⟩ (.slice (some ⟨g, 0, none⟩) (m + 1) cap)) := by
  have hz := h.size
  have hW := h.below hf.be
  have hWs := hW.size
  have hlo : ∀ k, (Value.slice Ak m ck).ownBlock = some k → w.heap.size + 2 ≤ k ∧ k < Wm.heap.size := fun k e => h.ka.own.lt k e
  have hn := hW.ka.next (o := o) (K1 := K1) (K2 := K2) (hf.tat.mono fun b hb _ => ⟨by omega, fun e => by have := (hlo b e).2; omega⟩) ho hg hv
  have hblk : ∀ b, b < w.heap.size + 2 → w1.heap[b]? = W.heap[b]? := fun b hb =>
    (hg.block b (by simp; omega) (fun e => by have := (hlo b e.symm).1; omega)).trans (((Below.refl W.heap.size W).alloc (Nat.le_refl _) o).block b (by omega))
  have hBe : Below w.heap.size w w1 := by
    refine (hW.be.alloc hW.be.size o).trans ⟨hg.os, hg.tape, hg.output, hg.size, fun k hk => hg.block k ?_ ?_⟩
    · simp; omega
    · intro e
      have := (hlo k e.symm).1
      omega
  refine ⟨hn.set (p := ⟨w.heap.size + 1, 3, none⟩) (by show w.heap.size + 1 < w.heap.size + 2; omega) (by show ¬ (w.heap.size + 2 ≤ w.heap.size + 1); omega) _, ?_, ?_, hBe.setCell (p := ⟨w.heap.size + 1, 3, none⟩) (by show w.heap.size ≤ w.heap.size + 1; omega) _, fun i hi => ?_⟩
  · exact (hW.rbox.of_block (hblk _ (by omega))).setOther (a := ⟨w.heap.size + 1, 3, none⟩) (by show w.heap.size ≠ w.heap.size + 1; omega) _
  · refine ((hW.vbox.of_block (hblk _ (by omega))).set 3 _).congr fun j hj => ?_
    by_cases e : j = 3
    · rw [if_pos e, if_pos e]
    · rw [if_neg e, if_neg e, if_neg e]
  · by_cases e : i = m
    · subst e; rw [adPut_at]; exact hy
    · rw [adPut_ne _ _ (by omega)]; exact h.ok i (by omega)

theorem zero_row (w : World) : (w.alloc (.cells #[.int .u64 0, .string ⟨#[]⟩, .slice none 0 0, .slice none 0 0] 41)).rowIs w.heap.size 41 4 zeroT := World.rowIs_alloc w #[.int .u64 0, .string ⟨#[]⟩, .slice none 0 0, .slice none 0 0] 41 _ (by intro j hj; match j, hj with | 0, _ => rfl | 1, _ => rfl | 2, _ => rfl | 3, _ => rfl)
theorem ML.start (w : World) (s : Sch) (d t : Nat) (f : Nat → Tr) (a1 : Nat → Option Addr) (k1 : Nat → Nat) (a2 : Nat → Option Addr) (k2 : Nat → Nat) : ML w s d t f a1 k1 a2 k2 0 none 0 ((w.alloc (.cells #[.int .u64 0, .string ⟨#[]⟩, .slice none 0 0, .slice none 0 0] 41)).alloc (.cells #[.int .u64 0, .string ⟨#[]⟩, .slice none 0 0, .slice none 0 0] 41)) := by
  refine ⟨KA.nil _ _ _ _ _ _ _ _, (zero_row w).alloc _, ?_, by (repeat (first | with_reducible exact Below.refl _ _ | with_reducible refine Below.drew ?_ | (with_reducible refine Below.setCell ?_ ?side _; case side => exact (by first | (simp; done) | (simp; omega) | omega)) | (with_reducible refine Below.alloc ?_ ?side _; case side => exact (by first | (simp; done) | (simp; omega) | omega)))), fun i hi => by omega⟩
  have r := zero_row (w.alloc (.cells #[.int .u64 0, .string ⟨#[]⟩, .slice none 0 0, .slice none 0 0] 41))
  simp only [World.size_alloc] at r
  refine r.congr fun j hj => ?_
  by_cases e : j = 3
  · subst e; rfl
  · rw [if_neg e]
theorem MF.start (Wm : World) (s : Sch) (t i : Nat) : MF Wm s t i .leaf none 0 none 0 ((Wm.alloc (.cells #[.int .i64 (s.k t i), .int .i64 (s.t t i)] 95)).alloc (.cells #[.int .u64 0, .string ⟨#[]⟩, .slice none 0 0, .slice none 0 0] 41)) := by
  refine ⟨(World.rowIs_alloc Wm #[.int .i64 (s.k t i), .int .i64 (s.t t i)] 95 _ (by intro j hj; match j, hj with | 0, _ => rfl | 1, _ => rfl)).alloc _, ?_, (TAt_eq _ _ _ _ _).2 ⟨⟨⟨fun j hj => absurd hj (Nat.not_lt_zero j), fun h => absurd h (Nat.lt_irrefl 0)⟩, fun h => absurd h (Nat.lt_irrefl 0)⟩, fun h => absurd h (Nat.lt_irrefl 0)⟩, by (repeat (first | with_reducible exact Below.refl _ _ | with_reducible refine Below.drew ?_ | (with_reducible refine Below.setCell ?_ ?side _; case side => exact (by first | (simp; done) | (simp; omega) | omega)) | (with_reducible refine Below.alloc ?_ ?side _; case side => exact (by first | (simp; done) | (simp; omega) | omega))))⟩
  have r := zero_row (Wm.alloc (.cells #[.int .i64 (s.k t i), .int .i64 (s.t t i)] 95))
  simp only [World.size_alloc] at r
  refine r.congr fun j hj => ?_
  match j, hj with
  | 0, _ => rfl
  | 1, _ => rfl
  | 2, _ => rfl
  | 3, _ => rfl

set_option maxRecDepth 100000 in
set_option maxHeartbeats 8000000 in
theorem r6made_any (s : Sch) (hR : RightS s) (A : Option Addr) (c : Nat) (d : Nat) : ∀ (t : Nat) (D : Int) (Al : Option Addr) (L cl : Nat) (w : World), t < s.n → SAt w A s → NumsAt w Al L cl → d ≤ 6 → D ≤ d + 1 → d + 1 ≤ D →
    Calls Tryd.prog 77 #[.slice A s.n c, .int .i64 (t : Int), .slice Al L cl, .int .i64 D] w fun e w' => ∃ (x : Tr) (An : Option Addr) (cn : Nat) (Ak : Option Addr) (ck : Nat) (Al' : Option Addr) (L' cl' : Nat), e = .returned (.tuple #[(.agg #[.int .u64 ((x).num : Nat), .string (x).bs, .slice An (x).nl cn, .slice Ak (x).kl ck]), .slice Al' L' cl']) ∧ Suf Al L cl Al' L' cl' ∧ MadeT s (d + 1) t x ∧ TAt w' (fun b => w.heap.size ≤ b) x An Ak ∧ Below w.heap.size w w' := by
  obtain ⟨i0, hi0, hz1, hz2, hz3⟩ := info_parts info_tree
  obtain ⟨j0, hj0, hy1, hy2, hy3⟩ := info_parts info_u64
  induction d using Nat.strongRecOn with
  | ind d ih =>
    intro t D Al0 L0 cl0 w ht hs hN hd hD1 hD2
    have IH := Lib.hid ih
    have HR := Lib.hid hR
    have HS := Lib.hid hs
    have HN0 := Lib.hid hN
    obtain ⟨b, off, rfl, hb, hc⟩ := hs.some_ (by omega)
    obtain ⟨Ai, ci, hct, hfr⟩ := hc t ht
    have hl1 := (hR.2.2 t ht).1
    have hl6 := (hR.2.2 t ht).2.1
    obtain ⟨b', off', rfl, hb', hc'⟩ := hfr.some_ (by omega)
    have HCT := Lib.hid hct
    have HCF := Lib.hid hc'
    obtain ⟨K, HK⟩ : ∃ K, Hid (s.len t = K) := ⟨_, Lib.hid rfl⟩
    rw [HK.out] at HCT HCF hl1 hl6
    clear ih hR hs hN hc hct hfr hc'
    go_enter Tryd.func77, Tryd.ntmps77
    go_wp2
    have H0 := Lib.hid (ML.start w s d t (fun _ => .leaf) (fun _ => none) (fun _ => 0) (fun _ => none) (fun _ => 0))
    go_loopw [2, 11] (fun lv iv wr => ∃ (m : Nat) (f : Nat → Tr) (a1 : Nat → Option Addr) (k1 : Nat → Nat) (a2 : Nat → Option Addr) (k2 : Nat → Nat) (Ak : Option Addr) (ck : Nat) (Al' : Option Addr) (L' cl' : Nat), m ≤ K ∧ iv = .int .i64 m ∧ lv = .slice Al' L' cl' ∧ Hid (Suf Al0 L0 cl0 Al' L' cl') ∧ Hid (ML w s d t f a1 k1 a2 k2 m Ak ck wr)) (fun _ iv _ => K - (intOf iv).toNat)
    case atStart => exact ⟨0, _, _, _, _, _, none, 0, Al0, L0, cl0, by omega, rfl, rfl, Lib.hid (Suf.refl _ _ _), H0⟩
    case round =>
      clear H0
      obtain ⟨m, f, a1, k1, a2, k2, Ak, ck, Al, L, cl, hm, rfl, rfl, HU, HM⟩ := hrel
      have HN := Lib.hid (HU.out _ HN0.out)
      have q1 := (HM.out.be.cell (p := ⟨b, off + t, none⟩) hb).trans HCT.out
      by_cases hm1 : m < K
      · have q2 := (HM.out.be.cell (p := ⟨b', off' + m * 2, none⟩) hb').trans (HCF.out m hm1).1
        have q3 := (HM.out.be.cell (p := ⟨b', off' + m * 2 + 1, none⟩) hb').trans (HCF.out m hm1).2
        go_upto_if 32 with (fail)
        go_cut [2, 12] from 21 to 129 (fun lv nv wc => ∃ (n : Int) (Al : Option Addr) (L cl : Nat), nv = .int .i64 n ∧ lv = .slice Al L cl ∧ Hid (Suf Al0 L0 cl0 Al L cl) ∧ wc = wr)
        case first =>
          cases L with
          | zero =>
            go_wp2
            go_meet
            case rel => exact ⟨0, _, _, _, rfl, rfl, HU, rfl⟩
          | succ L =>
            obtain ⟨b3, o3, hA3, hb3, hc3⟩ := HN.out.row (by omega)
            subst hA3
            obtain ⟨z, hz⟩ := hc3 0 (by omega)
            have q4 := (HM.out.be.cell (p := ⟨b3, o3, none⟩) hb3).trans hz
            have hs1 := slice1 (some ⟨b3, o3, none⟩) L cl
            have HU' := Lib.hid (HU.out.trans (Suf.tail _ _ _))
            have dL : decide ((0 : Int) < (L : Int) + 1) = true := decide_eq_true (by omega)
            have hmx := HN.out.max
            clear hc3 hz
            go_wp2
            go_meet
            case rel => exact ⟨z, _, _, _, rfl, rfl, HU', rfl⟩
        case rest =>
          clear HN HU
          obtain ⟨n, Al, L, cl, rfl, rfl, HU, hwc⟩ := hcut
          subst hwc
          obtain ⟨Wm, hWm⟩ : ∃ Wm, Wm = wc := ⟨_, rfl⟩
          subst hWm
          have HF0 := Lib.hid (MF.start Wm s t m)
          obtain ⟨κ, HKK⟩ : ∃ κ, Hid (s.k t m = κ) := ⟨_, Lib.hid rfl⟩
          go_upto_block 2 with (fail)
          go_cut [2] from 21 to 129 (fun lv wc2 => ∃ (y : Tr) (A1 : Option Addr) (K1 : Nat) (A2 : Option Addr) (K2 : Nat) (Al : Option Addr) (L cl : Nat), lv = .slice Al L cl ∧ Hid (Suf Al0 L0 cl0 Al L cl) ∧ Hid (MF Wm s t m y A1 K1 A2 K2 wc2) ∧ Hid (FieldT s d t m y))
          case first =>
            generalize ((Wm.alloc (.cells #[.int .i64 (s.k t m), .int .i64 (s.t t m)] 95)).alloc (.cells #[.int .u64 0, .string ⟨#[]⟩, .slice none 0 0, .slice none 0 0] 41)) = W0 at HF0 ⊢
            have kb0 : W0.cell? ⟨Wm.heap.size + 1, 0, none⟩ = some (.int .u64 0) := HF0.out.box.cell (i := 0) (by omega)
            have kb1 : W0.cell? ⟨Wm.heap.size + 1, 1, none⟩ = some (.string ⟨#[]⟩) := HF0.out.box.cell (i := 1) (by omega)
            have kb2 : W0.cell? ⟨Wm.heap.size + 1, 2, none⟩ = some (.slice none 0 0) := HF0.out.box.cell (i := 2) (by omega)
            have kb3 : W0.cell? ⟨Wm.heap.size + 1, 3, none⟩ = some (.slice none 0 0) := HF0.out.box.cell (i := 3) (by omega)
            have kf := HF0.out.box.frozen
            have fb0 : W0.cell? ⟨Wm.heap.size, 0, none⟩ = some (.int .i64 (s.k t m)) := HF0.out.fbox.cell (i := 0) (by omega)
            have fb1 : W0.cell? ⟨Wm.heap.size, 1, none⟩ = some (.int .i64 (s.t t m)) := HF0.out.fbox.cell (i := 1) (by omega)
            have hkk := HR.out.field ht (show m < s.len t by rw [HK.out]; exact hm1)
            obtain hk | hk | hk | hk | hk : s.k t m = 1 ∨ s.k t m = 2 ∨ s.k t m = 3 ∨ s.k t m = 4 ∨ s.k t m = 5 := by omega
            · have HK1 := Lib.hid hk
              obtain ⟨N, hN, hNe⟩ : ∃ N : Nat, N < 18446744073709551616 ∧ IntKind.u64.wrap n = (N : Int) := ⟨(IntKind.u64.wrap n).toNat, by rw [IntKind.wrap_u64]; omega, by rw [IntKind.wrap_u64]; omega⟩
              go_wp2
              go_meet
              case rel => exact ⟨.mk N ⟨#[]⟩ 0 (fun _ => 0) 0 (fun _ => .leaf), none, 0, none, 0, _, _, _, rfl, HU, Lib.hid (HF0.out.put 0 _ (fun q hq => by match q, hq with | 0, _ => rfl | 1, _ => rfl | 2, _ => rfl | 3, _ => rfl) (flat_tat _ _ _ _ _ _)), Lib.hid (fieldT_num HK1.out hN _ _)⟩
            · have HK1 := Lib.hid hk
              obtain ⟨M, hM, hMe⟩ : ∃ m : Nat, m ≤ 15 ∧ bits .and .i64 n 15 = (m : Int) := and_mask n 15 (by omega)
              go_wp2
              clear hk fb0 fb1 kb0 kb1 kb2 kb3 kf
              go_loopw [15] (fun jv wr => ∃ (j : Nat) (bs : ByteArray), j ≤ M ∧ jv = .int .i64 j ∧ Hid (bs.size = j) ∧ Hid (MF Wm s t m (.mk 0 bs 0 (fun _ => 0) 0 (fun _ => .leaf)) none 0 none 0 wr)) (fun jv _ => M - (intOf jv).toNat)
              case atStart => exact ⟨0, ⟨#[]⟩, by omega, rfl, Lib.hid rfl, Lib.hid ⟨HF0.out.fbox, HF0.out.box.congr fun q hq => by (match q, hq with | 0, _ => rfl | 1, _ => rfl | 2, _ => rfl | 3, _ => rfl), flat_tat _ _ _ _ _ _, HF0.out.be⟩⟩
              case round =>
                clear HF0
                obtain ⟨j, bs, hj, rfl, HBS, HF⟩ := hrel
                by_cases hj1 : j < M
                · have kb1 : wr.cell? ⟨Wm.heap.size + 1, 1, none⟩ = some (.string bs) := HF.out.box.cell (i := 1) (by omega)
                  have kf := HF.out.box.frozen
                  have hbl : bs.size ≤ 15 := by rw [HBS.out]; omega
                  have hlt1 := HF.out.box.lt
                  obtain ⟨u, hu⟩ := one_byte wr (wrap64 (n + 7 * (j : Int)) % 256) (by omega) (by omega)
                  go_wp2
                  go_roundw
                  case rel => exact ⟨j + 1, bs ++ ⟨#[u]⟩, by omega, by go_num, Lib.hid (by rw [ByteArray.size_append, HBS.out]; rfl), Lib.hid ((HF.out.put 1 _ (fun q hq => by match q, hq with | 0, _ => rfl | 1, _ => rfl | 2, _ => rfl | 3, _ => rfl) (flat_tat _ _ _ _ _ _)).fresh ((Below.refl _ _).alloc (Nat.le_refl _) _))⟩
                  case measure => simp [intOf]; omega
                · go_wp2
                  go_meet
                  case rel =>
                    have e : j = M := by omega
                    subst e
                    exact ⟨_, none, 0, none, 0, _, _, _, rfl, HU, HF, Lib.hid (fieldT_bytes HK1.out (by rw [HBS.out]; exact hM) _ _)⟩
            · have HK1 := Lib.hid hk
              obtain ⟨M, hM, hMe⟩ : ∃ m : Nat, m ≤ 3 ∧ bits .and .i64 n 3 = (m : Int) := and_mask n 3 (by omega)
              go_wp2
              clear hk fb0 fb1 kb0 kb1 kb2 kb3 kf
              go_loopw [16] (fun jv wr => ∃ (j : Nat) (nf : Nat → Nat) (A1 : Option Addr) (c1 : Nat), j ≤ M ∧ jv = .int .i64 j ∧ Hid (wr.ownsRow (Wm.heap.size + 2) 26 1 (.slice A1 j c1) j (cellsW nf j)) ∧ Hid (∀ i, i < j → nf i < 18446744073709551616) ∧ Hid (MF Wm s t m (.mk 0 ⟨#[]⟩ j nf 0 (fun _ => .leaf)) A1 c1 none 0 wr)) (fun jv _ => M - (intOf jv).toNat)
              case atStart => exact ⟨0, fun _ => 0, none, 0, by omega, rfl, Lib.hid (World.ownsRow_nil _ _ _ _), Lib.hid (fun i hi => by omega), Lib.hid ⟨HF0.out.fbox, HF0.out.box.congr fun q hq => by (match q, hq with | 0, _ => rfl | 1, _ => rfl | 2, _ => rfl | 3, _ => rfl), flat_tat _ _ _ _ _ _, HF0.out.be⟩⟩
              case round =>
                clear HF0
                obtain ⟨j, nf, A1, c1, hj, rfl, HO, HNF, HF⟩ := hrel
                by_cases hj1 : j < M
                · have kb2 : wr.cell? ⟨Wm.heap.size + 1, 2, none⟩ = some (.slice A1 j c1) := HF.out.box.cell (i := 2) (by omega)
                  have hlt1 := HF.out.box.lt
                  go_wp2_with (at_builtin; (refine wpList_append_own_at _ rfl _ _ 22 rfl (Wm.heap.size + 2) 26 j0 (.int .u64 0) 1 8 Tryd.underlying22 hj0 hy1 hy2 hy3 rfl (by decide) _ _ _ rfl (HO.out.alloc _) ⟨_, 0, none⟩ 1 1 [_] rfl rfl (cell_one_new _ _ _) (by simp [Value.oneCell']) (by unfold maxLen; omega) (by omega) (by simp; omega) ?_); intro v' w1 hown' hgrow _ hblk; obtain ⟨g', cap', rfl⟩ := ownsRow_succ hown'; have hbx := ((HF.out.fresh ((Below.refl _ _).alloc (Nat.le_refl _) _)).grown hgrow (fun k e => (HO.out.lt k e).1) rfl rfl rfl rfl rfl).1; have x2 := hbx.cell (i := 2) (by omega); have xf := hbx.frozen 2; obtain ⟨nf', hn1, hn2, hn3⟩ := HF.out.nums (by rw [IntKind.wrap_u64]; omega) (by rw [IntKind.wrap_u64]; omega) HNF.out hown' hgrow (fun k e => (HO.out.lt k e).1); have HN1 := Lib.hid hn1; have HN2 := Lib.hid hn2; have HN3 := Lib.hid hn3; clear hown' hgrow hblk hbx hn1 hn2 hn3)
                  go_roundw
                  case rel => exact ⟨j + 1, nf', _, cap', by omega, by go_num, HN2, HN1, HN3⟩
                  case measure => simp [intOf]; omega
                · go_wp2
                  go_meet
                  case rel =>
                    have e : j = M := by omega
                    subst e
                    exact ⟨_, A1, c1, none, 0, _, _, _, rfl, HU, HF, Lib.hid (fieldT_nums HK1.out hM HNF.out _)⟩
            · have HK1 := Lib.hid hk
              obtain ⟨many, hmany, hMe⟩ : ∃ m : Nat, m ≤ 1 ∧ bits .and .i64 n 1 = (m : Int) := and_mask n 1 (by omega)
              have hmany2 : many ≤ 2 := by omega
              have hone : s.k t m = 4 → many ≤ 1 := fun _ => hmany
              have HONE := Lib.hid hone
              clear hone
              go_wp2
              clear hk fb0 fb1 kb0 kb1 kb2 kb3 kf hMe
              go_loopw [2, 18] (fun lv jv wr => ∃ (j : Nat) (g : Nat → Tr) (a1 : Nat → Option Addr) (k1 : Nat → Nat) (a2 : Nat → Option Addr) (k2 : Nat → Nat) (Ak : Option Addr) (ck : Nat) (Al : Option Addr) (L cl : Nat), j ≤ many ∧ jv = .int .i64 j ∧ lv = .slice Al L cl ∧ Hid (Suf Al0 L0 cl0 Al L cl) ∧ Hid (KA (fun b => Wm.heap.size + 2 ≤ b) (Wm.heap.size + 2) g a1 k1 a2 k2 j (.slice Ak j ck) wr) ∧ Hid (MF Wm s t m (.mk 0 ⟨#[]⟩ 0 (fun _ => 0) j g) none 0 Ak ck wr) ∧ Hid (∀ i, i < j → MadeT s d (s.t t m).toNat (g i))) (fun _ jv _ => many - (intOf jv).toNat)
              case atStart => exact ⟨0, fun _ => .leaf, fun _ => none, fun _ => 0, fun _ => none, fun _ => 0, none, 0, _, _, _, by omega, rfl, rfl, HU, Lib.hid (KA.nil _ _ _ _ _ _ _ _), Lib.hid ⟨HF0.out.fbox, HF0.out.box.congr fun q hq => by (match q, hq with | 0, _ => rfl | 1, _ => rfl | 2, _ => rfl | 3, _ => rfl), flat_tat _ _ _ _ _ _, HF0.out.be⟩, Lib.hid (fun i hi => by omega)⟩
              case round =>
                clear HF0 HU
                obtain ⟨j, g, b1, l1, b2, l2, Bk, ek, Al, L, cl, hj, rfl, rfl, HU, HKA, HF, HMD⟩ := hrel
                by_cases hgo : j < many ∧ 1 ≤ d
                · obtain ⟨hj1, hd1⟩ := hgo
                  obtain ⟨τ, HTT⟩ : ∃ τ, Hid ((s.t t m).toNat = τ) := ⟨_, Lib.hid rfl⟩
                  have hml : m < s.len t := by rw [HK.out]; exact hm1
                  have hτ : τ < s.n := by rw [← HTT.out]; exact HR.out.tlt ht hml
                  have HTE : Hid (s.t t m = (τ : Int)) := Lib.hid (by rw [← HTT.out]; have := HR.out.field ht hml; omega)
                  have fb1 : wr.cell? ⟨Wm.heap.size, 1, none⟩ = some (.int .i64 (τ : Int)) := by rw [← HTE.out]; exact HF.out.fbox.cell (i := 1) (by omega)
                  have HBE := Lib.hid (Below.step HM.out.be HF.out.be HM.out.be.size)
                  have hDw : IntKind.i64.wrap (D - 1) = D - 1 := IntWalk.i64_in _ (by omega)
                  have dD : decide (1 < D) = true := decide_eq_true (by omega)
                  go_wp2_with fail
                  refine (IH.out (d - 1) (by omega) τ (D - 1) Al L cl _ hτ (HS.out.below HBE.out) ((HU.out _ HN0.out).below HBE.out) (by omega) (by omega) (by omega)).mono ?_
                  rintro e w2 ⟨x, An, cn, Ax, cx, Al', L', cl', rfl, hU, hMd, hTx, hb2⟩
                  rw [show d - 1 + 1 = d by omega] at hMd
                  have HU' := Lib.hid (HU.out.trans hU)
                  have HKA2 := Lib.hid (HKA.out.below hb2)
                  have HF2 := Lib.hid (HF.out.fresh hb2)
                  have hown := fun k e => (HKA.out.own.lt k e).2
                  have hwz : Wm.heap.size + 2 ≤ wr.heap.size := by have := HF.out.box.lt; omega
                  have HTX := Lib.hid (show TAt w2 (fun b => Wm.heap.size + 2 ≤ b ∧ (Value.slice Bk j ek).ownBlock ≠ some b) x An Ax from hTx.mono fun b hb _ => ⟨by omega, fun e => by have := hown b e; omega⟩)
                  have HMX := Lib.hid hMd
                  have HB2 := Lib.hid hb2
                  have kb3 : w2.cell? ⟨Wm.heap.size + 1, 3, none⟩ = some (.slice Bk j ek) := HF2.out.box.cell (i := 3) (by omega)
                  have hlt2 := HF2.out.box.lt
                  have hz3' : Wm.heap.size + 2 ≤ w2.heap.size := by omega
                  clear hU hMd hTx hb2 hown fb1 hDw dD
                  go_wp2_with (at_builtin; (refine wpList_append_own_at _ rfl _ _ 39 rfl (Wm.heap.size + 2) 41 i0 (.agg #[.int .u64 0, .string ⟨#[]⟩, .slice none 0 0, .slice none 0 0]) 4 72 Tryd.underlying39 hi0 hz1 hz2 hz3 rfl (by decide) _ _ _ rfl ((HKA2.out.own.alloc _).alloc _) ⟨_, 0, none⟩ 1 1 [.int .u64 (x.num : Nat), .string x.bs, .slice An x.nl cn, .slice Ax x.kl cx] rfl rfl (cell_four_at _ _ _ _ _ _ _ (by simp)) (by simp [Value.oneCell']) (by unfold maxLen; omega) (by omega) (by simp; omega) ?_); intro v' w1 hown' hgrow _ hblk; obtain ⟨g', cap', rfl⟩ := ownsRow_succ hown'; obtain ⟨n1, n2, n3⟩ := (HF2.out.fresh ((Below.refl _ _).alloc (Nat.le_refl _) _)).kids (HKA2.out.below ((Below.refl _ _).alloc (Nat.le_refl _) _)) (HTX.out.below ((Below.refl _ _).alloc (Nat.le_refl _) _)) hown' hgrow hblk; have x3 := n3.cell (i := 3) (by omega); have xf := n3.frozen 3; have N1 := Lib.hid n1; have N2 := Lib.hid n2; clear hown' hgrow hblk n1 n2 n3)
                  go_roundw
                  case rel =>
                    refine ⟨j + 1, _, _, _, _, _, _, cap', _, _, _, by omega, by go_num, rfl, HU', N1, N2, Lib.hid fun i hi => ?_⟩
                    by_cases e : i = j
                    · subst e; rw [adPut_at, HTT.out]; exact HMX.out
                    · rw [adPut_ne _ _ (by omega)]; exact HMD.out i (by omega)
                  case measure => simp [intOf]; omega
                · by_cases hj1 : j < many
                  · have dD : decide (1 < D) = false := decide_eq_false (by omega)
                    go_wp2
                    go_meet
                    case rel => exact ⟨_, none, 0, Bk, ek, _, _, _, rfl, HU, HF, Lib.hid (fieldT_kids (by rw [HK1.out]; omega) (by omega) (fun h => by have := HONE.out h; omega) _ HMD.out)⟩
                  · go_wp2
                    go_meet
                    case rel => exact ⟨_, none, 0, Bk, ek, _, _, _, rfl, HU, HF, Lib.hid (fieldT_kids (by rw [HK1.out]; omega) (by omega) (fun h => by have := HONE.out h; omega) _ HMD.out)⟩
            · have HK1 := Lib.hid hk
              obtain ⟨M1, hM1, hMe1⟩ : ∃ m : Nat, m ≤ 1 ∧ bits .and .i64 n 1 = (m : Int) := and_mask n 1 (by omega)
              obtain ⟨M, hM, hMe⟩ : ∃ m : Nat, m ≤ 3 ∧ bits .and .i64 n 3 = (m : Int) := and_mask n 3 (by omega)
              obtain ⟨many, hmany2, hR1⟩ : ∃ R : Nat, R ≤ 2 ∧ (M : Int) % 3 = (R : Int) := ⟨M % 3, by omega, by omega⟩
              have hR2 : (M : Int).tmod 3 = (many : Int) := by rw [Int.tmod_eq_emod_of_nonneg (by omega)]; exact hR1
              have HONE : Hid (s.k t m = 4 → many ≤ 1) := Lib.hid (fun h => by rw [HK1.out] at h; omega)
              go_wp2
              clear hk fb0 fb1 kb0 kb1 kb2 kb3 kf hMe hMe1 hR1 hR2
              go_loopw [2, 18] (fun lv jv wr => ∃ (j : Nat) (g : Nat → Tr) (a1 : Nat → Option Addr) (k1 : Nat → Nat) (a2 : Nat → Option Addr) (k2 : Nat → Nat) (Ak : Option Addr) (ck : Nat) (Al : Option Addr) (L cl : Nat), j ≤ many ∧ jv = .int .i64 j ∧ lv = .slice Al L cl ∧ Hid (Suf Al0 L0 cl0 Al L cl) ∧ Hid (KA (fun b => Wm.heap.size + 2 ≤ b) (Wm.heap.size + 2) g a1 k1 a2 k2 j (.slice Ak j ck) wr) ∧ Hid (MF Wm s t m (.mk 0 ⟨#[]⟩ 0 (fun _ => 0) j g) none 0 Ak ck wr) ∧ Hid (∀ i, i < j → MadeT s d (s.t t m).toNat (g i))) (fun _ jv _ => many - (intOf jv).toNat)
              case atStart => exact ⟨0, fun _ => .leaf, fun _ => none, fun _ => 0, fun _ => none, fun _ => 0, none, 0, _, _, _, by omega, rfl, rfl, HU, Lib.hid (KA.nil _ _ _ _ _ _ _ _), Lib.hid ⟨HF0.out.fbox, HF0.out.box.congr fun q hq => by (match q, hq with | 0, _ => rfl | 1, _ => rfl | 2, _ => rfl | 3, _ => rfl), flat_tat _ _ _ _ _ _, HF0.out.be⟩, Lib.hid (fun i hi => by omega)⟩
              case round =>
                clear HF0 HU
                obtain ⟨j, g, b1, l1, b2, l2, Bk, ek, Al, L, cl, hj, rfl, rfl, HU, HKA, HF, HMD⟩ := hrel
                by_cases hgo : j < many ∧ 1 ≤ d
                · obtain ⟨hj1, hd1⟩ := hgo
                  obtain ⟨τ, HTT⟩ : ∃ τ, Hid ((s.t t m).toNat = τ) := ⟨_, Lib.hid rfl⟩
                  have hml : m < s.len t := by rw [HK.out]; exact hm1
                  have hτ : τ < s.n := by rw [← HTT.out]; exact HR.out.tlt ht hml
                  have HTE : Hid (s.t t m = (τ : Int)) := Lib.hid (by rw [← HTT.out]; have := HR.out.field ht hml; omega)
                  have fb1 : wr.cell? ⟨Wm.heap.size, 1, none⟩ = some (.int .i64 (τ : Int)) := by rw [← HTE.out]; exact HF.out.fbox.cell (i := 1) (by omega)
                  have HBE := Lib.hid (Below.step HM.out.be HF.out.be HM.out.be.size)
                  have hDw : IntKind.i64.wrap (D - 1) = D - 1 := IntWalk.i64_in _ (by omega)
                  have dD : decide (1 < D) = true := decide_eq_true (by omega)
                  go_wp2_with fail
                  refine (IH.out (d - 1) (by omega) τ (D - 1) Al L cl _ hτ (HS.out.below HBE.out) ((HU.out _ HN0.out).below HBE.out) (by omega) (by omega) (by omega)).mono ?_
                  rintro e w2 ⟨x, An, cn, Ax, cx, Al', L', cl', rfl, hU, hMd, hTx, hb2⟩
                  rw [show d - 1 + 1 = d by omega] at hMd
                  have HU' := Lib.hid (HU.out.trans hU)
                  have HKA2 := Lib.hid (HKA.out.below hb2)
                  have HF2 := Lib.hid (HF.out.fresh hb2)
                  have hown := fun k e => (HKA.out.own.lt k e).2
                  have hwz : Wm.heap.size + 2 ≤ wr.heap.size := by have := HF.out.box.lt; omega
                  have HTX := Lib.hid (show TAt w2 (fun b => Wm.heap.size + 2 ≤ b ∧ (Value.slice Bk j ek).ownBlock ≠ some b) x An Ax from hTx.mono fun b hb _ => ⟨by omega, fun e => by have := hown b e; omega⟩)
                  have HMX := Lib.hid hMd
                  have HB2 := Lib.hid hb2
                  have kb3 : w2.cell? ⟨Wm.heap.size + 1, 3, none⟩ = some (.slice Bk j ek) := HF2.out.box.cell (i := 3) (by omega)
                  have hlt2 := HF2.out.box.lt
                  have hz3' : Wm.heap.size + 2 ≤ w2.heap.size := by omega
                  clear hU hMd hTx hb2 hown fb1 hDw dD
                  go_wp2_with (at_builtin; (refine wpList_append_own_at _ rfl _ _ 39 rfl (Wm.heap.size + 2) 41 i0 (.agg #[.int .u64 0, .string ⟨#[]⟩, .slice none 0 0, .slice none 0 0]) 4 72 Tryd.underlying39 hi0 hz1 hz2 hz3 rfl (by decide) _ _ _ rfl ((HKA2.out.own.alloc _).alloc _) ⟨_, 0, none⟩ 1 1 [.int .u64 (x.num : Nat), .string x.bs, .slice An x.nl cn, .slice Ax x.kl cx] rfl rfl (cell_four_at _ _ _ _ _ _ _ (by simp)) (by simp [Value.oneCell']) (by unfold maxLen; omega) (by omega) (by simp; omega) ?_); intro v' w1 hown' hgrow _ hblk; obtain ⟨g', cap', rfl⟩ := ownsRow_succ hown'; obtain ⟨n1, n2, n3⟩ := (HF2.out.fresh ((Below.refl _ _).alloc (Nat.le_refl _) _)).kids (HKA2.out.below ((Below.refl _ _).alloc (Nat.le_refl _) _)) (HTX.out.below ((Below.refl _ _).alloc (Nat.le_refl _) _)) hown' hgrow hblk; have x3 := n3.cell (i := 3) (by omega); have xf := n3.frozen 3; have N1 := Lib.hid n1; have N2 := Lib.hid n2; clear hown' hgrow hblk n1 n2 n3)
                  go_roundw
                  case rel =>
                    refine ⟨j + 1, _, _, _, _, _, _, cap', _, _, _, by omega, by go_num, rfl, HU', N1, N2, Lib.hid fun i hi => ?_⟩
                    by_cases e : i = j
                    · subst e; rw [adPut_at, HTT.out]; exact HMX.out
                    · rw [adPut_ne _ _ (by omega)]; exact HMD.out i (by omega)
                  case measure => simp [intOf]; omega
                · by_cases hj1 : j < many
                  · have dD : decide (1 < D) = false := decide_eq_false (by omega)
                    go_wp2
                    go_meet
                    case rel => exact ⟨_, none, 0, Bk, ek, _, _, _, rfl, HU, HF, Lib.hid (fieldT_kids (by rw [HK1.out]; omega) (by omega) (fun h => by have := HONE.out h; omega) _ HMD.out)⟩
                  · go_wp2
                    go_meet
                    case rel => exact ⟨_, none, 0, Bk, ek, _, _, _, rfl, HU, HF, Lib.hid (fieldT_kids (by rw [HK1.out]; omega) (by omega) (fun h => by have := HONE.out h; omega) _ HMD.out)⟩
          case rest =>
            clear HU
            obtain ⟨y, A1, K1, A2, K2, Al, L, cl, rfl, HU, HF, HY⟩ := hcut
            have HM2 := Lib.hid (HM.out.below HF.out.be)
            have hz2' := HM2.out.size
            have v3 := HM2.out.vbox.cell (i := 3) (by omega)
            have y0 := HF.out.box.cell (i := 0) (by omega)
            have y1 := HF.out.box.cell (i := 1) (by omega)
            have y2 := HF.out.box.cell (i := 2) (by omega)
            have y3 := HF.out.box.cell (i := 3) (by omega)
            simp only [boxT, if_true, show ((1 : Nat) = 0) = False by simp, show ((2 : Nat) = 0) = False by simp, show ((2 : Nat) = 1) = False by simp, show ((3 : Nat) = 0) = False by simp, show ((3 : Nat) = 1) = False by simp, show ((3 : Nat) = 2) = False by simp, if_false] at v3 y0 y1 y2 y3
            have hkl := HY.out.2.2.2.2.2.1
            have hm6 : m ≤ 6 := by omega
            go_wp2_with (at_builtin; (refine wpList_append_own_at _ rfl _ _ 39 rfl (w.heap.size + 2) 41 i0 (.agg #[.int .u64 0, .string ⟨#[]⟩, .slice none 0 0, .slice none 0 0]) 4 72 Tryd.underlying39 hi0 hz1 hz2 hz3 rfl (by decide) _ _ _ rfl (HM2.out.ka.own.alloc _) ⟨_, 0, none⟩ 1 1 [.int .u64 (y.num : Nat), .string y.bs, .slice A1 y.nl K1, .slice A2 y.kl K2] rfl rfl (cell_four_at _ _ _ _ _ _ _ (by simp)) (by simp [Value.oneCell']) (by unfold maxLen; omega) (by omega) (by simp; omega) ?_); intro v' w1 hown' hgrow _ hblk; obtain ⟨g', cap', rfl⟩ := ownsRow_succ hown'; have Hnx := Lib.hid (HM.out.next HF.out HY.out hown' hgrow hblk); have Hv1 := Lib.hid (HM2.out.v1 hgrow); have x3 := Hv1.out.cell (i := 3) (by omega); have xf := Hv1.out.frozen 3; clear hown' hgrow hblk)
            go_roundw
            case rel =>
              exact ⟨m + 1, _, _, _, _, _, _, cap', Al, L, cl, by omega, by go_num, rfl, HU, Hnx⟩
            case measure => simp [intOf]; omega
      · have e : m = K := by omega
        subst e
        have r0 := HM.out.rbox.cell (i := 0) (by omega)
        have r1 := HM.out.rbox.cell (i := 1) (by omega)
        have r2 := HM.out.rbox.cell (i := 2) (by omega)
        have r3 := HM.out.rbox.cell (i := 3) (by omega)
        have rf := HM.out.rbox.frozen
        have v0 := HM.out.vbox.cell (i := 0) (by omega)
        have v1 := HM.out.vbox.cell (i := 1) (by omega)
        have v2 := HM.out.vbox.cell (i := 2) (by omega)
        have v3 := HM.out.vbox.cell (i := 3) (by omega)
        simp only [zeroT, if_true, show ((1 : Nat) = 0) = False by simp, show ((2 : Nat) = 0) = False by simp, show ((2 : Nat) = 1) = False by simp, show ((3 : Nat) = 0) = False by simp, show ((3 : Nat) = 1) = False by simp, show ((0 : Nat) = 3) = False by simp, show ((1 : Nat) = 3) = False by simp, show ((2 : Nat) = 3) = False by simp, if_false] at r0 r1 r2 r3 v0 v1 v2 v3
        go_wp2
        have HK2 := ((((HM.out.ka.set (p := ⟨w.heap.size, 0, none⟩) (by show w.heap.size < w.heap.size + 2; omega) (by show ¬ (w.heap.size + 2 ≤ w.heap.size); omega) (.int .u64 0)).set (p := ⟨w.heap.size, 1, none⟩) (by show w.heap.size < w.heap.size + 2; omega) (by show ¬ (w.heap.size + 2 ≤ w.heap.size); omega) (.string ⟨#[]⟩)).set (p := ⟨w.heap.size, 2, none⟩) (by show w.heap.size < w.heap.size + 2; omega) (by show ¬ (w.heap.size + 2 ≤ w.heap.size); omega) (.slice none 0 0)).set (p := ⟨w.heap.size, 3, none⟩) (by show w.heap.size < w.heap.size + 2; omega) (by show ¬ (w.heap.size + 2 ≤ w.heap.size); omega) (.slice Ak m ck))
        obtain ⟨A', c', hv, hT⟩ := HK2.tat (Q := fun b => w.heap.size ≤ b) (num := 0) (bs := ⟨#[]⟩) (nl := 0) (nf := fun _ => 0) (An := none) ⟨⟨fun j hj => absurd hj (Nat.not_lt_zero j), fun h => absurd h (Nat.lt_irrefl 0)⟩, fun h => absurd h (Nat.lt_irrefl 0)⟩ (fun b hb => by omega) (fun b hb => by omega)
        injection hv with e1 e2 e3
        subst e1 e3
        refine bodyPost_ret (v := .tuple #[.agg #[.int .u64 0, .string ⟨#[]⟩, .slice none 0 0, .slice Ak m ck], .slice Al L cl]) (by simp [results, Tryd.results77, go_sem, r0, r1, r2, r3]) rfl ⟨.mk 0 ⟨#[]⟩ 0 (fun _ => 0) m f, none, 0, Ak, ck, Al, L, cl, rfl, HU.out, ⟨⟨rfl, rfl, rfl, HK.out.symm⟩, HM.out.ok⟩, hT, ?_⟩
        exact (((HM.out.be.setCell (p := ⟨w.heap.size, 0, none⟩) (Nat.le_refl _) _).setCell (p := ⟨w.heap.size, 1, none⟩) (Nat.le_refl _) _).setCell (p := ⟨w.heap.size, 2, none⟩) (Nat.le_refl _) _).setCell (p := ⟨w.heap.size, 3, none⟩) (Nat.le_refl _) _

end Go.Proofs.YtkhbhkllnigbgaaDoor
