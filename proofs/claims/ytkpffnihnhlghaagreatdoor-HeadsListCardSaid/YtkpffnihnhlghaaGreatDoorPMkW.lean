/- firstWords. -/
import Derived.Test.YtkpffnihnhlghaaGreatDoorPMkM
import Derived.Test.YtkpffnihnhlghaaGreatDoorPBlock
import Derived.Test.YtkpffnihnhlghaaGreatDoorPArr
namespace Go.Proofs.YtkpffnihnhlghaaGreatDoor
open Go.RowKit
theorem hd_0 (w : World) : Calls Tryz.prog 41 #[.int .i64 0] w fun e w' => e = .returned (.int .i64 3) ∧ w = w' := head_any 0 w
theorem hd_1 (w : World) : Calls Tryz.prog 41 #[.int .i64 1] w fun e w' => e = .returned (.int .i64 4) ∧ w = w' := head_any 1 w

/-- Words that are put at block q; what lies below q is as it was in V. -/
structure FS (w0 V : World) (q N : Nat) (F : Nat → Int) (W : World) : Prop where
  base : ∀ k, k < q → W.heap[k]? = V.heap[k]?
  row : W.rowIs q 34 N (fun j => .int .u64 (F j))
  be : Below w0.heap.size w0 W
  hq : w0.heap.size ≤ q
theorem FS.cell {w0 V : World} {q N : Nat} {F : Nat → Int} {W : World} (h : FS w0 V q N F W) {k o : Nat} (hk : k < q) : W.cell? ⟨k, o, none⟩ = V.cell? ⟨k, o, none⟩ := World.cell?_of_block (w := V) (h.base k hk)
theorem FS.below {w0 V : World} {q N : Nat} {F : Nat → Int} {W W' : World} (h : FS w0 V q N F W) (hb : Below W.heap.size W W') : FS w0 V q N F W' :=
  ⟨fun k hk => (hb.block k (Nat.lt_trans hk h.row.lt)).trans (h.base k hk), h.row.of_block (hb.block _ h.row.lt), h.be.trans (hb.mono h.be.size), h.hq⟩
theorem FS.alloc {w0 V : World} {q N : Nat} {F : Nat → Int} {W : World} (h : FS w0 V q N F W) (o : Obj) : FS w0 V q N F (W.alloc o) := h.below ((Below.refl _ _).alloc (Nat.le_refl _) o)
theorem FS.put {w0 V : World} {q N : Nat} {F F' : Nat → Int} {W : World} (h : FS w0 V q N F W) (m : Nat) (y : Int) (hF : ∀ j, j < N → F' j = Go.Proofs.YtkpffnihnhlghaaGreatDoor.put F m y j) : FS w0 V q N F' (W.setCell ⟨q, m, none⟩ (.int .u64 y)) :=
  ⟨fun k hk => (Below.heap_setCell W _ _ k (by simp; omega)).trans (h.base k hk), (h.row.set m _).congr (by intro j hj; rw [hF j hj]; unfold Go.Proofs.YtkpffnihnhlghaaGreatDoor.put; by_cases e : j = m <;> simp [e]), h.be.setCell (p := ⟨q, m, none⟩) h.hq _, h.hq⟩
theorem FS.congr {w0 V : World} {q N : Nat} {F F' : Nat → Int} {W : World} (h : FS w0 V q N F W) (hF : ∀ j, j < N → F' j = F j) : FS w0 V q N F' W := ⟨h.base, h.row.congr (by intro j hj; rw [hF j hj]), h.be, h.hq⟩
/-- What lies in V: the config at s, the layout at V0, the variables of its functions. -/
structure VF (V : World) (s V0 : Nat) (x : Cfg) (f3 f4 : Value) (a3 b3 d3 a4 b4 d4 : Nat) : Prop where
  cfg : CfgAt V s x
  l3 : V.cell? ⟨V0, 3, none⟩ = some f3
  l4 : V.cell? ⟨V0, 4, none⟩ = some f4
  r3 : V.cell? ⟨a3, 0, none⟩ = some (.int .i64 x.n0) ∧ V.cell? ⟨b3, 0, none⟩ = some (.int .i64 (bB x)) ∧ V.cell? ⟨d3, 0, none⟩ = some (.int .i64 (1 + x.s0))
  r4 : V.cell? ⟨a4, 0, none⟩ = some (.int .i64 x.n1) ∧ V.cell? ⟨b4, 0, none⟩ = some (.int .i64 (bB1 x)) ∧ V.cell? ⟨d4, 0, none⟩ = some (.int .i64 (1 + x.s1))
  hs : s < V0
theorem FS.cfg {w0 V : World} {q N : Nat} {F : Nat → Int} {W : World} {s V0 : Nat} {x : Cfg} {f3 f4 : Value} {a3 b3 d3 a4 b4 d4 : Nat} (h : FS w0 V q N F W) (v : VF V s V0 x f3 f4 a3 b3 d3 a4 b4 d4) (hq : V0 < q) : CfgAt W s x := v.cfg.of_block (h.base s (Nat.lt_trans v.hs hq))

/-- An arena's first words have been made; nothing else. -/
def Firsts (x : Cfg) (N : Nat) (w : World) (e : Ending) (w' : World) : Prop := ∃ g, e = .returned (.slice (some ⟨g, 0, none⟩) N N) ∧ w.heap.size ≤ g ∧ w'.rowIs g 34 N (fun j => .int .u64 (wordsC x j)) ∧ Below w.heap.size w w'
theorem made_set (w : World) (N : Nat) (v : Int) (t : TypeId) : (w.alloc (.cells ((madeCells #[.int .u64 0] N).setIfInBounds 0 (.int .u64 v)) t)).rowIs w.heap.size t N (fun j => .int .u64 (Go.Proofs.YtkpffnihnhlghaaGreatDoor.put (fun _ => 0) 0 v j)) := by
  have h := World.rowIs_alloc w ((madeCells #[.int .u64 0] N).setIfInBounds 0 (.int .u64 v)) t (fun j => .int .u64 (Go.Proofs.YtkpffnihnhlghaaGreatDoor.put (fun _ => 0) 0 v j)) (by
    intro i hi
    rw [Array.size_setIfInBounds, size_madeCells] at hi
    rw [Array.getElem?_setIfInBounds]
    unfold Go.Proofs.YtkpffnihnhlghaaGreatDoor.put
    by_cases e : i = 0
    · subst e; simp [size_madeCells, hi]
    · rw [if_neg (fun g => e g.symm), if_neg e]
      simp [madeCells, hi, Nat.mod_one])
  rw [Array.size_setIfInBounds, size_madeCells] at h
  exact h
def fk (x : Cfg) : Nat → Nat → Int
  | 0 => fw x false false (fun _ => false)
  | 1 => fw x (decide (0 < x.n0)) false (P1 x 0)
  | _ => wordsC x
theorem info_u64f : (Tryz.prog.info? 34).map (fun i => (i.zero, i.size, i.bytes)) = some (some (.int .u64 0), 1, 8) := by kernel_rfl


end Go.Proofs.YtkpffnihnhlghaaGreatDoor
