/- The document's Make. -/
import Derived.Test.YtkpffnihnhlghaaDoorPMake
import Derived.Test.YtkpffnihnhlghaaDoorPRef
namespace Go.Proofs.YtkpffnihnhlghaaDoor
open Go.RowKit
/-- A config at b, the document's arena at p and c; nothing old has changed. -/
structure RM (w0 : World) (b p c N : Nat) (x : Cfg) (y : St) (W : World) : Prop where
  cfg : CfgAt W b x
  rs : RS W p c N y
  bp : b ≠ p
  bc : b ≠ c
  hp : w0.heap.size ≤ p
  hc : w0.heap.size ≤ c
  be : Below w0.heap.size w0 W
theorem RM.below {w0 : World} {b p c N : Nat} {x : Cfg} {y : St} {W : World} {W' : World} (h : RM w0 b p c N x y W) (hb : Below W.heap.size W W') : RM w0 b p c N x y W' := ⟨h.cfg.below hb, h.rs.below hb h.rs.obj.lt h.rs.row.lt, h.bp, h.bc, h.hp, h.hc, h.be.trans (hb.mono h.be.size)⟩
theorem RM.drew {w0 : World} {b p c N : Nat} {x : Cfg} {y : St} {W : World} (h : RM w0 b p c N x y W) : RM w0 b p c N x y W.drew := h.below (Below.refl _ _).drew
theorem RM.put {w0 : World} {b p c N : Nat} {x : Cfg} {y : St} {W : World} (h : RM w0 b p c N x y W) (m : Nat) (u : Int) : RM w0 b p c N x { y with f := Go.Proofs.YtkpffnihnhlghaaDoor.put y.f m u } (W.setCell ⟨c, m, none⟩ (.int .u64 u)) :=
  ⟨h.cfg.setOther (a := ⟨c, m, none⟩) h.bc _, ⟨h.rs.obj.setOther (a := ⟨c, m, none⟩) h.rs.ne _, (h.rs.row.set m _).congr (by intro j _; unfold Go.Proofs.YtkpffnihnhlghaaDoor.put; by_cases e : j = m <;> simp [e]), h.rs.ne⟩, h.bp, h.bc, h.hp, h.hc, h.be.setCell (p := ⟨c, m, none⟩) h.hc _⟩
theorem RM.all {w0 : World} {b p c N : Nat} {x : Cfg} {y : St} {W : World} (h : RM w0 b p c N x y W) : W.cell? ⟨b, 0, none⟩ = some (.int .i64 x.t) ∧ W.cell? ⟨b, 1, none⟩ = some (.int .i64 x.s) ∧ W.cell? ⟨b, 2, none⟩ = some (.int .i64 x.l) ∧ W.cell? ⟨b, 3, none⟩ = some (.int .i64 x.c) ∧ W.cell? ⟨b, 4, none⟩ = some (.int .i64 x.s0) ∧ W.cell? ⟨b, 5, none⟩ = some (.int .i64 x.n0) ∧ W.cell? ⟨b, 6, none⟩ = some (.int .i64 x.s1) ∧ W.cell? ⟨b, 7, none⟩ = some (.int .i64 x.n1) ∧ W.cell? ⟨b, 8, none⟩ = some (.int .i64 x.r) ∧ W.cell? ⟨p, 0, none⟩ = some (.slice (some ⟨c, 0, none⟩) N N) ∧ W.cell? ⟨b, 0, none⟩ = some (.int .i64 x.t) := by
  obtain ⟨c0, c1, c2, c3, c4, c5, c6, c7, c8⟩ := h.cfg.cells
  exact ⟨c0, c1, c2, c3, c4, c5, c6, c7, c8, h.rs.c 0 (by omega), c0⟩
theorem RM.set {w0 : World} {b p c N : Nat} {x : Cfg} {y : St} {W : World} (h : RM w0 b p c N x y W) {y' : St} (hf : y'.f = y.f) {W' : World} (ho : W'.rowIs p 85 8 (objR c N y')) (hO : ∀ k, k ≠ p → W'.heap[k]? = W.heap[k]?) (hb : Below w0.heap.size w0 W') : RM w0 b p c N x y' W' :=
  ⟨h.cfg.of_block (hO _ h.bp), ⟨ho, (h.rs.row.of_block (hO _ h.rs.ne.symm)).congr (by intro j _; rw [hf]), h.rs.ne⟩, h.bp, h.bc, h.hp, h.hc, hb⟩

/-- The document's arena of a config has been made; nothing else. -/
def RMade (x : Cfg) (N : Nat) (w : World) (e : Ending) (w' : World) : Prop := ∃ p c y, e = .returned (.pointer (some ⟨p, 0, none⟩)) ∧ RS w' p c N y ∧ (∀ j, j < N → y.f j = wordsC x j) ∧ y.s = nz (wordsC x) N ∧ w.heap.size ≤ p ∧ w.heap.size ≤ c ∧ Below w.heap.size w w'

/-- The same, by the words and the steps. -/
def RF (w0 : World) (b p c N : Nat) (x : Cfg) (F : Nat → Int) (s : Int) (W : World) : Prop := ∃ y, RM w0 b p c N x y W ∧ (∀ j, y.f j = F j) ∧ y.s = s
theorem RF.below {w0 : World} {b p c N : Nat} {x : Cfg} {F : Nat → Int} {s : Int} {W W' : World} (h : RF w0 b p c N x F s W) (hb : Below W.heap.size W W') : RF w0 b p c N x F s W' := by
  obtain ⟨y, h1, h2⟩ := h
  exact ⟨y, h1.below hb, h2⟩
theorem RF.drew {w0 : World} {b p c N : Nat} {x : Cfg} {F : Nat → Int} {s : Int} {W : World} (h : RF w0 b p c N x F s W) : RF w0 b p c N x F s W.drew := h.below (Below.refl _ _).drew
theorem RF.put {w0 : World} {b p c N : Nat} {x : Cfg} {F F' : Nat → Int} {s : Int} {W : World} (h : RF w0 b p c N x F s W) (m : Nat) (u : Int) (hF : ∀ j, F' j = Go.Proofs.YtkpffnihnhlghaaDoor.put F m u j) : RF w0 b p c N x F' s (W.setCell ⟨c, m, none⟩ (.int .u64 u)) := by
  obtain ⟨y, h1, h2, h3⟩ := h
  refine ⟨_, h1.put m u, fun j => ?_, h3⟩
  rw [hF j]
  show Go.Proofs.YtkpffnihnhlghaaDoor.put y.f m u j = _
  unfold Go.Proofs.YtkpffnihnhlghaaDoor.put
  rw [h2 j]
theorem RF.congr {w0 : World} {b p c N : Nat} {x : Cfg} {F F' : Nat → Int} {s : Int} {W : World} (h : RF w0 b p c N x F s W) (hF : ∀ j, F' j = F j) : RF w0 b p c N x F' s W := by
  obtain ⟨y, h1, h2, h3⟩ := h
  exact ⟨y, h1, fun j => by rw [hF j, h2 j], h3⟩
theorem RF.all {w0 : World} {b p c N : Nat} {x : Cfg} {F : Nat → Int} {s : Int} {W : World} (h : RF w0 b p c N x F s W) : W.cell? ⟨b, 0, none⟩ = some (.int .i64 x.t) ∧ W.cell? ⟨b, 1, none⟩ = some (.int .i64 x.s) ∧ W.cell? ⟨b, 2, none⟩ = some (.int .i64 x.l) ∧ W.cell? ⟨b, 3, none⟩ = some (.int .i64 x.c) ∧ W.cell? ⟨b, 4, none⟩ = some (.int .i64 x.s0) ∧ W.cell? ⟨b, 5, none⟩ = some (.int .i64 x.n0) ∧ W.cell? ⟨b, 6, none⟩ = some (.int .i64 x.s1) ∧ W.cell? ⟨b, 7, none⟩ = some (.int .i64 x.n1) ∧ W.cell? ⟨b, 8, none⟩ = some (.int .i64 x.r) ∧ W.cell? ⟨p, 0, none⟩ = some (.slice (some ⟨c, 0, none⟩) N N) ∧ W.cell? ⟨b, 0, none⟩ = some (.int .i64 x.t) := by
  obtain ⟨y, h1, _⟩ := h
  exact h1.all
theorem RF.cell {w0 : World} {b p c N : Nat} {x : Cfg} {F : Nat → Int} {s : Int} {W : World} (h : RF w0 b p c N x F s W) {m : Nat} (hm : m < N) : W.cell? ⟨c, m, none⟩ = some (.int .u64 (F m)) := by
  obtain ⟨y, h1, h2, _⟩ := h
  rw [← h2 m]
  exact h1.rs.row.cell hm
theorem RF.frz {w0 : World} {b p c N : Nat} {x : Cfg} {F : Nat → Int} {s : Int} {W : World} (h : RF w0 b p c N x F s W) (j : Nat) : W.frozen? ⟨c, j, none⟩ = false := by
  obtain ⟨y, h1, _⟩ := h
  exact h1.rs.row.frozen j
/-- Which blocks lead to the next one, when the document's loop has come to m. -/
def PR (x : Cfg) (m : Nat) : Nat → Bool := fun b => decide (b < m) && decide ((b : Int) ≠ x.n0)
theorem pr_step {x : Cfg} (hr : Right x) (p3 p4 : Bool) (m : Nat) (h1 : 1 ≤ m) (h2 : (m : Int) < x.n0 + x.n1) (h3 : ¬ (m : Int) = x.n0) (j : Nat) : fw x p3 p4 (PR x (m + 1)) j = Go.Proofs.YtkpffnihnhlghaaDoor.put (fw x p3 p4 (PR x m)) (adr x m) ((m : Int) + 1) j :=
  fw_b hr p3 p4 h1 (by omega) (by simp [PR, h3]) (by simp [PR]) (fun b _ _ h => by
    unfold PR
    rw [Bool.eq_iff_iff]
    simp
    omega) j
theorem pr_skip {x : Cfg} (hr : Right x) (p3 p4 : Bool) (m : Nat) (h3 : (m : Int) = x.n0) (j : Nat) : fw x p3 p4 (PR x (m + 1)) j = fw x p3 p4 (PR x m) j :=
  fw_congr hr rfl rfl (fun b _ _ => by
    unfold PR
    rw [Bool.eq_iff_iff]
    simp
    omega) j
theorem pr_end {x : Cfg} (hr : Right x) (p3 p4 : Bool) (h3 : p3 = decide (0 < x.n0)) (h4 : p4 = decide (0 < x.n1)) (m : Nat) (_h1 : 1 ≤ m) (h : (m : Int) ≤ x.n0 + x.n1 ∨ m = 1) (h2 : ¬ (m : Int) < x.n0 + x.n1) (j : Nat) : wordsC x j = fw x p3 p4 (PR x m) j :=
  fw_congr hr h3.symm h4.symm (fun b _ _ => by
    unfold PR
    rw [Bool.eq_iff_iff]
    simp
    omega) j
theorem pr_start {x : Cfg} (hr : Right x) (p3 p4 : Bool) (j : Nat) : fw x p3 p4 (PR x 1) j = fw x p3 p4 (fun _ => false) j :=
  fw_congr hr rfl rfl (fun b _ _ => by simp [PR]; omega) j
theorem class_same {x : Cfg} (hr : Right x) (m : Int) (h1 : 1 ≤ m) (h2 : m < x.n0 + x.n1) : (classC x m == classC x (m + 1)) = !decide (m = x.n0) := by
  have hb := hr.b
  by_cases h : m = x.n0
  · rw [class_0 (by omega) (by omega), class_1 (by omega) (by omega)]; simp [h]
  · by_cases g : m < 1 + x.n0
    · rw [class_0 (by omega) g, class_0 (by omega) (by omega)]; simp [h]
    · rw [class_1 (by omega) g, class_1 (by omega) (by omega)]; simp [h]
theorem r4Block_adr (x : Cfg) (m : Nat) (w : World) (hr : Right x) (h1 : 1 ≤ m) (h2 : (m : Int) ≤ x.n0 + x.n1) : Calls Tryd.prog 71 #[(.agg #[.int .i64 x.t, .int .i64 x.s, .int .i64 x.l, .int .i64 x.c, .int .i64 x.s0, .int .i64 x.n0, .int .i64 x.s1, .int .i64 x.n1, .int .i64 x.r]), .int .i64 m] w fun e w' => e = .returned (.int .i64 (adr x m : Int)) ∧ Below w.heap.size w w' := by
  have h := r4Block_any x m w hr
  rw [← (adr_low hr m h1 h2).2.1] at h
  exact h
/-- A step more: the document's arena counts it, and tells it. -/
theorem RF.count {w0 : World} {b p c N : Nat} {x : Cfg} {F : Nat → Int} {s : Int} {W : World} (h : RF w0 b p c N x F s W) (i v : Int) : RF w0 b p c N x F (s + 1) (((((W.setCell ⟨p, 1, none⟩ (.int .i64 (s + 1))).setCell ⟨p, 2, none⟩ (.int .i64 2)).setCell ⟨p, 3, none⟩ (.int .i64 i)).setCell ⟨p, 4, none⟩ (.int .u64 v)).setCell ⟨p, 5, none⟩ (.bool true)) := by
  obtain ⟨y, h1, h2, h3⟩ := h
  refine ⟨{ y with s := s + 1, k := 2, i := i, v := v, ch := true }, h1.set (y' := { y with s := s + 1, k := 2, i := i, v := v, ch := true }) rfl ((((((h1.rs.obj.set 1 _).set 2 _).set 3 _).set 4 _).set 5 _).congr ?_) ?_ ?_, h2, rfl⟩
  · intro j hj; match j, hj with | 0, _ => rfl | 1, _ => rfl | 2, _ => rfl | 3, _ => rfl | 4, _ => rfl | 5, _ => rfl | 6, _ => rfl | 7, _ => rfl
  · intro k hk
    rw [Below.heap_setCell _ _ _ _ hk, Below.heap_setCell _ _ _ _ hk, Below.heap_setCell _ _ _ _ hk, Below.heap_setCell _ _ _ _ hk, Below.heap_setCell _ _ _ _ hk]
  · exact ((((h1.be.setCell (p := ⟨p, 1, none⟩) h1.hp _).setCell (p := ⟨p, 2, none⟩) h1.hp _).setCell (p := ⟨p, 3, none⟩) h1.hp _).setCell (p := ⟨p, 4, none⟩) h1.hp _).setCell (p := ⟨p, 5, none⟩) h1.hp _
theorem RF.obj {w0 : World} {b p c N : Nat} {x : Cfg} {F : Nat → Int} {s : Int} {W : World} (h : RF w0 b p c N x F s W) : W.cell? ⟨p, 1, none⟩ = some (.int .i64 s) ∧ (∃ k, W.cell? ⟨p, 2, none⟩ = some (.int .i64 k)) ∧ (∃ k, W.cell? ⟨p, 3, none⟩ = some (.int .i64 k)) ∧ (∃ k, W.cell? ⟨p, 4, none⟩ = some (.int .u64 k)) ∧ (∃ k, W.cell? ⟨p, 5, none⟩ = some (.bool k)) ∧ (∀ j, W.frozen? ⟨p, j, none⟩ = false) ∧ c ≠ p := by
  obtain ⟨y, h1, h2, h3⟩ := h
  exact ⟨by rw [← h3]; exact h1.rs.c 1 (by omega), ⟨_, h1.rs.c 2 (by omega)⟩, ⟨_, h1.rs.c 3 (by omega)⟩, ⟨_, h1.rs.c 4 (by omega)⟩, ⟨_, h1.rs.c 5 (by omega)⟩, fun j => h1.rs.obj.frozen j, fun e => h1.rs.ne e.symm⟩


end Go.Proofs.YtkpffnihnhlghaaDoor
