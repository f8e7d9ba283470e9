/- errors.As finds the topmost code of a trouble. -/
import Derived.Test.YtojlimpooeehhaaDoorCsAsFacts
import Derived.Test.YtojlimpooeehhaaDoorCsAsMem
namespace Go.Proofs.YtojlimpooeehhaaDoor.Cs
open Go.RowKit Go.Extern.Stop Go.Stop Go.Extern


theorem as38_104 (v : Value) (x : TypeId) (w : World) : (Instr.typeAssert (.iface 57 v) x 144 true).run Tryd.prog w = .ok (.tuple #[.nilIface, .bool false]) w :=
  run_typeAssert_lacksB Tryd.underlying144 (by kernel_rfl) (by kernel_rfl) v x w
theorem as66_104 (v : Value) (x : TypeId) (w : World) : (Instr.typeAssert (.iface 157 v) x 144 true).run Tryd.prog w = .ok (.tuple #[.nilIface, .bool false]) w :=
  run_typeAssert_lacksB Tryd.underlying144 (by kernel_rfl) (by kernel_rfl) v x w
theorem as62_104 (v : Value) (x : TypeId) (w : World) : (Instr.typeAssert (.iface 155 v) x 144 true).run Tryd.prog w = .ok (.tuple #[.iface 155 v, .bool true]) w :=
  run_typeAssert_hasB Tryd.underlying144 (by kernel_rfl) v x w
theorem as52_52 (v : Value) (x : TypeId) (w : World) : (Instr.typeAssert (.iface 90 v) x 90 true).run Tryd.prog w = .ok (.tuple #[v, .bool true]) w := by
  simp [Instr.typeAssert, run_underlying Tryd.underlying90]
theorem meth_as (x y : Value) (w : World) : (Go.method 293 155 (.agg #[x, y]) "As").run Tryd.prog w = .ok (138, .agg #[x, y]) w := by kernel_rfl
attribute [go_sem] as38_104 as66_104 as62_104 as52_52 meth_as

/-- The target: a variable of the caller's. -/
structure Target52 (a : Nat) (W : World) : Prop where
  box : ∃ c : Int, Boxed W a 57 (.int .i64 c)
theorem Target52.below {a : Nat} {W W' : World} (h : Target52 a W) (hb : Below W.heap.size W W') : Target52 a W' := by
  obtain ⟨c, h⟩ := h.box; exact ⟨c, boxed_below h hb⟩

/-- The target has been set, and nothing else that was there turned. -/
structure Found (a : Nat) (c : Int) (w w' : World) : Prop where
  box : Boxed w' a 57 (.int .i64 c)
  but : w.grownBy w' (some a)

theorem but_alloc {w w' : World} {row : Option Nat} (h : w.grownBy w' row) (o : Obj) : w.grownBy (w'.alloc o) row :=
  ⟨h.os, h.tape, h.output, by have := h.size; simp; omega, fun k hk hne => (Below.heap_alloc w' o k (by have := h.size; omega)).trans (h.block k hk hne)⟩
theorem but_below {w w1 w' : World} {a : Nat} (hb : Below w.heap.size w w1) (h : w1.grownBy w' (some a)) : w.grownBy w' (some a) :=
  ⟨h.os.trans hb.os, h.tape.trans hb.tape, h.output.trans hb.output, Nat.le_trans hb.size h.size, fun k hk hne => (h.block k (Nat.lt_of_lt_of_le hk hb.size) hne).trans (hb.block k hk)⟩
theorem Found.after {w w1 w' : World} {a : Nat} {c : Int} (hb : Below w.heap.size w w1) (h : Found a c w1 w') : Found a c w w' := ⟨h.box, but_below hb h.but⟩

set_option maxRecDepth 100000 in
set_option maxHeartbeats 1000000 in
theorem over_as (a : Nat) (c : Int) (T : TypeId) (u : Value) (w : World) (ht : Target52 a w) :
    Calls Tryd.prog 138 #[.agg #[.int .i64 c, .iface T u], .iface 90 (.pointer (some ⟨a, 0, none⟩))] w fun e w' => e = .returned (.bool true) ∧ Found a c w w' := by
  obtain ⟨old, hb⟩ := ht.box
  have hc := hb.cell
  have hf := hb.frozen
  have hlt := hb.lt
  have HB := Lib.hid hb; clear hb
  have hne : ¬ a = w.heap.size := by omega
  go_enter Tryd.func138, Tryd.ntmps138
  go_wp2
  go_ret
  exact ⟨rfl, (HB.out.set _).alloc _, but_alloc (grownBy_setCell' w a _) _⟩

/-- The topmost code. -/
def topP (t : List (Int × Int)) : Int := (codesP t).headD 0
theorem top_word (n : Int) (r : List (Int × Int)) : topP ((0, n) :: r) = topP r := by simp [topP, codesP_word]
theorem top_code (c n : Int) (h : ¬ c = 0) (r : List (Int × Int)) : topP ((c, n) :: r) = c := by simp [topP, codesP_code c n h]

set_option maxRecDepth 100000 in
set_option maxHeartbeats 2000000 in
theorem as_loop (a : Nat) (b : Nat) (t : List (Int × Int)) (ht : t ≠ []) (hok : Ok t) (w : World) (hT : Target52 a w) (hb : Boxed w b 90 (.pointer (some ⟨a, 0, none⟩))) :
    Calls Tryd.prog 72 #[enc t, .iface 90 (.pointer (some ⟨a, 0, none⟩)), val52 ⟨b, 0, none⟩, .iface 139 (.agg #[.pointer (some ⟨1, 57, none⟩)])] w fun e w' => e = .returned (.bool true) ∧ Found a (topP t) w w' := by
  have Hok := Lib.hid hok; clear hok
  have Ht := Lib.hid ht; clear ht
  have HT := Lib.hid hT; clear hT
  have HB := Lib.hid hb; clear hb
  have f1 := rl_typeOf38
  have f2 := rl_typeOf62
  have f3 := rl_typeOf66
  have f4 := rl_mAssignable
  have f5 := rl_assign38
  have f6 := rl_assign62
  have f7 := rl_assign66
  go_enter Tryd.func72, Tryd.ntmps72
  go_wp2
  have hBx : Boxed (w.alloc (.cells #[.pointer (some ⟨1, 90, none⟩), .pointer (some ⟨b, 0, none⟩), .int .u64 150] 112)) b 90 (.pointer (some ⟨a, 0, none⟩)) := HB.out.alloc _
  have hTx : Target52 a (w.alloc (.cells #[.pointer (some ⟨1, 90, none⟩), .pointer (some ⟨b, 0, none⟩), .int .u64 150] 112)) := HT.out.below ((Below.refl _ w).alloc (Nat.le_refl _) _)
  have hvx : (w.alloc (.cells #[.pointer (some ⟨1, 90, none⟩), .pointer (some ⟨b, 0, none⟩), .int .u64 150] 112)).heap[w.heap.size]? = some (.cells #[.pointer (some ⟨1, 90, none⟩), .pointer (some ⟨b, 0, none⟩), .int .u64 150] 112 (0, 0)) := heap_new _ _
  generalize hwb : w.alloc (.cells #[.pointer (some ⟨1, 90, none⟩), .pointer (some ⟨b, 0, none⟩), .int .u64 150] 112) = wb at hBx hTx hvx ⊢
  have hbel : Below w.heap.size w wb := by rw [← hwb]; exact (Below.refl _ w).alloc (Nat.le_refl _) _
  have HBx := Lib.hid hBx; clear hBx
  have HTx := Lib.hid hTx; clear hTx
  have Hvx := Lib.hid hvx; clear hvx hwb
  go_loopg [0] t.length (fun k e wr => ∃ q : List (Int × Int), q.length = k ∧ Hid (q ≠ []) ∧ Hid (Ok q) ∧ e = enc q ∧ Hid (topP t = topP q) ∧ Below wb.heap.size wb wr)
  case atStart => exact ⟨t, rfl, Ht, Hok, rfl, rfl, Below.refl _ _⟩
  case round =>
    obtain ⟨q, hk, Hq, Hokq, rfl, Htop, hB⟩ := hrel
    obtain ⟨⟨c, n⟩, r, rfl⟩ : ∃ x r, q = x :: r := by
      cases q with
      | nil => exact absurd rfl Hq.out
      | cons x r => exact ⟨x, r, rfl⟩
    have Hk := Lib.hid hk; clear hk
    have hbw : Below w.heap.size w wr := hbel.trans (hB.mono hbel.size)
    by_cases h : c = 0
    · subst h
      have hr : r ≠ [] := Hokq.out.1 rfl
      obtain ⟨y, s, rfl⟩ : ∃ x s, r = x :: s := by
        cases r with
        | nil => exact absurd rfl hr
        | cons x s => exact ⟨x, s, rfl⟩
      obtain ⟨T, u, hy⟩ := enc_cons y s
      have Htw := Lib.hid (top_word n (y :: s))
      rw [enc_word, hy]
      have Hy := Lib.hid hy; clear hy hr
      go_wp2_with (go_at_call 142; refine (unwrap_at _ _ _ _).mono ?_; rintro e w' ⟨rfl, rfl⟩)
      go_roundg (y :: s).length
      case measure => rw [← Hk.out]; simp
      case rel => exact ⟨y :: s, rfl, (by intro h; cases h), Hokq.out.2, Hy.out.symm, Htop.out.trans Htw.out, hB.alloc hB.size _⟩
    · cases r with
      | nil =>
        rw [enc_code _ _ h]
        have Htc := Lib.hid (top_code c n h [])
        clear h
        have hbx := boxed_below HBx.out hB
        obtain ⟨old, htx⟩ := (HTx.out.below hB).box
        have hvv : wr.heap[w.heap.size]? = some (.cells #[.pointer (some ⟨1, 90, none⟩), .pointer (some ⟨b, 0, none⟩), .int .u64 150] 112 (0, 0)) := (hB.block _ (Array.getElem?_eq_some_iff.1 Hvx.out).1).trans Hvx.out
        have c0 : wr.cell? ⟨w.heap.size, 0, none⟩ = some (.pointer (some ⟨1, 90, none⟩)) := by simp [World.cell?, hvv]
        have c1 : wr.cell? ⟨w.heap.size, 1, none⟩ = some (.pointer (some ⟨b, 0, none⟩)) := by simp [World.cell?, hvv]
        have c2 : wr.cell? ⟨w.heap.size, 2, none⟩ = some (.int .u64 150) := by simp [World.cell?, hvv]
        have e1 := rl_elem ⟨b, 0, none⟩ ⟨a, 0, none⟩ wr hbx.cell
        have e2 := rl_valueOf38 c
        have e3 := rl_set ⟨a, 0, none⟩ ⟨wr.heap.size, 0, none⟩ c (.int .i64 old) (wr.alloc (.cells #[.int .i64 c] 57)) (Boxed.new wr 57 _).cell (htx.alloc _).cell (htx.alloc _).frozen
        have Hset := Lib.hid ((htx.alloc (.cells #[.int .i64 c] 57)).set (.int .i64 c))
        have Hbut := Lib.hid (but_below hbw (but_below ((Below.refl _ wr).alloc (Nat.le_refl _) (.cells #[.int .i64 c] 57)) (grownBy_setCell' _ a (.int .i64 c))))
        clear hbx htx hvv
        go_wp2
        go_ret
        exact ⟨rfl, by rw [Htop.out, Htc.out]; exact Hset.out, Hbut.out⟩
      | cons y s =>
        obtain ⟨T, u, hy⟩ := enc_cons y s
        have Htc := Lib.hid (top_code c n h (y :: s))
        rw [enc_over _ _ h, hy]
        clear hy h
        have HT2 := Lib.hid (HTx.out.below hB)
        go_wp2_with (go_at_call 138; refine (over_as _ _ _ _ _ HT2.out).mono ?_; rintro e w' ⟨rfl, hF⟩)
        go_ret
        exact ⟨rfl, by rw [Htop.out, Htc.out]; exact hF.after hbw⟩

end Go.Proofs.YtojlimpooeehhaaDoor.Cs
