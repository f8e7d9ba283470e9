/- errors.Is finds each code of a trouble, and no other one. -/
import Derived.Test.YtplkeakkjkkfmaaDoorKnown
import Derived.LaidEql
import Derived.RowKitTokens
namespace Go.Proofs.YtplkeakkjkkfmaaDoor
open Go.RowKit Go.Extern.Stop Go.Stop Go.Extern

theorem is_typeOf (v : Value) (w : World) : (Extern.ReflectliteType.typeOf #[.iface 38 v]).run Tryd.prog w = .ok (.iface 100 (.agg #[.pointer (some ⟨4, 38, none⟩)])) w := by kernel_rfl
theorem is_comparable (w : World) : (callFunc 96 #[.agg #[.pointer (some ⟨4, 38, none⟩)]]).run Tryd.prog w = .ok (.value (.bool true)) w := by kernel_rfl
theorem is_method (v : Value) (w : World) : (Go.method 260 100 v "Comparable").run Tryd.prog w = .ok (96, v) w := by kernel_rfl
theorem comp38 : (Tryd.prog.info? 38).map (·.comparable) = some true := by kernel_rfl
theorem as38_111 (v : Value) (x : TypeId) (w : World) : (Instr.typeAssert (.iface 38 v) x 111 true).run Tryd.prog w = .ok (.tuple #[.nilIface, .bool false]) w :=
  run_typeAssert_lacksB Tryd.underlying111 (by kernel_rfl) (by kernel_rfl) v x w
theorem as66_111 (v : Value) (x : TypeId) (w : World) : (Instr.typeAssert (.iface 66 v) x 111 true).run Tryd.prog w = .ok (.tuple #[.nilIface, .bool false]) w :=
  run_typeAssert_lacksB Tryd.underlying111 (by kernel_rfl) (by kernel_rfl) v x w
theorem as62_111 (v : Value) (x : TypeId) (w : World) : (Instr.typeAssert (.iface 62 v) x 111 true).run Tryd.prog w = .ok (.tuple #[.iface 62 v, .bool true]) w :=
  run_typeAssert_hasB Tryd.underlying111 (by kernel_rfl) v x w
theorem meth_is (x y : Value) (w : World) : (Go.method 260 62 (.agg #[x, y]) "Is").run Tryd.prog w = .ok (86, .agg #[x, y]) w := by kernel_rfl
attribute [go_sem] as38_111 as66_111 as62_111 meth_is

theorem eql_codes (a b : Int) (w : World) : (binOp .eql 25 (.iface 38 (.int .i64 a)) (.iface 38 (.int .i64 b))).run Tryd.prog w = .ok (.bool (a == b)) w := by
  obtain ⟨i, hi, hcmp⟩ := Option.map_eq_some_iff.1 comp38
  have h : ∀ d : Nat, (Op.equalIn (d + 2) 25 (.iface 38 (.int .i64 a)) (.iface 38 (.int .i64 b))).run Tryd.prog w = .ok (a == b) w := fun d => by
    simp [Op.equalIn, run_underlying Tryd.underlying25, run_underlying Tryd.underlying38, typeInfo, hi, hcmp]
  simp only [binOp]
  simp [Op.equal, Op.maxDepth, h 9998]
theorem eql_over (v u : Value) (w : World) : (binOp .eql 25 (.iface 62 v) (.iface 38 u)).run Tryd.prog w = .ok (.bool false) w := run_eql_iface_types 62 38 v u Tryd.underlying25 (by decide) w
theorem eql_at (v u : Value) (w : World) : (binOp .eql 25 (.iface 66 v) (.iface 38 u)).run Tryd.prog w = .ok (.bool false) w := run_eql_iface_types 66 38 v u Tryd.underlying25 (by decide) w
attribute [go_sem] eql_codes eql_over eql_at

set_option maxRecDepth 100000 in
set_option maxHeartbeats 400000 in
theorem over_is (c d : Int) (T : TypeId) (u : Value) (w : World) : Calls Tryd.prog 86 #[.agg #[.int .i64 c, .iface T u], .iface 38 (.int .i64 d)] w fun e w' => e = .returned (.bool (d == c)) ∧ w' = w.alloc (.cells #[.int .i64 c, .iface T u] 62) := by
  go_enter Tryd.func86, Tryd.ntmps86
  go_wp2
  go_ret
  exact ⟨rfl, rfl⟩

/-- Is it one of the codes? -/
def hasP (q : List (Int × Int)) (d : Int) : Bool := (codesP q).contains d
theorem has_word (n d : Int) (r : List (Int × Int)) : hasP ((0, n) :: r) d = hasP r d := by simp [hasP, codesP_word]
theorem has_code (c n d : Int) (h : ¬ c = 0) (r : List (Int × Int)) : hasP ((c, n) :: r) d = ((d == c) || hasP r d) := by rw [hasP, codesP_code c n h, List.contains_cons]; rfl

set_option maxRecDepth 100000 in
set_option maxHeartbeats 2000000 in
theorem is_loop (d : Int) (t : List (Int × Int)) (ht : t ≠ []) (hok : Ok t) (w : World) :
    Calls Tryd.prog 42 #[enc t, .iface 38 (.int .i64 d), .bool true] w fun e w' => e = .returned (.bool (hasP t d)) ∧ Below w.heap.size w w' := by
  have Hok := Lib.hid hok; clear hok
  have Ht := Lib.hid ht; clear ht
  go_enter Tryd.func42, Tryd.ntmps42
  go_wp2
  go_loopg [0] t.length (fun k e wr => ∃ q : List (Int × Int), q.length = k ∧ Hid (q ≠ []) ∧ Hid (Ok q) ∧ e = enc q ∧ Hid (hasP t d = hasP q d) ∧ Below w.heap.size w wr)
  case atStart => exact ⟨t, rfl, Ht, Hok, rfl, rfl, Below.refl _ _⟩
  case round =>
    obtain ⟨q, hk, Hq, Hokq, rfl, Hhas, hB⟩ := hrel
    obtain ⟨⟨c, n⟩, r, rfl⟩ : ∃ x r, q = x :: r := by
      cases q with
      | nil => exact absurd rfl Hq.out
      | cons x r => exact ⟨x, r, rfl⟩
    have Hk := Lib.hid hk; clear hk
    by_cases h : c = 0
    · subst h
      have hr : r ≠ [] := Hokq.out.1 rfl
      obtain ⟨y, s, rfl⟩ : ∃ x s, r = x :: s := by
        cases r with
        | nil => exact absurd rfl hr
        | cons x s => exact ⟨x, s, rfl⟩
      obtain ⟨T, u, hy⟩ := enc_cons y s
      have Hhw := Lib.hid (has_word n d (y :: s))
      rw [enc_word, hy]
      have Hy := Lib.hid hy; clear hy hr
      go_wp2_with (go_at_call 89; refine (unwrap_at _ _ _ _).mono ?_; rintro e w' ⟨rfl, rfl⟩)
      go_roundg (y :: s).length
      case measure => rw [← Hk.out]; simp
      case rel => exact ⟨y :: s, rfl, (by intro h; cases h), Hokq.out.2, Hy.out.symm, Hhas.out.trans Hhw.out, hB.alloc hB.size _⟩
    · cases r with
      | nil =>
        rw [enc_code _ _ h]
        have hh : hasP [(c, n)] d = (d == c) := by rw [has_code _ _ _ h]; simp [hasP, codesP]
        have Hh := Lib.hid hh; clear hh h
        by_cases hcd : c = d
        · have e1 : (c == d) = true := by simp [hcd]
          have e2 : (d == c) = true := by simp [hcd]
          have Hcd := Lib.hid e2; clear hcd e2
          go_wp2
          go_ret
          exact ⟨by rw [Hhas.out, Hh.out, Hcd.out]; rfl, hB⟩
        · have e1 : (c == d) = false := by simpa using hcd
          have e2 : (d == c) = false := by simpa using fun h => hcd h.symm
          have Hcd := Lib.hid e2; clear hcd e2
          go_wp2
          go_ret
          exact ⟨by rw [Hhas.out, Hh.out, Hcd.out]; rfl, hB⟩
      | cons y s =>
        obtain ⟨T, u, hy⟩ := enc_cons y s
        have Hh := Lib.hid (has_code c n d h (y :: s))
        rw [enc_over _ _ h, hy]
        have Hy := Lib.hid hy; clear hy h
        have hal : Below w.heap.size w (wr.alloc (.cells #[.int .i64 c, .iface T u] 62)) := hB.alloc hB.size _
        by_cases hcd : (d == c) = true
        · go_wp2_with (go_at_call 86; refine (over_is _ _ _ _ _).mono ?_; rintro e w' ⟨rfl, rfl⟩)
          go_ret
          exact ⟨by rw [Hhas.out, Hh.out, hcd]; rfl, hal⟩
        · have hcd : (d == c) = false := by simpa using hcd
          go_wp2_with (first | (go_at_call 86; refine (over_is _ _ _ _ _).mono ?_; rintro e w' ⟨rfl, rfl⟩) | (go_at_call 87; refine (unwrap_over _ _ _ _).mono ?_; rintro e w' ⟨rfl, rfl⟩))
          go_roundg (y :: s).length
          case measure => rw [← Hk.out]; simp
          case rel => exact ⟨y :: s, rfl, (by intro h; cases h), Hokq.out.2, Hy.out.symm, by rw [Hhas.out, Hh.out, hcd]; rfl, hal.alloc hal.size _⟩

set_option maxRecDepth 100000 in
set_option maxHeartbeats 2000000 in
theorem errors_is (d : Int) (t : List (Int × Int)) (hok : Ok t) (w : World) :
    Calls Tryd.prog 26 #[enc t, .iface 38 (.int .i64 d)] w fun e w' => e = .returned (.bool (hasP t d)) ∧ Below w.heap.size w w' := by
  have h41 := @run_callFunc_extern Tryd.prog 41 _ Extern.ReflectliteType.typeOf Tryd.func41 (by kernel_rfl) (by kernel_rfl) (by kernel_rfl) (by kernel_rfl)
  have tT := is_typeOf
  have cT := is_comparable
  have mR := is_method
  cases t with
  | nil =>
    have hne : (binOp .eql 25 .nilIface (.iface 38 (.int .i64 d))).run Tryd.prog w = .ok (.bool false) w := run_eql_iface_nil_left w _ _ Tryd.underlying25
    show Calls Tryd.prog 26 #[.nilIface, .iface 38 (.int .i64 d)] w _
    go_enter Tryd.func26, Tryd.ntmps26
    go_wp2
    go_ret
    exact ⟨rfl, Below.refl _ _⟩
  | cons x r =>
    have HL := Lib.hid (is_loop d (x :: r) (by simp) hok)
    obtain ⟨T, u, hx⟩ := enc_cons x r
    rw [hx] at HL ⊢
    go_enter Tryd.func26, Tryd.ntmps26
    go_wp2_with (go_at_call 42; refine (HL.out _).mono ?_; rintro e w1 ⟨rfl, hb⟩)
    go_ret
    exact ⟨rfl, hb⟩

end Go.Proofs.YtplkeakkjkkfmaaDoor
