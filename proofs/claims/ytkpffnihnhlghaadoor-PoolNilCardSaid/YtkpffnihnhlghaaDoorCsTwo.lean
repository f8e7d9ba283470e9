/- known of a trouble is that trouble; Root is its last code. -/
import Derived.Test.YtkpffnihnhlghaaDoorCsOne
namespace Go.Proofs.YtkpffnihnhlghaaDoor.Cs
open Go.RowKit Go.Shelf

attribute [local go_sem] Oper.semAt_some

structure KnownI (v : Value) (w : World) (W : World) : Prop where
  arg : Boxed W w.heap.size 43 v
  res : Boxed W (w.heap.size + 1) 43 .nilIface
  below : Below w.heap.size w W
theorem knownI_turn {v : Value} {w : World} {B : Nat} (hB : w.heap.size ≤ B) (X Y : World) (h : KnownI v w X) (hT : TurnC B X Y) : KnownI v w Y :=
  ⟨boxed_turn h.arg hT rfl, boxed_turn h.res hT rfl, h.below.trans (hT.below.mono hB)⟩

set_option maxRecDepth 100000 in
set_option maxHeartbeats 2000000 in
theorem known_any (t : List (Int × Int)) (hok : Ok t) (ht : t.length ≤ 1000) (w : World) :
    Calls Tryd.prog 54 #[enc t] w fun e w' => e = .returned (enc t) ∧ Below w.heap.size w w' := by
  obtain ⟨v, hv⟩ : ∃ v, enc t = v := ⟨_, rfl⟩
  have hform : v = .nilIface ∨ ∃ T u, v = .iface T u := by
    cases t with
    | nil => exact .inl hv.symm
    | cons x r =>
      obtain ⟨T, u, h⟩ := enc_cons x r
      exact .inr ⟨T, u, by rw [← hv, h]⟩
  rw [hv]
  have Hok := Lib.hid hok; clear hok
  rcases hform with rfl | ⟨T, u, rfl⟩
  all_goals
    have Hv := Lib.hid hv; clear hv
    have HL := Lib.hid (fun w => links_made t w)
    rw [Hv.out] at HL
    refine (callsIn_wide (n := 3)).1 ?_
    refine callsIn_of_wp_marks Tryd.func54 rfl trivial ?_ rfl
    simp only [Tryd.ntmps54, List.size_toArray, List.length_cons, List.length_nil, Nat.reduceAdd, Nat.reduceSub, Array.replicate_succ, Array.replicate_zero, List.push_toArray, List.append_toArray, List.nil_append, List.cons_append]
    gi_wp2_with fail
    refine ⟨trivial, ?_⟩
    refine (callsIn_wide.2 (HL.out _)).mono ?_
    rintro e w' ⟨rfl, rfl⟩
    gi_wp2_with fail
  · obtain ⟨W0, hW0⟩ : ∃ W0, ((w.alloc (.cells #[.nilIface] 43)).alloc (.cells #[.nilIface] 43)).alloc (.cells #[.nilIface] 43) = W0 := ⟨_, rfl⟩
    have hz0 : W0.heap.size = w.heap.size + 3 := by rw [← hW0]; simp
    have hbox1 : Boxed W0 w.heap.size 43 (.nilIface) := by rw [← hW0]; exact ((Boxed.new w 43 _).alloc _).alloc _
    have hbox2 : Boxed W0 (w.heap.size + 1) 43 .nilIface := by
      rw [← hW0]
      have := (Boxed.new (w.alloc (.cells #[.nilIface] 43)) 43 .nilIface).alloc (.cells #[.nilIface] 43)
      simpa using this
    have hBn : Boxed W0 (w.heap.size + 1 + 1) 43 (enc t) := by
      rw [← hW0, Hv.out]
      have := Boxed.new ((w.alloc (.cells #[.nilIface] 43)).alloc (.cells #[.nilIface] 43)) 43 (.nilIface)
      simpa using this
    have hbl : Below w.heap.size w W0 := by rw [← hW0]; exact (((Below.refl _ w).alloc (Nat.le_refl _) _).alloc (by simp) _).alloc (by simp; omega) _
    rw [hW0]
    have Hstart := Lib.hid (show KnownI (.nilIface) w W0 from ⟨hbox1, hbox2, hbl⟩)
    clear hbox1 hbox2 hW0
    have hB0 : w.heap.size ≤ W0.heap.size := by omega
    refine range_links (t := t) (Bn := w.heap.size + 1 + 1) rfl rfl (enters_of Tryd.func135 (by kernel_rfl) rfl)
      (fun l W hb => links_any _ t Hok.out (by omega) l _ W (boxed_below hBn hb))
      (fun _ => KnownI (.nilIface) w) (fun _ _ => False) (fun _ X Y h hT => knownI_turn hB0 X Y h hT) (fun _ _ _ h _ => h) Hstart.out
      (fun q => { tmps := #[.nilIface, .pointer (some ⟨w.heap.size, 0, none⟩), .pointer (some ⟨w.heap.size + 1, 0, none⟩), enc q, .nilIface, .func (.func 135) #[] #[.pointer (some ⟨w.heap.size + 1 + 1, 0, none⟩)], enc q, undef, undef, undef, undef, undef, undef], defers := [] }) ?assign ?body ?done ?stop
    case assign =>
      intro l q W K hK
      gi_wp2
      exact hK
    case body =>
      intro l pre q W hpre hq hI
      obtain ⟨x, r, rfl⟩ : ∃ x r, q = x :: r := by
        cases q with
        | nil => exact absurd rfl hq
        | cons x r => exact ⟨x, r, rfl⟩
      have HI := Lib.hid hI; clear hI hpre hq
      have Hst := Lib.hid (stranger_any x r W)
      gi_wp2_with fail
      refine ⟨trivial, ?_⟩
      refine (CallsIn.inRound l (callsIn_wide.2 Hst.out)).mono ?_
      rintro e w' ⟨rfl, rfl⟩
      gi_wp2
      exact ⟨Keep.refl _, HI.out⟩
    case done =>
      rintro D W hD hI hK
      have hcell1 := hI.arg.cell
      have hcell2 := hI.res.cell
      have hfz2 := hI.res.frozen
      have HI := Lib.hid hI; clear hI
      gi_wp2
      have hK4 := (KeepsOthers.setCell W ⟨w.heap.size + 1, 0, none⟩ (.nilIface)).same D _ hK rfl
      refine ⟨by simp, .inl ⟨_, _, rfl, run_takeDeferred hK4, ?_⟩⟩
      have hc5 := cell_kept (HI.out.res.set (.nilIface)).cell (grownBy_putObj' _ D (.deferred none)) (fun r e => by cases e; exact ⟨_, hK4, rfl⟩)
      refine ⟨.nilIface, ?_, rfl, (HI.out.below.setCell (p := ⟨w.heap.size + 1, 0, none⟩) (by simp) _).trans (belowK_b (w := W0) hB0 _ D _ _ hD hK4 rfl rfl)⟩
      simp [results, Tryd.f54, go_sem, hc5]
    case stop =>
      rintro D pre W _ _ h _
      exact h.elim
  · obtain ⟨W0, hW0⟩ : ∃ W0, ((w.alloc (.cells #[.iface T u] 43)).alloc (.cells #[.nilIface] 43)).alloc (.cells #[.iface T u] 43) = W0 := ⟨_, rfl⟩
    have hz0 : W0.heap.size = w.heap.size + 3 := by rw [← hW0]; simp
    have hbox1 : Boxed W0 w.heap.size 43 (.iface T u) := by rw [← hW0]; exact ((Boxed.new w 43 _).alloc _).alloc _
    have hbox2 : Boxed W0 (w.heap.size + 1) 43 .nilIface := by
      rw [← hW0]
      have := (Boxed.new (w.alloc (.cells #[.iface T u] 43)) 43 .nilIface).alloc (.cells #[.iface T u] 43)
      simpa using this
    have hBn : Boxed W0 (w.heap.size + 1 + 1) 43 (enc t) := by
      rw [← hW0, Hv.out]
      have := Boxed.new ((w.alloc (.cells #[.iface T u] 43)).alloc (.cells #[.nilIface] 43)) 43 (.iface T u)
      simpa using this
    have hbl : Below w.heap.size w W0 := by rw [← hW0]; exact (((Below.refl _ w).alloc (Nat.le_refl _) _).alloc (by simp) _).alloc (by simp; omega) _
    rw [hW0]
    have Hstart := Lib.hid (show KnownI (.iface T u) w W0 from ⟨hbox1, hbox2, hbl⟩)
    clear hbox1 hbox2 hW0
    have hB0 : w.heap.size ≤ W0.heap.size := by omega
    refine range_links (t := t) (Bn := w.heap.size + 1 + 1) rfl rfl (enters_of Tryd.func135 (by kernel_rfl) rfl)
      (fun l W hb => links_any _ t Hok.out (by omega) l _ W (boxed_below hBn hb))
      (fun _ => KnownI (.iface T u) w) (fun _ _ => False) (fun _ X Y h hT => knownI_turn hB0 X Y h hT) (fun _ _ _ h _ => h) Hstart.out
      (fun q => { tmps := #[.iface T u, .pointer (some ⟨w.heap.size, 0, none⟩), .pointer (some ⟨w.heap.size + 1, 0, none⟩), enc q, .iface T u, .func (.func 135) #[] #[.pointer (some ⟨w.heap.size + 1 + 1, 0, none⟩)], enc q, undef, undef, undef, undef, undef, undef], defers := [] }) ?assign ?body ?done ?stop
    case assign =>
      intro l q W K hK
      gi_wp2
      exact hK
    case body =>
      intro l pre q W hpre hq hI
      obtain ⟨x, r, rfl⟩ : ∃ x r, q = x :: r := by
        cases q with
        | nil => exact absurd rfl hq
        | cons x r => exact ⟨x, r, rfl⟩
      have HI := Lib.hid hI; clear hI hpre hq
      have Hst := Lib.hid (stranger_any x r W)
      gi_wp2_with fail
      refine ⟨trivial, ?_⟩
      refine (CallsIn.inRound l (callsIn_wide.2 Hst.out)).mono ?_
      rintro e w' ⟨rfl, rfl⟩
      gi_wp2
      exact ⟨Keep.refl _, HI.out⟩
    case done =>
      rintro D W hD hI hK
      have hcell1 := hI.arg.cell
      have hcell2 := hI.res.cell
      have hfz2 := hI.res.frozen
      have HI := Lib.hid hI; clear hI
      gi_wp2
      have hK4 := (KeepsOthers.setCell W ⟨w.heap.size + 1, 0, none⟩ (.iface T u)).same D _ hK rfl
      refine ⟨by simp, .inl ⟨_, _, rfl, run_takeDeferred hK4, ?_⟩⟩
      have hc5 := cell_kept (HI.out.res.set (.iface T u)).cell (grownBy_putObj' _ D (.deferred none)) (fun r e => by cases e; exact ⟨_, hK4, rfl⟩)
      refine ⟨.iface T u, ?_, rfl, (HI.out.below.setCell (p := ⟨w.heap.size + 1, 0, none⟩) (by simp) _).trans (belowK_b (w := W0) hB0 _ D _ _ hD hK4 rfl rfl)⟩
      simp [results, Tryd.f54, go_sem, hc5]
    case stop =>
      rintro D pre W _ _ h _
      exact h.elim

end Go.Proofs.YtkpffnihnhlghaaDoor.Cs

namespace Go.Proofs.YtkpffnihnhlghaaDoor.Cs
open Go.RowKit Go.Extern.Stop Go.Stop Go.Extern


theorem rl_valueOf (a : Addr) (w : World) : (callFunc 98 #[.iface 120 (.pointer (some a))]).run Tryd.prog w = .ok (.value (.agg #[.pointer (some ⟨2, 120, none⟩), .pointer (some ⟨w.heap.size, 0, none⟩), .int .u64 150])) (w.alloc (.cells #[.pointer (some a)] 120)) := by kernel_rfl
theorem rl_type (a : Addr) (w : World) : (callFunc 99 #[.agg #[.pointer (some ⟨2, 120, none⟩), .pointer (some a), .int .u64 150]]).run Tryd.prog w = .ok (.value (.iface 216 (.agg #[.pointer (some ⟨2, 120, none⟩)]))) w := by kernel_rfl
theorem rl_mKind (h : Value) (w : World) : (Go.method 383 216 (.agg #[h]) "Kind").run Tryd.prog w = .ok (175, h) w := by kernel_rfl
theorem rl_kind52 (w : World) : (callFunc 175 #[.pointer (some ⟨2, 120, none⟩)]).run Tryd.prog w = .ok (.value (.int .u8 22)) w := by kernel_rfl
theorem rl_kind38 (w : World) : (callFunc 175 #[.pointer (some ⟨2, 46, none⟩)]).run Tryd.prog w = .ok (.value (.int .u8 2)) w := by kernel_rfl
theorem rl_mElem (h : Value) (w : World) : (Go.method 383 216 (.agg #[h]) "Elem").run Tryd.prog w = .ok (186, .agg #[h]) w := by kernel_rfl
theorem rl_mImplements (h : Value) (w : World) : (Go.method 383 216 (.agg #[h]) "Implements").run Tryd.prog w = .ok (187, .agg #[h]) w := by kernel_rfl
theorem rl_mAssignable (h : Value) (w : World) : (Go.method 383 216 (.agg #[h]) "AssignableTo").run Tryd.prog w = .ok (184, .agg #[h]) w := by kernel_rfl
theorem rl_elem52 (w : World) : (callFunc 186 #[.agg #[.pointer (some ⟨2, 120, none⟩)]]).run Tryd.prog w = .ok (.value (.iface 216 (.agg #[.pointer (some ⟨2, 46, none⟩)]))) w := by kernel_rfl
theorem rl_implements38 (w : World) : (callFunc 187 #[.agg #[.pointer (some ⟨2, 46, none⟩)], .iface 216 (.agg #[.pointer (some ⟨2, 43, none⟩)])]).run Tryd.prog w = .ok (.value (.bool true)) w := by kernel_rfl
theorem rl_typeOf38 (v : Value) (w : World) : (callFunc 132 #[.iface 46 v]).run Tryd.prog w = .ok (.value (.iface 216 (.agg #[.pointer (some ⟨2, 46, none⟩)]))) w := by kernel_rfl
theorem rl_typeOf62 (v : Value) (w : World) : (callFunc 132 #[.iface 232 v]).run Tryd.prog w = .ok (.value (.iface 216 (.agg #[.pointer (some ⟨2, 232, none⟩)]))) w := by kernel_rfl
theorem rl_typeOf66 (v : Value) (w : World) : (callFunc 132 #[.iface 234 v]).run Tryd.prog w = .ok (.value (.iface 216 (.agg #[.pointer (some ⟨2, 234, none⟩)]))) w := by kernel_rfl
theorem rl_assign38 (w : World) : (callFunc 184 #[.agg #[.pointer (some ⟨2, 46, none⟩)], .iface 216 (.agg #[.pointer (some ⟨2, 46, none⟩)])]).run Tryd.prog w = .ok (.value (.bool true)) w := by kernel_rfl
theorem rl_assign62 (w : World) : (callFunc 184 #[.agg #[.pointer (some ⟨2, 232, none⟩)], .iface 216 (.agg #[.pointer (some ⟨2, 46, none⟩)])]).run Tryd.prog w = .ok (.value (.bool false)) w := by kernel_rfl
theorem rl_assign66 (w : World) : (callFunc 184 #[.agg #[.pointer (some ⟨2, 234, none⟩)], .iface 216 (.agg #[.pointer (some ⟨2, 46, none⟩)])]).run Tryd.prog w = .ok (.value (.bool false)) w := by kernel_rfl
theorem rl_valueOf38 (c : Int) (w : World) : (callFunc 98 #[.iface 46 (.int .i64 c)]).run Tryd.prog w = .ok (.value (.agg #[.pointer (some ⟨2, 46, none⟩), .pointer (some ⟨w.heap.size, 0, none⟩), .int .u64 130])) (w.alloc (.cells #[.int .i64 c] 46)) := by kernel_rfl

end Go.Proofs.YtkpffnihnhlghaaDoor.Cs

namespace Go.Proofs.YtkpffnihnhlghaaDoor.Cs
open Go.RowKit Go.Extern.Stop Go.Stop Go.Extern


/-- The Value of a *Errno, which lies at b. -/
abbrev val52 (b : Addr) : Value := .agg #[.pointer (some ⟨2, 120, none⟩), .pointer (some b), .int .u64 150]

theorem rl_parts52 (a : Addr) (w : World) : (ReflectliteValue.parts (val52 a)).run Tryd.prog w = .ok (some (120, a, 150)) w := by kernel_rfl
theorem rl_isNil_key (a p : Addr) (W : World) (ha : W.cell? a = some (.pointer (some p))) :
    ∃ f : Option (TypeId × Addr × Nat) → Sem Value, (∀ v, ReflectliteValue.method (ReflectliteValue.valueError "reflectlite.Value.IsNil" 0) ReflectliteValue.isNil #[v] = Bind.bind (ReflectliteValue.parts v) (fun p => f p)) ∧
      (f (some (120, a, 150))).run Tryd.prog W = .ok (.bool false) W := by
  refine ⟨_, fun v => rfl, ?_⟩
  simp [ReflectliteValue.isNil, loadVar, isAgg, underlying, Tryd.underlying120, ha, Result.andThen]
theorem rl_isNil (a p : Addr) (W : World) (ha : W.cell? a = some (.pointer (some p))) : (callFunc 100 #[val52 a]).run Tryd.prog W = .ok (.value (.bool false)) W := by
  rw [run_callFunc_extern Tryd.func100 (by kernel_rfl) (by kernel_rfl) (by kernel_rfl) (e := ReflectliteValue.method (ReflectliteValue.valueError "reflectlite.Value.IsNil" 0) ReflectliteValue.isNil) (by kernel_rfl)]
  obtain ⟨f, h1, h2⟩ := rl_isNil_key a p W ha
  rw [h1]
  simp only [Sem.run_bind, rl_parts52, Result.andThen, h2]
theorem rl_elemOf (w : World) : (Rtype.elem? 120).run Tryd.prog w = .ok (some 46) w := by kernel_rfl
theorem rl_mk (p : Addr) (w : World) : (ReflectliteValue.mk 46 p ReflectliteValue.flagAddr).run Tryd.prog w = .ok (.agg #[.pointer (some ⟨2, 46, none⟩), .pointer (some p), .int .u64 386]) w := by kernel_rfl
theorem rl_elem_key (a p : Addr) (W : World) (ha : W.cell? a = some (.pointer (some p))) :
    ∃ f : Option (TypeId × Addr × Nat) → Sem Value, (∀ v, ReflectliteValue.method (ReflectliteValue.valueError "reflectlite.Value.Elem" 0) ReflectliteValue.elem #[v] = Bind.bind (ReflectliteValue.parts v) (fun p => f p)) ∧
      (f (some (120, a, 150))).run Tryd.prog W = .ok (.agg #[.pointer (some ⟨2, 46, none⟩), .pointer (some p), .int .u64 386]) W := by
  refine ⟨_, fun v => rfl, ?_⟩
  simp [ReflectliteValue.elem, loadVar, isAgg, underlying, Tryd.underlying120, ha, Result.andThen, rl_elemOf, rl_mk]
theorem rl_elem (a p : Addr) (W : World) (ha : W.cell? a = some (.pointer (some p))) : (callFunc 133 #[val52 a]).run Tryd.prog W = .ok (.value (.agg #[.pointer (some ⟨2, 46, none⟩), .pointer (some p), .int .u64 386])) W := by
  rw [run_callFunc_extern Tryd.func133 (by kernel_rfl) (by kernel_rfl) (by kernel_rfl) (e := ReflectliteValue.method (ReflectliteValue.valueError "reflectlite.Value.Elem" 0) ReflectliteValue.elem) (by kernel_rfl)]
  obtain ⟨f, h1, h2⟩ := rl_elem_key a p W ha
  rw [h1]
  simp only [Sem.run_bind, rl_parts52, Result.andThen, h2]
theorem rl_parts38a (a : Addr) (w : World) : (ReflectliteValue.parts (.agg #[.pointer (some ⟨2, 46, none⟩), .pointer (some a), .int .u64 386])).run Tryd.prog w = .ok (some (46, a, 386)) w := by kernel_rfl
theorem rl_parts38 (a : Addr) (w : World) : (ReflectliteValue.parts (.agg #[.pointer (some ⟨2, 46, none⟩), .pointer (some a), .int .u64 130])).run Tryd.prog w = .ok (some (46, a, 130)) w := by kernel_rfl
theorem rl_direct (w : World) : (Rtype.directlyAssignable 46 46).run Tryd.prog w = .ok true w := by kernel_rfl
theorem rl_set_key (ta b : Addr) (c : Int) (old : Value) (W : World) (hb : W.cell? b = some (.int .i64 c)) (ht : W.cell? ta = some old) (hf : W.frozen? ta = false) :
    ∃ f : Option (TypeId × Addr × Nat) → Option (TypeId × Addr × Nat) → Sem Value,
      (∀ v x, ReflectliteValue.set #[v, x] = Bind.bind (ReflectliteValue.parts v) (fun p => Bind.bind (ReflectliteValue.parts x) (fun q => f p q))) ∧
      (f (some (46, ta, 386)) (some (46, b, 130))).run Tryd.prog W = .ok (.tuple #[]) (W.setCell ta (.int .i64 c)) := by
  refine ⟨_, fun v x => rfl, ?_⟩
  simp [ReflectliteValue.flagAddr, loadVar, isAgg, underlying, Tryd.underlying46, hb, Result.andThen, rl_direct, storeVar, Value.cells, storeCells, Addr.add]
  rw [run_store Tryd.prog W ta _ _ (by rfl)]
  simp [ht, hf]
theorem rl_set (ta b : Addr) (c : Int) (old : Value) (W : World) (hb : W.cell? b = some (.int .i64 c)) (ht : W.cell? ta = some old) (hf : W.frozen? ta = false) :
    (callFunc 134 #[.agg #[.pointer (some ⟨2, 46, none⟩), .pointer (some ta), .int .u64 386], .agg #[.pointer (some ⟨2, 46, none⟩), .pointer (some b), .int .u64 130]]).run Tryd.prog W = .ok (.value (.tuple #[])) (W.setCell ta (.int .i64 c)) := by
  rw [run_callFunc_extern Tryd.func134 (by kernel_rfl) (by kernel_rfl) (by kernel_rfl) (e := ReflectliteValue.set) (by kernel_rfl)]
  obtain ⟨f, h1, h2⟩ := rl_set_key ta b c old W hb ht hf
  rw [h1]
  simp only [Sem.run_bind, rl_parts38a, rl_parts38, Result.andThen, h2]

end Go.Proofs.YtkpffnihnhlghaaDoor.Cs

namespace Go.Proofs.YtkpffnihnhlghaaDoor.Cs
open Go.RowKit Go.Extern.Stop Go.Stop Go.Extern


theorem as38_104 (v : Value) (x : TypeId) (w : World) : (Instr.typeAssert (.iface 46 v) x 221 true).run Tryd.prog w = .ok (.tuple #[.nilIface, .bool false]) w :=
  run_typeAssert_lacksB Tryd.underlying221 (by kernel_rfl) (by kernel_rfl) v x w
theorem as66_104 (v : Value) (x : TypeId) (w : World) : (Instr.typeAssert (.iface 234 v) x 221 true).run Tryd.prog w = .ok (.tuple #[.nilIface, .bool false]) w :=
  run_typeAssert_lacksB Tryd.underlying221 (by kernel_rfl) (by kernel_rfl) v x w
theorem as62_104 (v : Value) (x : TypeId) (w : World) : (Instr.typeAssert (.iface 232 v) x 221 true).run Tryd.prog w = .ok (.tuple #[.iface 232 v, .bool true]) w :=
  run_typeAssert_hasB Tryd.underlying221 (by kernel_rfl) v x w
theorem as52_52 (v : Value) (x : TypeId) (w : World) : (Instr.typeAssert (.iface 120 v) x 120 true).run Tryd.prog w = .ok (.tuple #[v, .bool true]) w := by
  simp [Instr.typeAssert, run_underlying Tryd.underlying120]
theorem meth_as (x y : Value) (w : World) : (Go.method 383 232 (.agg #[x, y]) "As").run Tryd.prog w = .ok (194, .agg #[x, y]) w := by kernel_rfl
attribute [go_sem] as38_104 as66_104 as62_104 as52_52 meth_as

/-- The target: a variable of the caller's. -/
structure Target52 (a : Nat) (W : World) : Prop where
  box : ∃ c : Int, Boxed W a 46 (.int .i64 c)
theorem Target52.below {a : Nat} {W W' : World} (h : Target52 a W) (hb : Below W.heap.size W W') : Target52 a W' := by
  obtain ⟨c, h⟩ := h.box; exact ⟨c, boxed_below h hb⟩

/-- The target has been set, and nothing else that was there turned. -/
structure Found (a : Nat) (c : Int) (w w' : World) : Prop where
  box : Boxed w' a 46 (.int .i64 c)
  but : w.grownBy w' (some a)

theorem but_alloc {w w' : World} {row : Option Nat} (h : w.grownBy w' row) (o : Obj) : w.grownBy (w'.alloc o) row :=
  ⟨h.os, h.tape, h.output, by have := h.size; simp; omega, fun k hk hne => (Below.heap_alloc w' o k (by have := h.size; omega)).trans (h.block k hk hne)⟩
theorem but_below {w w1 w' : World} {a : Nat} (hb : Below w.heap.size w w1) (h : w1.grownBy w' (some a)) : w.grownBy w' (some a) :=
  ⟨h.os.trans hb.os, h.tape.trans hb.tape, h.output.trans hb.output, Nat.le_trans hb.size h.size, fun k hk hne => (h.block k (Nat.lt_of_lt_of_le hk hb.size) hne).trans (hb.block k hk)⟩
theorem Found.after {w w1 w' : World} {a : Nat} {c : Int} (hb : Below w.heap.size w w1) (h : Found a c w1 w') : Found a c w w' := ⟨h.box, but_below hb h.but⟩

set_option maxRecDepth 100000 in
set_option maxHeartbeats 1000000 in
theorem over_as (a : Nat) (c : Int) (T : TypeId) (u : Value) (w : World) (ht : Target52 a w) :
    Calls Tryd.prog 194 #[.agg #[.int .i64 c, .iface T u], .iface 120 (.pointer (some ⟨a, 0, none⟩))] w fun e w' => e = .returned (.bool true) ∧ Found a c w w' := by
  obtain ⟨old, hb⟩ := ht.box
  have hc := hb.cell
  have hf := hb.frozen
  have hlt := hb.lt
  have HB := Lib.hid hb; clear hb
  have hne : ¬ a = w.heap.size := by omega
  go_enter Tryd.func194, Tryd.ntmps194
  go_wp2
  go_ret
  exact ⟨rfl, (HB.out.set _).alloc _, but_alloc (grownBy_setCell' w a _) _⟩

/-- The topmost code. -/
def topP (t : List (Int × Int)) : Int := (codesP t).headD 0
theorem top_word (n : Int) (r : List (Int × Int)) : topP ((0, n) :: r) = topP r := by simp [topP, codesP_word]
theorem top_code (c n : Int) (h : ¬ c = 0) (r : List (Int × Int)) : topP ((c, n) :: r) = c := by simp [topP, codesP_code c n h]

set_option maxRecDepth 100000 in
set_option maxHeartbeats 2000000 in
theorem as_loop (a : Nat) (b : Nat) (t : List (Int × Int)) (ht : t ≠ []) (hok : Ok t) (w : World) (hT : Target52 a w) (hb : Boxed w b 120 (.pointer (some ⟨a, 0, none⟩))) :
    Calls Tryd.prog 101 #[enc t, .iface 120 (.pointer (some ⟨a, 0, none⟩)), val52 ⟨b, 0, none⟩, .iface 216 (.agg #[.pointer (some ⟨2, 46, none⟩)])] w fun e w' => e = .returned (.bool true) ∧ Found a (topP t) w w' := by
  have Hok := Lib.hid hok; clear hok
  have Ht := Lib.hid ht; clear ht
  have HT := Lib.hid hT; clear hT
  have HB := Lib.hid hb; clear hb
  have f1 := rl_typeOf38
  have f2 := rl_typeOf62
  have f3 := rl_typeOf66
  have f4 := rl_mAssignable
  have f5 := rl_assign38
  have f6 := rl_assign62
  have f7 := rl_assign66
  go_enter Tryd.func101, Tryd.ntmps101
  go_wp2
  have hBx : Boxed (w.alloc (.cells #[.pointer (some ⟨2, 120, none⟩), .pointer (some ⟨b, 0, none⟩), .int .u64 150] 176)) b 120 (.pointer (some ⟨a, 0, none⟩)) := HB.out.alloc _
  have hTx : Target52 a (w.alloc (.cells #[.pointer (some ⟨2, 120, none⟩), .pointer (some ⟨b, 0, none⟩), .int .u64 150] 176)) := HT.out.below ((Below.refl _ w).alloc (Nat.le_refl _) _)
  have hvx : (w.alloc (.cells #[.pointer (some ⟨2, 120, none⟩), .pointer (some ⟨b, 0, none⟩), .int .u64 150] 176)).heap[w.heap.size]? = some (.cells #[.pointer (some ⟨2, 120, none⟩), .pointer (some ⟨b, 0, none⟩), .int .u64 150] 176 (0, 0)) := heap_new _ _
  generalize hwb : w.alloc (.cells #[.pointer (some ⟨2, 120, none⟩), .pointer (some ⟨b, 0, none⟩), .int .u64 150] 176) = wb at hBx hTx hvx ⊢
  have hbel : Below w.heap.size w wb := by rw [← hwb]; exact (Below.refl _ w).alloc (Nat.le_refl _) _
  have HBx := Lib.hid hBx; clear hBx
  have HTx := Lib.hid hTx; clear hTx
  have Hvx := Lib.hid hvx; clear hvx hwb
  go_loopg [0] t.length (fun k e wr => ∃ q : List (Int × Int), q.length = k ∧ Hid (q ≠ []) ∧ Hid (Ok q) ∧ e = enc q ∧ Hid (topP t = topP q) ∧ Below wb.heap.size wb wr)
  case atStart => exact ⟨t, rfl, Ht, Hok, rfl, rfl, Below.refl _ _⟩
  case round =>
    obtain ⟨q, hk, Hq, Hokq, rfl, Htop, hB⟩ := hrel
    obtain ⟨⟨c, n⟩, r, rfl⟩ : ∃ x r, q = x :: r := by
      cases q with
      | nil => exact absurd rfl Hq.out
      | cons x r => exact ⟨x, r, rfl⟩
    have Hk := Lib.hid hk; clear hk
    have hbw : Below w.heap.size w wr := hbel.trans (hB.mono hbel.size)
    by_cases h : c = 0
    · subst h
      have hr : r ≠ [] := Hokq.out.1 rfl
      obtain ⟨y, s, rfl⟩ : ∃ x s, r = x :: s := by
        cases r with
        | nil => exact absurd rfl hr
        | cons x s => exact ⟨x, s, rfl⟩
      obtain ⟨T, u, hy⟩ := enc_cons y s
      have Htw := Lib.hid (top_word n (y :: s))
      rw [enc_word, hy]
      have Hy := Lib.hid hy; clear hy hr
      go_wp2_with (go_at_call 198; refine (unwrap_at _ _ _ _).mono ?_; rintro e w' ⟨rfl, rfl⟩)
      go_roundg (y :: s).length
      case measure => rw [← Hk.out]; simp
      case rel => exact ⟨y :: s, rfl, (by intro h; cases h), Hokq.out.2, Hy.out.symm, Htop.out.trans Htw.out, hB.alloc hB.size _⟩
    · cases r with
      | nil =>
        rw [enc_code _ _ h]
        have Htc := Lib.hid (top_code c n h [])
        clear h
        have hbx := boxed_below HBx.out hB
        obtain ⟨old, htx⟩ := (HTx.out.below hB).box
        have hvv : wr.heap[w.heap.size]? = some (.cells #[.pointer (some ⟨2, 120, none⟩), .pointer (some ⟨b, 0, none⟩), .int .u64 150] 176 (0, 0)) := (hB.block _ (Array.getElem?_eq_some_iff.1 Hvx.out).1).trans Hvx.out
        have c0 : wr.cell? ⟨w.heap.size, 0, none⟩ = some (.pointer (some ⟨2, 120, none⟩)) := by simp [World.cell?, hvv]
        have c1 : wr.cell? ⟨w.heap.size, 1, none⟩ = some (.pointer (some ⟨b, 0, none⟩)) := by simp [World.cell?, hvv]
        have c2 : wr.cell? ⟨w.heap.size, 2, none⟩ = some (.int .u64 150) := by simp [World.cell?, hvv]
        have e1 := rl_elem ⟨b, 0, none⟩ ⟨a, 0, none⟩ wr hbx.cell
        have e2 := rl_valueOf38 c
        have e3 := rl_set ⟨a, 0, none⟩ ⟨wr.heap.size, 0, none⟩ c (.int .i64 old) (wr.alloc (.cells #[.int .i64 c] 46)) (Boxed.new wr 46 _).cell (htx.alloc _).cell (htx.alloc _).frozen
        have Hset := Lib.hid ((htx.alloc (.cells #[.int .i64 c] 46)).set (.int .i64 c))
        have Hbut := Lib.hid (but_below hbw (but_below ((Below.refl _ wr).alloc (Nat.le_refl _) (.cells #[.int .i64 c] 46)) (grownBy_setCell' _ a (.int .i64 c))))
        clear hbx htx hvv
        go_wp2
        go_ret
        exact ⟨rfl, by rw [Htop.out, Htc.out]; exact Hset.out, Hbut.out⟩
      | cons y s =>
        obtain ⟨T, u, hy⟩ := enc_cons y s
        have Htc := Lib.hid (top_code c n h (y :: s))
        rw [enc_over _ _ h, hy]
        clear hy h
        have HT2 := Lib.hid (HTx.out.below hB)
        go_wp2_with (go_at_call 194; refine (over_as _ _ _ _ _ HT2.out).mono ?_; rintro e w' ⟨rfl, hF⟩)
        go_ret
        exact ⟨rfl, by rw [Htop.out, Htc.out]; exact hF.after hbw⟩

end Go.Proofs.YtkpffnihnhlghaaDoor.Cs

namespace Go.Proofs.YtkpffnihnhlghaaDoor.Cs
open Go.RowKit Go.Extern.Stop Go.Stop Go.Extern


/-- errors.errorType, as it is laid. -/
def ErrT (w : World) : Prop := w.cell? ⟨0, 0, none⟩ = some (.iface 216 (.agg #[.pointer (some ⟨2, 43, none⟩)]))
theorem ErrT.below {w w' : World} (h : ErrT w) (hb : Below w.heap.size w w') : ErrT w' :=
  (hb.cell (p := ⟨0, 0, none⟩) (World.block_lt_of_cell? w _ h)).trans h

set_option maxRecDepth 100000 in
set_option maxHeartbeats 1000000 in
theorem errors_as_nil (v : Value) (w : World) : Calls Tryd.prog 53 #[.nilIface, v] w fun e w' => e = .returned (.bool false) ∧ w = w' := by
  go_enter Tryd.func53, Tryd.ntmps53
  go_wp2
  go_ret
  exact ⟨rfl, rfl⟩

set_option maxRecDepth 100000 in
set_option maxHeartbeats 2000000 in
theorem errors_as (a : Nat) (t : List (Int × Int)) (ht : t ≠ []) (hok : Ok t) (w : World) (hT : Target52 a w) (hE : ErrT w) :
    Calls Tryd.prog 53 #[enc t, .iface 120 (.pointer (some ⟨a, 0, none⟩))] w fun e w' => e = .returned (.bool true) ∧ Found a (topP t) w w' := by
  obtain ⟨x, r, rfl⟩ : ∃ x r, t = x :: r := by
    cases t with
    | nil => exact absurd rfl ht
    | cons x r => exact ⟨x, r, rfl⟩
  obtain ⟨T, u, hx⟩ := enc_cons x r
  have HL := Lib.hid (fun W b h1 h2 => as_loop a b (x :: r) ht hok W h1 h2)
  rw [hx] at HL ⊢
  clear ht hok hx
  have h1 := rl_valueOf ⟨a, 0, none⟩
  have h2 := rl_type
  have h3 := rl_mKind
  have h4 := rl_kind52
  have h5 := rl_kind38
  have h6 := rl_mElem
  have h7 := rl_elem52
  have h8 := rl_mImplements
  have h9 := rl_implements38
  obtain ⟨w1, hw1⟩ : ∃ w1, (w.alloc (.cells #[.pointer (some ⟨a, 0, none⟩)] 120)).alloc (.cells #[.pointer (some ⟨2, 120, none⟩), .pointer (some ⟨w.heap.size, 0, none⟩), .int .u64 150] 176) = w1 := ⟨_, rfl⟩
  have hbox : Boxed w1 w.heap.size 120 (.pointer (some ⟨a, 0, none⟩)) := by rw [← hw1]; exact (Boxed.new w 120 _).alloc _
  have hb1 : Below w.heap.size w w1 := by rw [← hw1]; exact ((Below.refl _ w).alloc (Nat.le_refl _) _).alloc (by simp) _
  have n1 := rl_isNil ⟨w.heap.size, 0, none⟩ ⟨a, 0, none⟩ w1 hbox.cell
  have hg : w1.cell? ⟨0, 0, none⟩ = some (.iface 216 (.agg #[.pointer (some ⟨2, 43, none⟩)])) := hE.below hb1
  have hv : w1.heap[w.heap.size + 1]? = some (.cells #[.pointer (some ⟨2, 120, none⟩), .pointer (some ⟨w.heap.size, 0, none⟩), .int .u64 150] 176 (0, 0)) := by
    rw [← hw1]
    have := heap_new (w.alloc (.cells #[.pointer (some ⟨a, 0, none⟩)] 120)) (.cells #[.pointer (some ⟨2, 120, none⟩), .pointer (some ⟨w.heap.size, 0, none⟩), .int .u64 150] 176)
    rwa [World.size_alloc] at this
  have c0 : w1.cell? ⟨w.heap.size + 1, 0, none⟩ = some (.pointer (some ⟨2, 120, none⟩)) := by simp [World.cell?, hv]
  have c1 : w1.cell? ⟨w.heap.size + 1, 1, none⟩ = some (.pointer (some ⟨w.heap.size, 0, none⟩)) := by simp [World.cell?, hv]
  have c2 : w1.cell? ⟨w.heap.size + 1, 2, none⟩ = some (.int .u64 150) := by simp [World.cell?, hv]
  have HC := Lib.hid (HL.out w1 w.heap.size (hT.below hb1) hbox)
  clear hv hbox hE hT HL
  go_enter Tryd.func53, Tryd.ntmps53
  go_wp2_with (go_at_call 101; refine HC.out.mono ?_; rintro e w2 ⟨rfl, hF⟩)
  go_ret
  exact ⟨rfl, hF.after hb1⟩

end Go.Proofs.YtkpffnihnhlghaaDoor.Cs

namespace Go.Proofs.YtkpffnihnhlghaaDoor.Cs
open Go.RowKit


set_option maxRecDepth 100000 in
set_option maxHeartbeats 1000000 in
theorem top_any (t : List (Int × Int)) (hok : Ok t) (ht : t.length ≤ 1000) (w : World) (hE : ErrT w) :
    Calls Tryd.prog 16 #[enc t] w fun e w' => e = .returned (.int .i64 (topP t)) ∧ Below w.heap.size w w' := by
  have HK := Lib.hid (fun W => known_any t hok ht W)
  have hal : Below w.heap.size w (w.alloc (.cells #[.int .i64 0] 46)) := (Below.refl _ w).alloc (Nat.le_refl _) _
  have Hal := Lib.hid hal; clear hal
  have HE := Lib.hid hE; clear hE
  by_cases hn : t = []
  · subst hn
    clear hok ht
    show Calls Tryd.prog 16 #[.nilIface] w _
    have HK2 : Hid (∀ W, Calls Tryd.prog 54 #[.nilIface] W fun e w' => e = .returned .nilIface ∧ Below W.heap.size W w') := HK.out
    clear HK
    go_enter Tryd.func16, Tryd.ntmps16
    go_wp2_with (first | (go_at_call 54; refine (HK2.out _).mono ?_; rintro e w1 ⟨rfl, hb1⟩) | (go_at_call 53; refine (errors_as_nil _ _).mono ?_; rintro e w' ⟨rfl, rfl⟩))
    go_ret
    exact ⟨rfl, Hal.out.trans (hb1.mono (by simp))⟩
  · have HA := Lib.hid (fun W h1 h2 => errors_as w.heap.size t hn hok W h1 h2)
    have Hnew := Lib.hid (Boxed.new w 46 (.int .i64 0))
    clear hn hok ht
    go_enter Tryd.func16, Tryd.ntmps16
    go_wp2_with fail
    refine (HK.out _).mono ?_
    rintro e w1 ⟨rfl, hb1⟩
    go_wp2_with fail
    refine (HA.out _ ⟨0, boxed_below Hnew.out hb1⟩ (HE.out.below (Hal.out.trans (hb1.mono (by simp))))).mono ?_
    rintro e w2 ⟨rfl, hF⟩
    have hc := hF.box.cell
    have hB : Below w.heap.size w w2 := by
      have h1 : Below w.heap.size w w1 := Hal.out.trans (hb1.mono (by simp))
      exact h1.grown hF.but h1.size (fun k e => by cases e; exact Nat.le_refl _)
    clear hF hb1
    go_wp2
    go_ret
    exact ⟨rfl, hB⟩

end Go.Proofs.YtkpffnihnhlghaaDoor.Cs
