/- links of nothing: nothing comes. -/
import Derived.Test.YtojlimpooeehhaaDoorCsIter
namespace Go.Proofs.YtojlimpooeehhaaDoor.Cs
open Go.RowKit Go.Shelf


def lenV : Value → Nat
  | .slice _ n _ => n
  | _ => 0

def NilAt (g : Nat) (w1 w2 : World) (s v : Value) (wr : World) : Prop :=
  (s = .int .i64 0 ∧ v = .slice (some ⟨g, 0, none⟩) 1 1 ∧ wr = w1) ∨
  (s = .int .i64 1 ∧ v = .slice (some ⟨g, 0, none⟩) 1 1 ∧ wr = w2) ∨
  (s = .int .i64 1 ∧ v = .slice (some ⟨g, 0, none⟩) 0 1 ∧ wr = w2)

set_option maxRecDepth 100000 in
set_option maxHeartbeats 1000000 in
theorem links_nil (m : Nat) (l Bn : Nat) (W : World) (hBn : Boxed W Bn 53 .nilIface) : LinksStop Tryd.prog m [] l Bn W := by
  intro J Jx hJ hY h0
  have hb := hBn.cell
  clear hY
  have hT1 : Turn W.heap.size W ((W.alloc (.cells #[.nilIface] 53)).alloc (.cells #[.slice (some ⟨W.heap.size, 0, none⟩) 1 1] 150)) :=
    (Turn.alloc W (Nat.le_refl _) _).trans (Turn.alloc _ (by simp) _)
  have hT2 : Turn W.heap.size W ((W.alloc (.cells #[.nilIface] 53)).alloc (.cells #[.slice (some ⟨W.heap.size, 0, none⟩) 0 0] 150)) :=
    (Turn.alloc W (Nat.le_refl _) _).trans (Turn.alloc _ (by simp) _)
  have hJ2 := hJ _ _ _ h0 hT2
  have HJ2 := Lib.hid hJ2; clear hJ2 hT1 hT2 hJ h0
  have hst := stranger_nil
  have Hst := Lib.hid hst; clear hst
  refine callsIn_of_wp Tryd.func97 rfl trivial ?_ rfl
  simp only [Tryd.ntmps97, List.size_toArray, List.length_cons, List.length_nil, Nat.reduceAdd, Nat.reduceSub, Array.replicate_succ, Array.replicate_zero, List.push_toArray, List.append_toArray, List.nil_append, List.cons_append]
  gi_wp2
  gi_loopw [3, 4] (fun s v wr => NilAt (W.heap.size + 1) ((W.alloc (.cells #[.nilIface] 53)).alloc (.cells #[.slice (some ⟨W.heap.size, 0, none⟩) 1 1] 150)) ((W.alloc (.cells #[.nilIface] 53)).alloc (.cells #[.slice (some ⟨W.heap.size, 0, none⟩) 0 0] 150)) s v wr) (fun s v _ => 2 * (1 - (intOf s).toNat) + lenV v)
  case atStart => exact .inl ⟨rfl, rfl, rfl⟩
  case round =>
    rcases hrel with ⟨rfl, rfl, rfl⟩ | ⟨rfl, rfl, rfl⟩ | ⟨rfl, rfl, rfl⟩
    · gi_wp2_with fail
      refine ⟨trivial, (fun h => by cases h), ?_⟩
      refine (callsIn_wide.2 (Hst.out _)).mono ?_
      rintro e w' ⟨rfl, rfl⟩
      gi_wp2
      go_roundw
      case rel => exact .inr (.inl ⟨rfl, rfl, rfl⟩)
      case measure => simp [intOf, lenV]
    · gi_wp2
      go_roundw
      case rel => exact .inr (.inr ⟨rfl, rfl, rfl⟩)
      case measure => simp [intOf, lenV]
    · gi_wp2
      go_end0
      exact ⟨⟨_, rfl⟩, .inl HJ2.out⟩

theorem links_any (m : Nat) (t : List (Int × Int)) (hok : Ok t) (ht : t.length ≤ 1001) (l Bn : Nat) (W : World) (hBn : Boxed W Bn 53 (enc t)) : LinksStop Tryd.prog m t l Bn W := by
  cases t with
  | nil => exact links_nil m l Bn W hBn
  | cons x r => exact links_cons m x r hok (by simp at ht; omega) l Bn W hBn

theorem mk_func (fn : Fn) (first cap : Array Value) (w : World) : (Instr.makeFunc fn first cap).run Tryd.prog w = .ok (.func fn first cap) w := rfl

set_option maxHeartbeats 400000 in
theorem links_made_nil (w : World) : Calls Tryd.prog 73 #[.nilIface] w fun e w' => e = .returned (.func (.func 97) #[] #[.pointer (some ⟨w.heap.size, 0, none⟩)]) ∧ w' = w.alloc (.cells #[.nilIface] 53) := by
  have hmf := mk_func
  go_enter Tryd.func73, Tryd.ntmps73
  go_wp2
  go_ret
  exact ⟨rfl, rfl⟩

set_option maxHeartbeats 400000 in
theorem links_made_some (t : TypeId) (u : Value) (w : World) : Calls Tryd.prog 73 #[.iface t u] w fun e w' => e = .returned (.func (.func 97) #[] #[.pointer (some ⟨w.heap.size, 0, none⟩)]) ∧ w' = w.alloc (.cells #[.iface t u] 53) := by
  have hmf := mk_func
  go_enter Tryd.func73, Tryd.ntmps73
  go_wp2
  go_ret
  exact ⟨rfl, rfl⟩

theorem links_made (t : List (Int × Int)) (w : World) : Calls Tryd.prog 73 #[enc t] w fun e w' => e = .returned (.func (.func 97) #[] #[.pointer (some ⟨w.heap.size, 0, none⟩)]) ∧ w' = w.alloc (.cells #[enc t] 53) := by
  cases t with
  | nil => exact links_made_nil w
  | cons x r =>
    obtain ⟨t, u, h⟩ := enc_cons x r
    rw [h]
    exact links_made_some t u w

end Go.Proofs.YtojlimpooeehhaaDoor.Cs
