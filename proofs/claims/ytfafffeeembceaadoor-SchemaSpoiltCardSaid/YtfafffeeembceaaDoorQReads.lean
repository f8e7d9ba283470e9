/- SchemaReads: the walk. -/
import Derived.Test.YtfafffeeembceaaDoorQSame
import Derived.Test.YtfafffeeembceaaDoorQTells
namespace Go.Proofs.YtfafffeeembceaaDoor
open Go.RowKit
set_option maxRecDepth 100000 in
set_option maxHeartbeats 8000000 in
theorem reads_yes (A : Option Addr) (L c : Nat) (f : Nat → Nat) (w : World) (hE : Cs.ErrT w) (hr : WRow w A L f) (h9 : L ≤ 9) (h : readOk f L) : Calls Tryd.prog 12 #[.slice A L c] w fun e w' => e = .returned (.bool true) ∧ Below w.heap.size w w' := by
  have HE := Lib.hid hE
  have HW := Lib.hid hr
  have HO := Lib.hid h
  clear hE hr h
  go_enter Tryd.func12, Tryd.ntmps12
  go_wp2_with fail
  refine (read_yes A L c f w HW.out HO.out.1.2.1 HO.out).mono ?_
  rintro e w1 ⟨g, rfl, hs, hb⟩
  have HS := Lib.hid hs
  clear hs
  have H1 := Lib.hid hb
  clear hb
  go_wp2_with fail
  refine (r5Read_any A L c f _ (HW.out.below H1.out) h9).mono ?_
  rintro e w2 ⟨hor, hb⟩
  obtain ⟨A2, c2, rfl, hs2⟩ : ∃ A2 c2, e = .returned (.tuple #[.slice A2 L c2, .bool true]) ∧ SAt w2 A2 (unS f L) := by
    rcases hor with ⟨_, h⟩ | ⟨h, _⟩
    · exact h
    · exact absurd HO.out h
  clear hor
  have H2 := Lib.hid (Below.step H1.out hb H1.out.size)
  have hk := r5Same_any (unS f L) (unS f L) (some ⟨g, 0, none⟩) A2 L c2 w2 (HS.out.below hb) hs2 (by show L ≤ 1000; omega) (fun i _ => by show f i % 8 ≤ 1000; omega)
  rw [show (unS f L).n = L from rfl] at hk
  clear HS hs2
  clear hb H1
  go_wp2_with fail
  refine hk.mono ?_
  rintro e w3 ⟨rfl, hb⟩
  rw [sameB_true (sameS_refl _)]
  have H3 := Lib.hid (Below.step H2.out hb H2.out.size)
  clear hb H2 hk
  go_wp2_with fail
  refine (top_none _ (HE.out.below H3.out)).mono ?_
  rintro e w4 ⟨rfl, hb⟩
  have H4 := Lib.hid (Below.step H3.out hb H3.out.size)
  clear hb H3
  go_wp2
  go_ret
  exact ⟨rfl, H4.out⟩

set_option maxRecDepth 100000 in
set_option maxHeartbeats 8000000 in
theorem reads_no (A : Option Addr) (L c : Nat) (f : Nat → Nat) (w : World) (hE : Cs.ErrT w) (hr : WRow w A L f) (h9 : L ≤ 9) (h : ¬ readOk f L) : Calls Tryd.prog 12 #[.slice A L c] w fun e w' => e = .returned (.bool true) ∧ Below w.heap.size w w' := by
  have HE := Lib.hid hE
  have HW := Lib.hid hr
  have HO := Lib.hid h
  clear hE hr h
  go_enter Tryd.func12, Tryd.ntmps12
  go_wp2_with fail
  refine (read_no A L c f w HW.out HO.out).mono ?_
  rintro e w1 ⟨rfl, hb⟩
  have H1 := Lib.hid hb
  clear hb
  go_wp2_with fail
  refine (r5Read_any A L c f _ (HW.out.below H1.out) h9).mono ?_
  rintro e w2 ⟨hor, hb⟩
  obtain rfl : e = .returned (.tuple #[.slice none 0 0, .bool false]) := by
    rcases hor with ⟨h, _⟩ | ⟨_, h⟩
    · exact absurd h HO.out
    · exact h
  clear hor
  have H2 := Lib.hid (Below.step H1.out hb H1.out.size)
  have hk := r5Same_any (unS f 0) (unS f 0) none none 0 0 w2 ⟨fun h => absurd h (Nat.lt_irrefl 0)⟩ ⟨fun h => absurd h (Nat.lt_irrefl 0)⟩ (by show 0 ≤ 1000; omega) (fun i _ => by show f i % 8 ≤ 1000; omega)
  rw [show (unS f 0).n = 0 from rfl] at hk
  clear hb H1
  go_wp2_with fail
  refine hk.mono ?_
  rintro e w3 ⟨rfl, hb⟩
  rw [sameB_true (sameS_refl _)]
  have H3 := Lib.hid (Below.step H2.out hb H2.out.size)
  clear hb H2 hk
  go_wp2_with fail
  refine (top_one 10 (by omega) _ (HE.out.below H3.out)).mono ?_
  rintro e w4 ⟨rfl, hb⟩
  have H5 := Lib.hid (Below.step H3.out hb H3.out.size)
  clear hb H3
  go_wp2_with fail
  refine (top_one 10 (by omega) _ (HE.out.below H5.out)).mono ?_
  rintro e w5 ⟨rfl, hb⟩
  have H4 := Lib.hid (Below.step H5.out hb H5.out.size)
  clear hb H5
  go_wp2
  go_ret
  exact ⟨rfl, H4.out⟩

theorem reads_any (A : Option Addr) (L c : Nat) (f : Nat → Nat) (w : World) (hE : Cs.ErrT w) (hr : WRow w A L f) (h9 : L ≤ 9) : Calls Tryd.prog 12 #[.slice A L c] w fun e w' => e = .returned (.bool true) ∧ Below w.heap.size w w' := by
  by_cases h : readOk f L
  · exact reads_yes A L c f w hE hr h9 h
  · exact reads_no A L c f w hE hr h9 h

end Go.Proofs.YtfafffeeembceaaDoor
