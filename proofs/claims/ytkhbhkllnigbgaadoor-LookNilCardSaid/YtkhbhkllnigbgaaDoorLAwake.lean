/- The laws' first call, and LookNil: the walk. -/
import Derived.Test.YtkhbhkllnigbgaaDoorLStart
namespace Go.Proofs.YtkhbhkllnigbgaaDoor
open Go.RowKit
theorem top9_one (w : World) (hE : Cs.ErrT w) : Calls Tryd.prog 21 #[Cs.enc [(1, 0)]] w fun r w' => r = .returned (.int .i64 1) ∧ Below w.heap.size w w' := by
  have h := Cs.top_any [(1, 0)] (by simp [Cs.Ok]) (by simp) w hE
  rw [Cs.top_code _ _ (by decide)] at h
  exact h
set_option maxRecDepth 100000 in
set_option maxHeartbeats 2000000 in
theorem awake9_any (w : World) (hE : Cs.ErrT w) : Calls Tryd.prog 14 #[] w fun e w' => e = .returned (.bool true) ∧ Below w.heap.size w w' := by
  have HE := Lib.hid hE
  clear hE
  have HS := Lib.hid (exS6_at w)
  go_enter Tryd.func14, Tryd.ntmps14
  go_wp2_with fail
  have hz : ((w.alloc (.cells #[.int .i64 1, .int .i64 0, .int .i64 3, .int .i64 0] 95)).alloc (.cells #[.slice (some ⟨w.heap.size, 0, none⟩) 2 2] 96)).heap.size = w.heap.size + 1 + 1 := by simp
  generalize hW : ((w.alloc (.cells #[.int .i64 1, .int .i64 0, .int .i64 3, .int .i64 0] 95)).alloc (.cells #[.slice (some ⟨w.heap.size, 0, none⟩) 2 2] 96)) = W1 at HS hz ⊢
  have HB1 : Hid (Below w.heap.size w W1) := Lib.hid (by rw [← hW]; exact (by (repeat (first | with_reducible exact Below.refl _ _ | with_reducible refine Below.drew ?_ | (with_reducible refine Below.setCell ?_ ?side _; case side => exact (by first | (simp; done) | (simp; omega) | omega)) | (with_reducible refine Below.alloc ?_ ?side _; case side => exact (by first | (simp; done) | (simp; omega) | omega))))))
  clear hW
  have hp := two_new9 W1 (.int .i64 1) (.int .i64 0) 3
  rw [hz] at hp
  refine (start9_ex (some ⟨w.heap.size + 1, 0, none⟩) 1 _ 0 2 _ (HS.out.below ((Below.refl _ _).alloc (Nat.le_refl _) _)) hp.1 hp.2 (by simp [hz])).mono ?_
  rintro e w2 ⟨q, y, r, cap, rfl, hk, hn, hw, hkd, hyp, hc1, hc2, hr, hrq, hq, hb⟩
  have HB2 := Lib.hid (Below.step (B := w.heap.size) (a := w) (HB1.out.alloc HB1.out.size (.cells #[.int .i64 1, .int .i64 0] 3)) hb (by have := HB1.out.size; simp; omega))
  have K2 := Lib.hid hk
  have HQ : Hid (w.heap.size ≤ q) := Lib.hid (by have := HB1.out.size; simp at hq; omega)
  have HN := Lib.hid (And.intro hn (And.intro hw (And.intro hkd (And.intro hyp (And.intro hc1 (And.intro hc2 (And.intro hr hrq)))))))
  clear hk hn hw hkd hyp hc1 hc2 hr hrq hq hb hp HS HB1 hz
  have hnx := fun w h => next9_any q y w h
  rw [HN.out.1, HN.out.2.1] at hnx
  have HX := Lib.hid hnx
  clear hnx
  go_wp2_with fail
  refine (HX.out _ K2.out).mono ?_
  rintro e w3 ⟨rfl, rfl⟩
  go_wp2_with fail
  refine (give9_go q y r 1 cap _ K2.out HN.out.1 HN.out.2.1 HN.out.2.2.1 HN.out.2.2.2.1 HN.out.2.2.2.2.1 HN.out.2.2.2.2.2.1 HN.out.2.2.2.2.2.2.1 HN.out.2.2.2.2.2.2.2).mono ?_
  rintro e w4 ⟨rfl, A, hk, hb⟩
  have K4 := Lib.hid hk
  have HB4 := Lib.hid (butq_below HQ.out HB2.out hb)
  clear hk hb K2 HX HB2
  go_wp2_with fail
  refine (next9_any q _ _ K4.out).mono ?_
  rintro e w5 ⟨rfl, rfl⟩
  go_wp2_with fail
  refine (give9_end q _ A (cap - 1) _ K4.out rfl rfl rfl rfl).mono ?_
  rintro e w6 ⟨rfl, hk, hb⟩
  have K6 := Lib.hid hk
  have HB6 := Lib.hid (butq_below HQ.out HB4.out hb)
  clear hk hb K4 HB4
  go_wp2_with fail
  refine (told9_any q _ _ K6.out rfl rfl).mono ?_
  rintro e w7 ⟨rfl, hb⟩
  have HB7 := Lib.hid (Below.step HB6.out hb HB6.out.size)
  clear hb HB6 K6
  go_wp2_with fail
  refine (top_none _ (HE.out.below HB7.out)).mono ?_
  rintro e w8 ⟨rfl, hb⟩
  have HB8 := Lib.hid (Below.step HB7.out hb HB7.out.size)
  clear hb HB7
  go_wp2
  go_ret
  exact ⟨rfl, HB8.out⟩
set_option maxRecDepth 100000 in
set_option maxHeartbeats 2000000 in
theorem lawNil_any (u : Int) (w : World) (hE : Cs.ErrT w) : Calls Tryd.prog 5 #[.int .u64 u] w fun e w' => e = .returned (.bool true) ∧ Below w.heap.size w w' := by
  have HE := Lib.hid hE
  clear hE
  go_enter Tryd.func5, Tryd.ntmps5
  go_wp2_with fail
  refine (give_nil u _).mono ?_
  rintro e w1 ⟨rfl, rfl⟩
  go_wp2_with fail
  refine (next_nil _).mono ?_
  rintro e w1 ⟨rfl, rfl⟩
  go_wp2_with fail
  refine (told_nil _).mono ?_
  rintro e w2 ⟨rfl, hb⟩
  have HB2 := Lib.hid hb
  clear hb
  go_wp2_with fail
  refine (awake9_any _ (HE.out.below HB2.out)).mono ?_
  rintro e w3 ⟨rfl, hb⟩
  have HB3 := Lib.hid (Below.step HB2.out hb HB2.out.size)
  clear hb HB2
  go_wp2_with fail
  refine (top9_one _ (HE.out.below HB3.out)).mono ?_
  rintro e w4 ⟨rfl, hb⟩
  have HB4 := Lib.hid (Below.step HB3.out hb HB3.out.size)
  clear hb HB3
  go_wp2
  go_ret
  exact ⟨rfl, HB4.out⟩

end Go.Proofs.YtkhbhkllnigbgaaDoor
