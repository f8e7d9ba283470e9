/- The chapter's walk from its start. -/
import Derived.Test.YtkhbhkllnigbgaaDoorLNil
namespace Go.Proofs.YtkhbhkllnigbgaaDoor
open Go.RowKit Go.Shelf
def cloneL_ren : Go.Shelf.Ren := ⟨fun | 41 => 49 | n => n, fun | 22 => 23 | 23 => 3 | 4 => 4 | n => n, fun | n => n⟩
theorem cloneL : Go.Proofs.SlLaysN.n41 Tryd.prog cloneL_ren :=
  { mixed := by kernel_rfl,
    f41 := ⟨Tryd.f49.name, by decide, Tryd.func49.trans (congrArg some (by kernel_rfl))⟩,
    t4 := Tryd.underlying4,
    a4 := Tryd.isAgg4,
    z4 := Tryd.sizeOf4,
    v4 := Tryd.zeroValue4,
    t22 := Tryd.underlying23,
    a22 := Tryd.isAgg23,
    z22 := Tryd.sizeOf23,
    v22 := Tryd.zeroValue23,
    t23 := Tryd.underlying3,
    a23 := Tryd.isAgg3,
    z23 := Tryd.sizeOf3,
    v23 := Tryd.zeroValue3,
    i23 := by kernel_rfl }
theorem clone9 (b o c : Nat) (w : World) (h0 : w.cell? ⟨b, o, none⟩ = some (.int .i64 1)) (h1 : w.cell? ⟨b, o + 1, none⟩ = some (.int .i64 0)) : Calls Tryd.prog 49 #[.slice (some ⟨b, o, none⟩) 2 c] w fun e w' => ∃ v', e = .returned v' ∧ w'.ownsRow w.heap.size 3 1 v' 2 [.int .i64 1, .int .i64 0] ∧ v' ≠ .slice none 0 0 ∧ Below w.heap.size w w' :=
  AnyG.slices_Clone_int cloneL b o 2 c [1, 0] w (by simp) (by omega) (fun j hj => match j, hj with | 0, _ => h0 | 1, _ => h1)
set_option maxRecDepth 100000 in
set_option maxHeartbeats 2000000 in
theorem start9_ex (As : Option Addr) (c b o cp : Nat) (w : World) (hS : SAt w As exS6) (h0 : w.cell? ⟨b, o, none⟩ = some (.int .i64 1)) (h1 : w.cell? ⟨b, o + 1, none⟩ = some (.int .i64 0)) (hb : b < w.heap.size) :
    Calls Tryd.prog 16 #[.slice As 1 c, .int .i64 0, .int .i64 1, .slice (some ⟨b, o, none⟩) 2 cp] w fun e w' => ∃ q y r cap, e = .returned (.pointer (some ⟨q, 0, none⟩)) ∧ WkAt w' q y ∧ y.nd = true ∧ y.wd = 2 ∧ y.kd = 3 ∧ y.p = .slice (some ⟨r, 1, none⟩) (0 + 1) cap ∧ 0 + 1 ≤ cap ∧ cap ≤ 9223372036854775807 ∧ w'.cell? ⟨r, 1, none⟩ = some (.int .i64 0) ∧ r ≠ q ∧ w.heap.size ≤ q ∧ Below w.heap.size w w' := by
  have HS := Lib.hid hS
  have HC : Hid (w.cell? ⟨b, o, none⟩ = some (.int .i64 1) ∧ w.cell? ⟨b, o + 1, none⟩ = some (.int .i64 0) ∧ b < w.heap.size) := Lib.hid ⟨h0, h1, hb⟩
  clear hS h0 h1 hb
  go_enter Tryd.func16, Tryd.ntmps16
  go_wp2_with fail
  refine (check_yes exS6 As c _ HS.out (okS_true exS6_right)).mono ?_
  rintro e w1 ⟨rfl, hb⟩
  have HB1 := Lib.hid hb
  clear hb
  go_wp2_with fail
  refine (among9 0 1 (by omega) _).mono ?_
  rintro e w2 ⟨rfl, rfl⟩
  go_wp2_with fail
  refine (clone9 b o cp _ ((HB1.out.cell (p := ⟨b, o, none⟩) HC.out.2.2).trans HC.out.1) ((HB1.out.cell (p := ⟨b, o + 1, none⟩) HC.out.2.2).trans HC.out.2.1)).mono ?_
  rintro e w3 ⟨v, rfl, hown, -, hb⟩
  have HB3 := Lib.hid (Below.step HB1.out hb HB1.out.size)
  obtain ⟨g, cap, rfl⟩ := ownsRow_succ hown
  have k0 : w3.cell? ⟨g, 0, none⟩ = some (.int .i64 1) := hown.cellAt 0 (by omega)
  have k1 : w3.cell? ⟨g, 1, none⟩ = some (.int .i64 0) := hown.cellAt 1 (by omega)
  have hcap : 2 ≤ cap ∧ cap ≤ 9223372036854775807 ∧ g < w3.heap.size := by
    rcases hown.2 with ⟨h', _⟩ | ⟨g', cap', cur, h', b1, b2, b3, b4, _⟩
    · cases h'
    · cases h'
      exact ⟨b3, by unfold maxLen at b4; omega, (Array.getElem?_eq_some_iff.1 b2).1⟩
  have HK := Lib.hid (And.intro k0 (And.intro k1 hcap))
  clear hown hb k0 k1 hcap HB1 HC
  have hw := World.rowIs_alloc w3 #[.slice As 1 c, .slice (some ⟨g, 0, none⟩) 2 cap, .bool false, .int .i64 0, .int .i64 0, .int .i64 0, .int .i64 0, .int .i64 0, .int .u64 0, .int .i64 0] 114 (Wk.cell ⟨.slice As 1 c, .slice (some ⟨g, 0, none⟩) 2 cap, false, 0, 0, 0, 0, 0, 0, 0⟩) (wk_ten (P := fun i => #[Value.slice As 1 c, .slice (some ⟨g, 0, none⟩) 2 cap, .bool false, .int .i64 0, .int .i64 0, .int .i64 0, .int .i64 0, .int .i64 0, .int .u64 0, .int .i64 0][i]? = some (Wk.cell ⟨.slice As 1 c, .slice (some ⟨g, 0, none⟩) 2 cap, false, 0, 0, 0, 0, 0, 0, 0⟩ i)) rfl rfl rfl rfl rfl rfl rfl rfl rfl rfl)
  have K4 : Hid (WkAt (w3.alloc (.cells #[.slice As 1 c, .slice (some ⟨g, 0, none⟩) 2 cap, .bool false, .int .i64 0, .int .i64 0, .int .i64 0, .int .i64 0, .int .i64 0, .int .u64 0, .int .i64 0] 114)) w3.heap.size ⟨.slice As 1 c, .slice (some ⟨g, 0, none⟩) 2 cap, false, 0, 0, 0, 0, 0, 0, 0⟩) := Lib.hid hw
  have HB4 := Lib.hid (HB3.out.alloc HB3.out.size (.cells #[.slice As 1 c, .slice (some ⟨g, 0, none⟩) 2 cap, .bool false, .int .i64 0, .int .i64 0, .int .i64 0, .int .i64 0, .int .i64 0, .int .u64 0, .int .i64 0] 114))
  have HK4 : Hid ((w3.alloc (.cells #[.slice As 1 c, .slice (some ⟨g, 0, none⟩) 2 cap, .bool false, .int .i64 0, .int .i64 0, .int .i64 0, .int .i64 0, .int .i64 0, .int .u64 0, .int .i64 0] 114)).cell? ⟨g, 0, none⟩ = some (.int .i64 1) ∧ (w3.alloc (.cells #[.slice As 1 c, .slice (some ⟨g, 0, none⟩) 2 cap, .bool false, .int .i64 0, .int .i64 0, .int .i64 0, .int .i64 0, .int .i64 0, .int .u64 0, .int .i64 0] 114)).cell? ⟨g, 1, none⟩ = some (.int .i64 0)) := Lib.hid ⟨((((Below.refl _ _).alloc (Nat.le_refl _) _) : Below w3.heap.size w3 _).cell (p := ⟨g, 0, none⟩) HK.out.2.2.2.2).trans HK.out.1, ((((Below.refl _ _).alloc (Nat.le_refl _) _) : Below w3.heap.size w3 _).cell (p := ⟨g, 1, none⟩) HK.out.2.2.2.2).trans HK.out.2.1⟩
  clear hw
  go_wp2_with fail
  generalize w3.alloc (.cells #[.slice As 1 c, .slice (some ⟨g, 0, none⟩) 2 cap, .bool false, .int .i64 0, .int .i64 0, .int .i64 0, .int .i64 0, .int .i64 0, .int .u64 0, .int .i64 0] 114) = Wd at K4 HB4 HK4 ⊢
  have hq := HB3.out.size
  have hgq := HK.out.2.2.2.2
  generalize w3.heap.size = q at K4 hq hgq ⊢
  refine (enter9_ex w q _ As c g 0 cap _ hq HB4.out HS.out K4.out rfl rfl HK.out.2.2.1 HK.out.2.2.2.1 HK4.out.1).mono ?_
  rintro e w5 ⟨rfl, hk, hb⟩
  have K5 := Lib.hid hk
  have HB5 := Lib.hid (butq_below hq HB4.out hb)
  have HK5 : Hid (w5.cell? ⟨g, 1, none⟩ = some (.int .i64 0)) := Lib.hid ((World.cell?_of_block (a := ⟨g, 1, none⟩) (hb.block g (World.block_lt_of_cell? Wd _ HK4.out.2) (by omega))).trans HK4.out.2)
  clear hk hb
  go_wp2
  go_ret
  exact ⟨q, _, g, cap - 1, rfl, K5.out, rfl, rfl, rfl, rfl, by have := HK.out.2.2.1; omega, by have := HK.out.2.2.2.1; omega, HK5.out, by omega, hq, HB5.out⟩

end Go.Proofs.YtkhbhkllnigbgaaDoor
