/- Two readings of Build tell the same. -/
import Derived.Test.YtifbaphfjamdlaaDoorBR7
import Derived.Test.YtifbaphfjamdlaaDoorBAwake
import Derived.Test.YtifbaphfjamdlaaDoorQAll
namespace Go.Proofs.YtifbaphfjamdlaaDoor
open Go.ChangeShapes Go.WideShapes Go.ChangeAt Go.RowKit
set_option maxRecDepth 100000 in
set_option maxHeartbeats 4000000 in
theorem tells7_any (s : Sch) (A : Option Addr) (c : Nat) (t : Int) (x : Tr) (An Ak : Option Addr) (cn ck n : Nat) (w : World) (hE : Cs.ErrT w) (hs : SAt w A s) (hS : Sm (2 * n) x) (hn : n ≤ 6) (hT : TAt w (fun _ => True) x An Ak) :
    Calls Tryd.prog 16 #[.slice A s.n c, .int .i64 t, (.agg #[.int .u64 ((x).num : Nat), .string (x).bs, .slice An (x).nl cn, .slice Ak (x).kl ck])] w fun e w' => e = .returned (.bool true) ∧ Below w.heap.size w w' := by
  have H0 := Lib.hid (CC.mk' (k1 := cn) (k2 := ck) hs hT)
  have HE0 := Lib.hid (hE.below ((Below.refl _ w).alloc (Nat.le_refl _) (.cells #[.int .u64 ((x).num : Nat), .string (x).bs, .slice An (x).nl cn, .slice Ak (x).kl ck] 32)))
  have HS := Lib.hid hS
  have hlen := bmsg_le s t x
  obtain ⟨C, HC⟩ : ∃ C, Hid (bcode s t x = C) := ⟨_, Lib.hid rfl⟩
  obtain ⟨M, HM⟩ : ∃ M, Hid (bmsg s t x = M) := ⟨_, Lib.hid rfl⟩
  rw [HM.out] at hlen
  clear hs hT hS hE
  go_enter Tryd.func16, Tryd.ntmps16
  go_wp2_with fail
  refine (build_any s A c t x An Ak cn ck n _ H0.out.sat HS.out hn H0.out.tat).mono ?_
  rintro e w1 ⟨A1, cap1, rfl, hr, hb⟩
  rw [HM.out] at hr
  rw [HM.out, HC.out]
  have H1 := Lib.hid (H0.out.below hb)
  have HE1 := Lib.hid (HE0.out.below hb)
  have HR1 := Lib.hid hr
  clear hr hb
  obtain ⟨b0, b1, b2, b3, -⟩ := H1.out.all
  go_wp2_with fail
  clear b0 b1 b2 b3
  refine (r7build_any s A c t x An Ak cn ck n _ H1.out.sat HS.out hn H1.out.tat).mono ?_
  rintro e w2 ⟨A2, cap2, rfl, hr, hb⟩
  rw [HM.out] at hr
  rw [HM.out, HC.out]
  have H2 := Lib.hid (H1.out.below hb)
  have HE2 := Lib.hid (HE1.out.below hb)
  have HR1' := Lib.hid (HR1.out.below hb)
  have HR2 := Lib.hid hr
  clear hr hb HR1
  go_wp2_with fail
  refine (same_any _ A1 A2 M.length M.length cap1 cap2 (nth M) (nth M) (by omega) HR1'.out.row HR2.out.row).mono ?_
  rintro e w3 ⟨rfl, hb⟩
  rw [sameWB_true ⟨rfl, fun _ _ => rfl⟩]
  have H3 := Lib.hid (H2.out.below hb)
  have HE3 := Lib.hid (HE2.out.below hb)
  clear hb
  go_wp2_with fail
  refine (top_err C _ HE3.out).mono ?_
  rintro e w4 ⟨rfl, hb⟩
  have H4 := Lib.hid (H3.out.below hb)
  clear hb
  go_wp2
  go_ret
  exact ⟨rfl, H4.out.be⟩

end Go.Proofs.YtifbaphfjamdlaaDoor
