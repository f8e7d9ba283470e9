/- SchemaBack: the law's own walk. -/
import Derived.Test.YtfafffeeembceaaDoorQSame
import Derived.Test.YtfafffeeembceaaDoorQTells
namespace Go.Proofs.YtfafffeeembceaaDoor
open Go.RowKit
theorem same_words {a b : Sch} (ha : RightS a) (hb : RightS b) : sameB a b = sameWB a.n b.n (wd a) (wd b) := by
  by_cases h : sameS a b
  · rw [sameB_true h, sameWB_true ⟨h.1, fun i hi => wd_congr h hi⟩]
  · rw [sameB_false h, sameWB_false fun g => h (wd_inj ha hb g.1 g.2)]

set_option maxRecDepth 100000 in
set_option maxHeartbeats 8000000 in
theorem lawBack_any (A0 : Option Addr) (L0 c0 : Nat) (A1 : Option Addr) (L1 c1 : Nat) (w : World) (hE : Cs.ErrT w) (hL0 : L0 ≤ 9223372036854775807) (hI0 : IRow w A0 L0) (hL1 : L1 ≤ 9223372036854775807) (hI1 : IRow w A1 L1) :
    Calls Tryd.prog 5 #[.slice A0 L0 c0, .slice A1 L1 c1] w fun e w' => e = .returned (.bool true) ∧ Below w.heap.size w w' := by
  have HE := Lib.hid hE
  have HI0 := Lib.hid hI0
  have HI1 := Lib.hid hI1
  clear hE hI0 hI1
  go_enter Tryd.func5, Tryd.ntmps5
  go_wp2_with fail
  refine (awake5_any _).mono ?_
  rintro e w1 ⟨rfl, hb⟩
  have H1 := Lib.hid hb
  clear hb
  go_wp2_with fail
  refine (made_any A0 L0 c0 _ hL0 (HI0.out.below H1.out)).mono ?_
  rintro e w2 ⟨a, A, c, rfl, hra, ha4, hal, hsa, hb⟩
  have H2 := Lib.hid (Below.step H1.out hb H1.out.size)
  have HSA := Lib.hid hsa
  have HRA := Lib.hid hra
  have HLA := Lib.hid hal
  clear hb H1 hsa hra hal
  go_wp2_with fail
  refine (made_any A1 L1 c1 _ hL1 (HI1.out.below H2.out)).mono ?_
  rintro e w3 ⟨b, B, d, rfl, hrb, hb4, hbl, hsb, hb⟩
  have H3 := Lib.hid (Below.step H2.out hb H2.out.size)
  have HSA3 := Lib.hid (HSA.out.below hb)
  have HSB := Lib.hid hsb
  have HRB := Lib.hid hrb
  clear hb H2 HSA hsb hrb hbl
  go_wp2_with fail
  refine (pack_yes a A c _ HSA3.out HRA.out).mono ?_
  rintro e w4 ⟨g, rfl, hg, hrow, hb⟩
  have H4 := Lib.hid (Below.step H3.out hb H3.out.size)
  have HSA4 := Lib.hid (HSA3.out.below hb)
  have HSB4 := Lib.hid (HSB.out.below hb)
  have HP := Lib.hid (wrow_of_rowIs hrow (fun j hj => by have := HRA.out.wd_lt (i := j) hj; omega))
  clear hb H3 HSA3 HSB hrow hg
  go_wp2_with fail
  refine (read_yes _ a.n a.n (wd a) _ HP.out (by omega) (readOk_wd HRA.out)).mono ?_
  rintro e w5 ⟨g5, rfl, hx, hb⟩
  have H5 := Lib.hid (Below.step H4.out hb H4.out.size)
  have HSA5 := Lib.hid (HSA4.out.below hb)
  have HSB5 := Lib.hid (HSB4.out.below hb)
  have HX := Lib.hid hx
  clear hb H4 HSA4 HSB4 HP hx
  have hk := r5Same_any (unS (wd a) a.n) a (some ⟨g5, 0, none⟩) A a.n c w5 HX.out HSA5.out (by show a.n ≤ 1000; omega) (fun i _ => by show wd a i % 8 ≤ 1000; omega)
  rw [show (unS (wd a) a.n).n = a.n from rfl, sameB_true (unS_wd HRA.out)] at hk
  go_wp2_with fail
  refine hk.mono ?_
  rintro e w6 ⟨rfl, hb⟩
  have H6 := Lib.hid (Below.step H5.out hb H5.out.size)
  have HSA6 := Lib.hid (HSA5.out.below hb)
  have HSB6 := Lib.hid (HSB5.out.below hb)
  clear hb H5 HSA5 HSB5 HX hk
  go_wp2_with fail
  refine (r5Same_any a b A B c d _ HSA6.out HSB6.out (by omega) (fun i hi => by have := HLA.out i hi; omega)).mono ?_
  rintro e w7 ⟨rfl, hb⟩
  have H7 := Lib.hid (Below.step H6.out hb H6.out.size)
  have HSA7 := Lib.hid (HSA6.out.below hb)
  have HSB7 := Lib.hid (HSB6.out.below hb)
  clear hb H6 HSA6 HSB6
  go_wp2_with fail
  refine (pack_yes a A c _ HSA7.out HRA.out).mono ?_
  rintro e w8 ⟨g8, rfl, hg, hrow, hb⟩
  have H8 := Lib.hid (Below.step H7.out hb H7.out.size)
  have HSB8 := Lib.hid (HSB7.out.below hb)
  have HP8 := Lib.hid (wrow_of_rowIs hrow (fun j hj => by have := HRA.out.wd_lt (i := j) hj; omega))
  clear hb H7 HSA7 HSB7 hrow hg
  go_wp2_with fail
  refine (pack_yes b B d _ HSB8.out HRB.out).mono ?_
  rintro e w9 ⟨g9, rfl, hg, hrow, hb⟩
  have H9 := Lib.hid (Below.step H8.out hb H8.out.size)
  have HP9 := Lib.hid (HP8.out.below hb)
  have HQ9 := Lib.hid (wrow_of_rowIs hrow (fun j hj => by have := HRB.out.wd_lt (i := j) hj; omega))
  clear hb H8 HSB8 HP8 hrow hg
  go_wp2_with fail
  refine (same_any _ _ _ a.n b.n a.n b.n (wd a) (wd b) (by omega) HP9.out HQ9.out).mono ?_
  rintro e w10 ⟨rfl, hb⟩
  have H10 := Lib.hid (Below.step H9.out hb H9.out.size)
  clear hb H9 HP9 HQ9
  rw [← same_words HRA.out HRB.out]
  generalize sameB a b = sb
  go_wp2_with fail
  refine (top_none _ (HE.out.below H10.out)).mono ?_
  rintro e w11 ⟨rfl, hb⟩
  have H11 := Lib.hid (Below.step H10.out hb H10.out.size)
  clear hb H10
  go_wp2
  go_ret
  exact ⟨ret_bool (by simp), H11.out⟩

end Go.Proofs.YtfafffeeembceaaDoor
