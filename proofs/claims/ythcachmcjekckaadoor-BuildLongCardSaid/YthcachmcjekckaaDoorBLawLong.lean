/- BuildLong: the law's walk. -/
import Derived.Test.YthcachmcjekckaaDoorBLawB
import Derived.Test.YthcachmcjekckaaDoorBLongM
import Derived.Test.YthcachmcjekckaaDoorBAwake
import Derived.Test.YthcachmcjekckaaDoorBR7
import Derived.Deep.AppendLies
import Derived.Deep.RegionLaw
namespace Go.Proofs.YthcachmcjekckaaDoor
open Go.ChangeShapes Go.WideShapes Go.ChangeAt Go.RowKit
set_option maxRecDepth 100000 in
set_option maxHeartbeats 8000000 in
theorem lawLong_any (n0 n1 : Int) (w : World) (hE : Cs.ErrT w) :
    Calls Tryd.prog 3 #[.int .i64 n0, .int .i64 n1] w fun e w' => e = .returned (.bool true) ∧ Below w.heap.size w w' := by
  have HE := Lib.hid hE
  clear hE
  obtain ⟨k0, hk0, HK0⟩ := lg_rest n0 12 (by omega) (by omega)
  obtain ⟨n, hn, HN0⟩ := lg_rest n1 241 (by omega) (by omega)
  have HK : (wrap64 (n0.tmod 12 + 12)).tmod 12 = (k0 : Int) := HK0
  have HN : (wrap64 (n1.tmod 241 + 241)).tmod 241 = (n : Int) := HN0
  obtain ⟨k, hk⟩ : ∃ k, k = 1 + k0 := ⟨_, rfl⟩
  have hkw : IntKind.i64.wrap (1 + (k0 : Int)) = (k : Int) := by rw [hk]; exact (IntWalk.i64_in _ (by omega)).trans (by omega)
  have hk12 : k ≤ 12 := by omega
  clear HK0 HN0 hk
  go_enter Tryd.func3, Tryd.ntmps3
  go_wp2_with fail
  refine (awake7_any _ HE.out).mono ?_
  rintro e w1 ⟨rfl, hb⟩
  have HB1 := Lib.hid hb
  clear hb
  have HSAT := Lib.hid (lgS_at w1)
  have HB2 : Hid (Below w.heap.size w (((w1.alloc (.cells #[.int .i64 5, .int .i64 1] 24)).alloc (.cells #[.int .i64 3, .int .i64 0, .int .i64 3, .int .i64 0, .int .i64 3, .int .i64 0] 24)).alloc (.cells #[.slice (some ⟨w1.heap.size, 0, none⟩) 1 1, .slice (some ⟨w1.heap.size + 1, 0, none⟩) 3 3] 25))) := Lib.hid (((HB1.out.alloc HB1.out.size _).alloc (by simp; have := HB1.out.size; omega) _).alloc (by simp; have := HB1.out.size; omega) _)
  go_wp2
  have hsz : w1.heap.size + 1 + 1 + 1 = (((w1.alloc (.cells #[.int .i64 5, .int .i64 1] 24)).alloc (.cells #[.int .i64 3, .int .i64 0, .int .i64 3, .int .i64 0, .int .i64 3, .int .i64 0] 24)).alloc (.cells #[.slice (some ⟨w1.heap.size, 0, none⟩) 1 1, .slice (some ⟨w1.heap.size + 1, 0, none⟩) 3 3] 25)).heap.size := by simp
  rw [hsz]
  clear hsz HB1
  generalize ((w1.alloc (.cells #[.int .i64 5, .int .i64 1] 24)).alloc (.cells #[.int .i64 3, .int .i64 0, .int .i64 3, .int .i64 0, .int .i64 3, .int .i64 0] 24)).alloc (.cells #[.slice (some ⟨w1.heap.size, 0, none⟩) 1 1, .slice (some ⟨w1.heap.size + 1, 0, none⟩) 3 3] 25) = Ws at HSAT HB2 ⊢
  have HL0 := Lib.hid (L1g.start Ws n k)
  generalize (Ws.alloc (.cells #[.int .u64 0, .string ⟨#[]⟩, .slice none 0 0, .slice none 0 0] 32)).alloc (.cells #[.int .u64 0, .string ⟨#[]⟩, .slice none 0 0, .slice (some ⟨Ws.heap.size, 0, none⟩) 1 1] 32) = W0 at HL0 ⊢
  have hmk3 := mk_three
  obtain ⟨i0, hi0, hz1, hz2, hz3⟩ := info_parts info_tree
  go_loopw [11, 9] (fun iv lv wr => ∃ (i : Nat) (v : Value) (f : Nat → Tr) (a1 : Nat → Option Addr) (k1 : Nat → Nat) (a2 : Nat → Option Addr) (k2 : Nat → Nat), i ≤ k ∧ iv = .int .i64 i ∧ lv = .int .i64 ((n - 12 * (3 * i) : Nat) : Int) ∧ Hid (L1g Ws n k i v f a1 k1 a2 k2 wr) ∧ Hid (∀ j, j < i → f j = lgO n j)) (fun iv _ _ => k - (intOf iv).toNat)
  case atStart => exact ⟨0, _, _, _, _, _, _, Nat.zero_le _, rfl, by simp, HL0, Lib.hid (fun j hj => absurd hj (Nat.not_lt_zero j))⟩
  case round =>
    clear HL0
    obtain ⟨i, v, f, a1, k1, a2, k2, hi, rfl, rfl, HL, HF⟩ := hrel
    obtain ⟨Wr, hWr⟩ : ∃ W, W = wr := ⟨_, rfl⟩
    subst hWr
    by_cases hi1 : i < k
    · have d1 : decide ((i : Int) < (k : Int)) = true := decide_eq_true (by omega)
      have d1' : decide (i < k) = true := decide_eq_true hi1
      go_wp2
      have HL2 := Lib.hid (L2g.start Wr (fun _ => 0) n i)
      generalize (Wr.alloc (.cells #[.int .u64 0, .string ⟨#[]⟩, .slice none 0 0, .slice none 0 0, .int .u64 0, .string ⟨#[]⟩, .slice none 0 0, .slice none 0 0, .int .u64 0, .string ⟨#[]⟩, .slice none 0 0, .slice none 0 0] 32)).alloc (.cells #[.int .u64 0, .string ⟨#[]⟩, .slice none 0 0, .slice (some ⟨Wr.heap.size, 0, none⟩) 3 3] 32) = W2 at HL2 ⊢
      clear d1 d1'
      go_loopw [13, 9] (fun jv lv w3 => ∃ (j : Nat) (Aq : Nat → Nat), j ≤ 3 ∧ jv = .int .i64 j ∧ lv = .int .i64 ((n - 12 * (3 * i + j) : Nat) : Int) ∧ Hid (L2g Wr Aq n i j w3)) (fun jv _ _ => 3 - (intOf jv).toNat)
      case atStart => exact ⟨0, _, Nat.zero_le _, rfl, by simp, HL2⟩
      case round =>
        clear HL2
        obtain ⟨j, Aq, hj, rfl, rfl, HJ⟩ := hrel
        by_cases hj1 : j < 3
        · have d1 : decide ((j : Int) < 3) = true := decide_eq_true (by omega)
          have d1' : decide (j < 3) = true := decide_eq_true hj1
          have hA12 := lgA_le n (3 * i + j)
          have hAm : lgA n (3 * i + j) = min (n - 12 * (3 * i + j)) 12 := rfl
          have hAl := lgA_left n (3 * i + j)
          have HNX := fun W' => HJ.out.next (W' := W')
          obtain ⟨a, HA⟩ : ∃ a, Hid (lgA n (3 * i + j) = a) := ⟨_, Lib.hid rfl⟩
          obtain ⟨lf, HLF⟩ : ∃ lf, Hid (n - 12 * (3 * i + j) = lf) := ⟨_, Lib.hid rfl⟩
          obtain ⟨lg, HLG⟩ : ∃ lg, Hid (n - 12 * (3 * i + j + 1) = lg) := ⟨_, Lib.hid rfl⟩
          have hlf : lf ≤ 241 := by rw [← HLF.out]; omega
          rw [HA.out] at hA12 hAm hAl HNX
          rw [HLF.out] at hAm hAl ⊢
          rw [HLG.out] at hAl
          have HNX := Lib.hid HNX
          have hmin : min (lf : Int) 12 = (a : Int) := by omega
          have hsub : IntKind.i64.wrap ((lf : Int) - (a : Int)) = (lg : Int) := (IntWalk.i64_in _ (by omega)).trans (by omega)
          have hmk := mk_full a (by omega)
          have hx : wr.cell? ⟨Wr.heap.size + 1, 3, none⟩ = some (.slice (some ⟨Wr.heap.size, 0, none⟩) 3 3) := HJ.out.bx.c3
          have hr0 := HJ.out.row.cell (i := j * 4 + 2) (by omega)
          have hfz := HJ.out.row.frozen (j * 4 + 2)
          have p1 : (0 : Int) ≤ (j : Int) := by omega
          have p2 : (j : Int) < 3 := by omega
          have hwl : Wr.heap.size + 2 ≤ wr.heap.size := HJ.out.lt
          have hmk12 : ∀ w : World, (Instr.makeSlice 29 (.int .i64 12) (.int .i64 12)).run Tryd.prog w = .ok (.slice (some ⟨w.heap.size, 0, none⟩) 12 12) (w.alloc (.cells (madeCells #[.int .u64 0] 12) 28)) := mk_full 12 (by omega)
          have hb2 := HJ.out.below ((Below.refl _ wr).alloc (Nat.le_refl _) (.cells (madeCells #[.int .u64 0] a) 28))
          have hx2 : (wr.alloc (.cells (madeCells #[.int .u64 0] a) 28)).cell? ⟨Wr.heap.size + 1, 3, none⟩ = some (.slice (some ⟨Wr.heap.size, 0, none⟩) 3 3) := hb2.bx.c3
          have hr2 := hb2.row.cell (i := j * 4 + 2) (by omega)
          have hf2 := hb2.row.frozen (j * 4 + 2)
          clear hb2
          have hcase : (lf ≤ 12 ∧ a = lf ∧ lg = 0) ∨ (12 < lf ∧ a = 12 ∧ lg = lf - 12) := by omega
          clear hAm hAl hA12 hmin
          rcases hcase with ⟨hc1, rfl, rfl⟩ | ⟨hc1, rfl, hc3⟩
          · have g1 : decide ((a : Int) ≤ 12) = true := decide_eq_true (by omega)
            have g1' : ((a : Int) ≤ 12) = True := by simp; omega
            have g1'' : (a ≤ 12) = True := by simp; omega
            clear hsub
            go_wp2
            have HL3 := Lib.hid (HJ.out.made HA.out)
            go_region
            all_goals
              clear hx hr0 hfz hx2 hr2 hf2
              generalize ((wr.alloc _).setCell _ _).drew = W3 at HL3 ⊢
              go_wp2
              go_roundw
              case rel => exact ⟨j + 1, _, by omega, by go_num, by rw [← Nat.add_assoc, HLG.out] <;> first | rfl | simp, HL3⟩
              case measure => simp [intOf]; omega
          · have g1 : ((lf : Int) ≤ 12) = False := by simp; omega
            have g1'' : (lf ≤ 12) = False := by simp; omega
            have hsub2 : IntKind.i64.wrap ((lf : Int) - 12) = (lg : Int) := hsub
            clear hsub hc3
            go_wp2
            have HL3 := Lib.hid (HJ.out.made HA.out)
            go_region
            all_goals
              clear hx hr0 hfz hx2 hr2 hf2
              generalize ((wr.alloc _).setCell _ _).drew = W3 at HL3 ⊢
              go_wp2
              go_roundw
              case rel => exact ⟨j + 1, _, by omega, by go_num, by rw [← Nat.add_assoc, HLG.out] <;> first | rfl | simp, HL3⟩
              case measure => simp [intOf]; omega
        · have e : j = 3 := by omega
          subst e
          have d1 : decide (((3 : Nat) : Int) < 3) = false := decide_eq_false (by omega)
          have HLi := Lib.hid (HL.out.below HJ.out.be)
          have HTT := Lib.hid HJ.out.tat
          have HLW := Lib.hid (show Wr.heap.size + 2 ≤ wr.heap.size from HJ.out.lt)
          have HBX := Lib.hid HJ.out.bx
          clear HJ
          have HB3 : Hid (∀ o, Below wr.heap.size wr (wr.alloc o).drew) := Lib.hid (fun o => ((Below.refl _ wr).alloc (Nat.le_refl _) o).drew)
          have hvo := HL.out.ka.own.lt
          obtain ⟨Av, cv, hv, -⟩ := HLi.out.ka.row
          subst hv
          have HVO : Hid (∀ b, (Value.slice Av i cv).ownBlock = some b → b < Wr.heap.size) := Lib.hid (fun b e => (hvo b e).2)
          clear hvo
          go_wp2
          go_region
          all_goals
            generalize hW3 : (wr.alloc _).drew = W3
            have hb3 : Below wr.heap.size wr W3 := hW3 ▸ HB3.out _
            have hl3 : wr.heap.size ≤ W3.heap.size := hb3.size
            clear hW3
            have HL4 := Lib.hid (HLi.out.below hb3)
            have HT4 := Lib.hid (HTT.out.below hb3)
            have hbx := HBX.out.of_block (hb3.block _ (by have := HLW.out; omega))
            have hsw := HL.out.lt
            have va : W3.cell? ⟨Ws.heap.size + 1, 3, none⟩ = some (.slice (some ⟨Ws.heap.size, 0, none⟩) 1 1) := HL4.out.vb.c3
            have vk : W3.cell? ⟨Ws.heap.size, 3, none⟩ = some (.slice Av i cv) := HL4.out.kb.cell (i := 3) (by omega)
            have kfz := HL4.out.kb.frozen 3
            have x0 : W3.cell? ⟨Wr.heap.size + 1, 0, none⟩ = some (.int .u64 0) := hbx.c0
            have x1 : W3.cell? ⟨Wr.heap.size + 1, 1, none⟩ = some (.string ⟨#[]⟩) := hbx.c1
            have x2 : W3.cell? ⟨Wr.heap.size + 1, 2, none⟩ = some (.slice none 0 0) := hbx.c2
            have x3 : W3.cell? ⟨Wr.heap.size + 1, 3, none⟩ = some (.slice (some ⟨Wr.heap.size, 0, none⟩) 3 3) := hbx.c3
            clear hb3 hbx
            have HY : Hid (TAt W3 (fun c => Ws.heap.size + 2 ≤ c ∧ (Value.slice Av i cv).ownBlock ≠ some c) (lgO n i) none (some ⟨Wr.heap.size, 0, none⟩)) := Lib.hid (HT4.out.mono fun b hb _ => ⟨by omega, fun e => by have := HVO.out b e; omega⟩)
            have HLO : Hid (∀ b, b < Ws.heap.size + 2 → some b ≠ (Value.slice Av i cv).ownBlock) := Lib.hid (fun b hb e => by have := (HL4.out.ka.own.lt b e.symm).1; omega)
            go_wp2
          · have HV : Hid (Below W3.heap.size W3 (W3.alloc (.cells #[.int .u64 0, .string ⟨#[]⟩, .slice none 0 0, .slice (some ⟨Wr.heap.size, 0, none⟩) 3 3] 32)).drew) := Lib.hid (by (repeat (first | with_reducible exact Below.refl _ _ | with_reducible refine Below.drew ?_ | (with_reducible refine Below.setCell ?_ ?side _; case side => exact (by first | (simp; done) | (simp; omega) | omega)) | (with_reducible refine Below.alloc ?_ ?side _; case side => exact (by first | (simp; done) | (simp; omega) | omega)))))
            have h5 := HL4.out.below HV.out
            have HO : Hid ((W3.alloc (.cells #[.int .u64 0, .string ⟨#[]⟩, .slice none 0 0, .slice (some ⟨Wr.heap.size, 0, none⟩) 3 3] 32)).drew.ownsRow (Ws.heap.size + 2) 32 4 (.slice Av i cv) i (cells4 f a1 k1 a2 k2 i)) := Lib.hid h5.ka.own
            have va1 : (W3.alloc (.cells #[.int .u64 0, .string ⟨#[]⟩, .slice none 0 0, .slice (some ⟨Wr.heap.size, 0, none⟩) 3 3] 32)).cell? ⟨Ws.heap.size + 1, 3, none⟩ = some (.slice (some ⟨Ws.heap.size, 0, none⟩) 1 1) := h5.vb.c3
            have vk1 : (W3.alloc (.cells #[.int .u64 0, .string ⟨#[]⟩, .slice none 0 0, .slice (some ⟨Wr.heap.size, 0, none⟩) 3 3] 32)).cell? ⟨Ws.heap.size, 3, none⟩ = some (.slice Av i cv) := h5.kb.cell (i := 3) (by omega)
            have kf1 : (W3.alloc (.cells #[.int .u64 0, .string ⟨#[]⟩, .slice none 0 0, .slice (some ⟨Wr.heap.size, 0, none⟩) 3 3] 32)).frozen? ⟨Ws.heap.size, 3, none⟩ = false := h5.kb.frozen 3
            clear h5
            have HCC : Hid (∀ j u, [.int .u64 0, .string ⟨#[]⟩, .slice none 0 0, .slice (some ⟨Wr.heap.size, 0, none⟩) 3 3][j]? = some u → (W3.alloc (.cells #[.int .u64 0, .string ⟨#[]⟩, .slice none 0 0, .slice (some ⟨Wr.heap.size, 0, none⟩) 3 3] 32)).drew.cell? ((⟨W3.heap.size, 0, none⟩ : Addr).add j) = some u) := Lib.hid (World.news_of_block (heap_alloc_new W3 _))
            have hsz1 : W3.heap.size < (W3.alloc (.cells #[.int .u64 0, .string ⟨#[]⟩, .slice none 0 0, .slice (some ⟨Wr.heap.size, 0, none⟩) 3 3] 32)).drew.heap.size := by simp
            have HSZ1 := Lib.hid hsz1
            clear hsz1
            have hnext : ∀ (w10 : World) (g1 cap1 : Nat), w10.ownsRow (Ws.heap.size + 2) 32 4 (.slice (some ⟨g1, 0, none⟩) (i + 1) cap1) (i + 1) (cells4 f a1 k1 a2 k2 i ++ [.int .u64 0, .string ⟨#[]⟩, .slice none 0 0, .slice (some ⟨Wr.heap.size, 0, none⟩) 3 3]) → (W3.alloc (.cells #[.int .u64 0, .string ⟨#[]⟩, .slice none 0 0, .slice (some ⟨Wr.heap.size, 0, none⟩) 3 3] 32)).drew.grownBy w10 (Value.slice Av i cv).ownBlock → ((Value.slice Av i cv).ownBlock = some g1 ∨ g1 = (W3.alloc (.cells #[.int .u64 0, .string ⟨#[]⟩, .slice none 0 0, .slice (some ⟨Wr.heap.size, 0, none⟩) 3 3] 32)).drew.heap.size) → w10.cell? ⟨Ws.heap.size, 3, none⟩ = some (.slice Av i cv) ∧ w10.frozen? ⟨Ws.heap.size, 3, none⟩ = false ∧ w10.cell? ⟨Ws.heap.size + 1, 3, none⟩ = some (.slice (some ⟨Ws.heap.size, 0, none⟩) 1 1) ∧ L1g Ws n k (i + 1) (.slice (some ⟨g1, 0, none⟩) (i + 1) cap1) (adPut f i (lgO n i)) (adPut a1 i none) (adPut k1 i 0) (adPut a2 i (some ⟨Wr.heap.size, 0, none⟩)) (adPut k2 i 3) (w10.setCell ⟨Ws.heap.size, 3, none⟩ (.slice (some ⟨g1, 0, none⟩) (i + 1) cap1)) := fun w10 g1 cap1 hown hgrow hat => by
              obtain ⟨y1, y2, hnx⟩ := HL4.out.next (y := lgO n i) (A1 := none) (K1 := 0) (K2 := 3) HV.out HSZ1.out HY.out hown hgrow hat
              exact ⟨y1, y2, World.grownBy.cell hgrow (a := ⟨Ws.heap.size + 1, 3, none⟩) va1 (HLO.out _ (by show Ws.heap.size + 1 < _; omega)), hnx⟩
            have HNE := Lib.hid hnext
            clear hnext
            have HBL : Hid (Ws.heap.size + 2 ≤ (W3.alloc (.cells #[.int .u64 0, .string ⟨#[]⟩, .slice none 0 0, .slice (some ⟨Wr.heap.size, 0, none⟩) 3 3] 32)).drew.heap.size) := Lib.hid (by have := HL4.out.lt; have := HSZ1.out; omega)
            go_region_law (first
              | (refine step_append_lies _ (by rfl) _ _ 30 (by rfl) (Ws.heap.size + 2) 32 i0 (.agg #[.int .u64 0, .string ⟨#[]⟩, .slice none 0 0, .slice none 0 0]) 4 72 Tryd.underlying30 hi0 hz1 hz2 hz3 rfl (by omega) _ _ _ (by rfl) HO.out ⟨W3.heap.size, 0, none⟩ 1 1 [.int .u64 0, .string ⟨#[]⟩, .slice none 0 0, .slice (some ⟨Wr.heap.size, 0, none⟩) 3 3] (by rfl) (by rfl) HCC.out (by simp [Value.oneCell']) (by omega) (by unfold maxLen; omega) (by omega) HBL.out _ rfl ?_; intro g1 cap1 w10 hown hgrow hat hlt; obtain ⟨y1, y2, y3, hnx⟩ := HNE.out w10 g1 cap1 hown hgrow hat; have HNX := Lib.hid hnx; clear hown hgrow hat hlt hnx)
              | fail)
            all_goals
              clear va vk kfz x0 x1 x2 x3 va1 vk1 kf1 y1 y2 y3
              generalize w10.setCell _ _ = W9 at HNX ⊢
              go_wp2
              go_roundw
              case rel => exact ⟨i + 1, _, _, _, _, _, _, by omega, by go_num, by rw [show 3 * (i + 1) = 3 * i + 3 by omega], HNX, Lib.hid (fun j hj => by
                by_cases e : j = i
                · subst e; rw [adPut_at]
                · rw [adPut_ne _ _ (show j < i by omega)]; exact HF.out j (by omega))⟩
              case measure => simp [intOf]; omega
          · have HV : Hid (Below W3.heap.size W3 (W3.alloc (.cells #[.int .u64 0, .string ⟨#[]⟩, .slice none 0 0, .slice none 0 0] 32)).drew) := Lib.hid (by (repeat (first | with_reducible exact Below.refl _ _ | with_reducible refine Below.drew ?_ | (with_reducible refine Below.setCell ?_ ?side _; case side => exact (by first | (simp; done) | (simp; omega) | omega)) | (with_reducible refine Below.alloc ?_ ?side _; case side => exact (by first | (simp; done) | (simp; omega) | omega)))))
            have h5 := HL4.out.below HV.out
            have HO : Hid ((W3.alloc (.cells #[.int .u64 0, .string ⟨#[]⟩, .slice none 0 0, .slice none 0 0] 32)).drew.ownsRow (Ws.heap.size + 2) 32 4 (.slice Av i cv) i (cells4 f a1 k1 a2 k2 i)) := Lib.hid h5.ka.own
            have va1 : (W3.alloc (.cells #[.int .u64 0, .string ⟨#[]⟩, .slice none 0 0, .slice none 0 0] 32)).cell? ⟨Ws.heap.size + 1, 3, none⟩ = some (.slice (some ⟨Ws.heap.size, 0, none⟩) 1 1) := h5.vb.c3
            have vk1 : (W3.alloc (.cells #[.int .u64 0, .string ⟨#[]⟩, .slice none 0 0, .slice none 0 0] 32)).cell? ⟨Ws.heap.size, 3, none⟩ = some (.slice Av i cv) := h5.kb.cell (i := 3) (by omega)
            have kf1 : (W3.alloc (.cells #[.int .u64 0, .string ⟨#[]⟩, .slice none 0 0, .slice none 0 0] 32)).frozen? ⟨Ws.heap.size, 3, none⟩ = false := h5.kb.frozen 3
            have z0 : (W3.alloc (.cells #[.int .u64 0, .string ⟨#[]⟩, .slice none 0 0, .slice none 0 0] 32)).cell? ⟨Wr.heap.size + 1, 0, none⟩ = some (.int .u64 0) := ((Below.refl W3.heap.size W3).alloc (Nat.le_refl _) _).cell (p := ⟨Wr.heap.size + 1, 0, none⟩) (by have := HLW.out; show Wr.heap.size + 1 < _; omega) |>.trans x0
            have z1 : (W3.alloc (.cells #[.int .u64 0, .string ⟨#[]⟩, .slice none 0 0, .slice none 0 0] 32)).cell? ⟨Wr.heap.size + 1, 1, none⟩ = some (.string ⟨#[]⟩) := ((Below.refl W3.heap.size W3).alloc (Nat.le_refl _) _).cell (p := ⟨Wr.heap.size + 1, 1, none⟩) (by have := HLW.out; show Wr.heap.size + 1 < _; omega) |>.trans x1
            have z2 : (W3.alloc (.cells #[.int .u64 0, .string ⟨#[]⟩, .slice none 0 0, .slice none 0 0] 32)).cell? ⟨Wr.heap.size + 1, 2, none⟩ = some (.slice none 0 0) := ((Below.refl W3.heap.size W3).alloc (Nat.le_refl _) _).cell (p := ⟨Wr.heap.size + 1, 2, none⟩) (by have := HLW.out; show Wr.heap.size + 1 < _; omega) |>.trans x2
            have z3 : (W3.alloc (.cells #[.int .u64 0, .string ⟨#[]⟩, .slice none 0 0, .slice none 0 0] 32)).cell? ⟨Wr.heap.size + 1, 3, none⟩ = some (.slice (some ⟨Wr.heap.size, 0, none⟩) 3 3) := ((Below.refl W3.heap.size W3).alloc (Nat.le_refl _) _).cell (p := ⟨Wr.heap.size + 1, 3, none⟩) (by have := HLW.out; show Wr.heap.size + 1 < _; omega) |>.trans x3
            have hne4 : ¬ Wr.heap.size + 1 = Ws.heap.size := by omega
            clear h5
            have HCC : Hid (∀ j u, [.int .u64 0, .string ⟨#[]⟩, .slice none 0 0, .slice none 0 0][j]? = some u → (W3.alloc (.cells #[.int .u64 0, .string ⟨#[]⟩, .slice none 0 0, .slice none 0 0] 32)).drew.cell? ((⟨W3.heap.size, 0, none⟩ : Addr).add j) = some u) := Lib.hid (World.news_of_block (heap_alloc_new W3 _))
            have hsz1 : W3.heap.size < (W3.alloc (.cells #[.int .u64 0, .string ⟨#[]⟩, .slice none 0 0, .slice none 0 0] 32)).drew.heap.size := by simp
            have HSZ1 := Lib.hid hsz1
            clear hsz1
            have hnext : ∀ (w10 : World) (g1 cap1 : Nat), w10.ownsRow (Ws.heap.size + 2) 32 4 (.slice (some ⟨g1, 0, none⟩) (i + 1) cap1) (i + 1) (cells4 f a1 k1 a2 k2 i ++ [.int .u64 0, .string ⟨#[]⟩, .slice none 0 0, .slice none 0 0]) → (W3.alloc (.cells #[.int .u64 0, .string ⟨#[]⟩, .slice none 0 0, .slice none 0 0] 32)).drew.grownBy w10 (Value.slice Av i cv).ownBlock → ((Value.slice Av i cv).ownBlock = some g1 ∨ g1 = (W3.alloc (.cells #[.int .u64 0, .string ⟨#[]⟩, .slice none 0 0, .slice none 0 0] 32)).drew.heap.size) → w10.cell? ⟨Ws.heap.size, 3, none⟩ = some (.slice Av i cv) ∧ w10.frozen? ⟨Ws.heap.size, 3, none⟩ = false ∧ w10.cell? ⟨Ws.heap.size + 1, 3, none⟩ = some (.slice (some ⟨Ws.heap.size, 0, none⟩) 1 1) ∧ L1g Ws n k (i + 1) (.slice (some ⟨g1, 0, none⟩) (i + 1) cap1) (adPut f i (lgF 0)) (adPut a1 i none) (adPut k1 i 0) (adPut a2 i none) (adPut k2 i 0) (w10.setCell ⟨Ws.heap.size, 3, none⟩ (.slice (some ⟨g1, 0, none⟩) (i + 1) cap1)) ∧ TAt (w10.setCell ⟨Ws.heap.size, 3, none⟩ (.slice (some ⟨g1, 0, none⟩) (i + 1) cap1)) (fun c => Ws.heap.size + 2 ≤ c ∧ c ≠ g1) (lgO n i) none (some ⟨Wr.heap.size, 0, none⟩) := fun w10 g1 cap1 hown hgrow hat => by
              obtain ⟨y1, y2, hnx⟩ := HL4.out.next (y := lgF 0) (A1 := none) (K1 := 0) (A2 := none) (K2 := 0) HV.out HSZ1.out ⟨none_row _ _ _, fun h => absurd h (Nat.lt_irrefl 0)⟩ hown hgrow hat
              have hvs := HVO.out
              have hsz9 := hgrow.size
              have hV9 := HV.out.size
              have hS9 : w10.heap.size ≤ (w10.setCell ⟨Ws.heap.size, 3, none⟩ (.slice (some ⟨g1, 0, none⟩) (i + 1) cap1)).heap.size := ((Below.refl 0 w10).setCell (Nat.zero_le _) _).size
              have hZ1 := HSZ1.out
              refine ⟨y1, y2, World.grownBy.cell hgrow (a := ⟨Ws.heap.size + 1, 3, none⟩) va1 (HLO.out _ (by show Ws.heap.size + 1 < _; omega)), hnx, HT4.out.keep (fun b hb hlb => ?_) (fun b hb hlb => ⟨by omega, fun e => ?_⟩) (by omega)⟩
              · exact (Below.heap_setCell w10 ⟨Ws.heap.size, 3, none⟩ _ b (by show b ≠ Ws.heap.size; omega)).trans ((hgrow.block b (by omega) (fun e => by have := hvs b e.symm; omega)).trans (HV.out.block b hlb))
              · rcases hat with e3 | e3
                · have := hvs g1 e3; omega
                · omega
            have HNE := Lib.hid hnext
            clear hnext
            have HBL : Hid (Ws.heap.size + 2 ≤ (W3.alloc (.cells #[.int .u64 0, .string ⟨#[]⟩, .slice none 0 0, .slice none 0 0] 32)).drew.heap.size) := Lib.hid (by have := HL4.out.lt; have := HSZ1.out; omega)
            go_region_law (first
              | (refine step_append_lies _ (by rfl) _ _ 30 (by rfl) (Ws.heap.size + 2) 32 i0 (.agg #[.int .u64 0, .string ⟨#[]⟩, .slice none 0 0, .slice none 0 0]) 4 72 Tryd.underlying30 hi0 hz1 hz2 hz3 rfl (by omega) _ _ _ (by rfl) HO.out ⟨W3.heap.size, 0, none⟩ 1 1 [.int .u64 0, .string ⟨#[]⟩, .slice none 0 0, .slice none 0 0] (by rfl) (by rfl) HCC.out (by simp [Value.oneCell']) (by omega) (by unfold maxLen; omega) (by omega) HBL.out _ rfl ?_; intro g1 cap1 w10 hown hgrow hat hlt; obtain ⟨y1, y2, y3, hnx, hty⟩ := HNE.out w10 g1 cap1 hown hgrow hat; have HNX := Lib.hid hnx; have HTY := Lib.hid hty; clear hown hgrow hat hlt hnx hty)
              | fail)
            all_goals
              clear va vk kfz x0 x1 x2 x3 va1 vk1 kf1 y1 y2 y3 z0 z1 z2 z3
              generalize w10.setCell _ _ = W9 at HNX HTY ⊢
              obtain ⟨e0, e1, e2, e3⟩ := cells4_get (adPut f i (lgF 0)) (adPut a1 i none) (adPut k1 i 0) (adPut a2 i none) (adPut k2 i 0) (i + 1) i (by omega)
              have s0 := (World.ownsRow.cellAt HNX.out.ka.own (i * 4) (by omega)).trans e0
              have s1 := (World.ownsRow.cellAt HNX.out.ka.own (i * 4 + 1) (by omega)).trans e1
              have s2 := (World.ownsRow.cellAt HNX.out.ka.own (i * 4 + 2) (by omega)).trans e2
              have s3 := (World.ownsRow.cellAt HNX.out.ka.own (i * 4 + 3) (by omega)).trans e3
              have sf := World.ownsRow.frozenAt HNX.out.ka.own
              have HP := Lib.hid (HNX.out.put (i := i) (by omega) (K1 := 0) (K2 := 3) HTY.out)
              have p1 : (0 : Int) ≤ (i : Int) := by omega
              clear e0 e1 e2 e3
              go_wp2
              go_roundw
              case rel => exact ⟨i + 1, _, _, _, _, _, _, by omega, by go_num, by rw [show 3 * (i + 1) = 3 * i + 3 by omega], HP, Lib.hid (fun j hj => by
                by_cases e : j = i
                · subst e; rw [adPut_at]
                · rw [adPut_ne _ _ (show j < i by omega), adPut_ne _ _ (show j < i by omega)]; exact HF.out j (by omega))⟩
              case measure => simp [intOf]; omega
    · have e : i = k := by omega
      subst e
      have d1 : decide ((i : Int) < (i : Int)) = false := decide_eq_false (by omega)
      have HTX := Lib.hid (HL.out.tat HF.out)
      have v0 : Wr.cell? ⟨Ws.heap.size + 1, 0, none⟩ = some (.int .u64 0) := HL.out.vb.c0
      have v1 : Wr.cell? ⟨Ws.heap.size + 1, 1, none⟩ = some (.string ⟨#[]⟩) := HL.out.vb.c1
      have v2 : Wr.cell? ⟨Ws.heap.size + 1, 2, none⟩ = some (.slice none 0 0) := HL.out.vb.c2
      have v3 : Wr.cell? ⟨Ws.heap.size + 1, 3, none⟩ = some (.slice (some ⟨Ws.heap.size, 0, none⟩) 1 1) := HL.out.vb.c3
      have hcd := lgX_code n i hk12
      have hhd := lgX_head n i hk12
      have HBE := Lib.hid (Below.step HB2.out HL.out.be HB2.out.size)
      have HSA := Lib.hid (HSAT.out.below HL.out.be)
      obtain ⟨lf, HLF⟩ : ∃ lf, Hid (n - 12 * (3 * i) = lf) := ⟨_, Lib.hid rfl⟩
      have hlf : lf ≤ n := by rw [← HLF.out]; omega
      rw [HLF.out] at hcd hhd ⊢
      obtain ⟨SZ, HSZ⟩ : ∃ SZ, Hid (2 + 3 * i + n - lf = SZ) := ⟨_, Lib.hid rfl⟩
      have hsz0 := HSZ.out
      rw [HSZ.out] at hcd hhd
      have HCD := Lib.hid hcd
      have HHD := Lib.hid hhd
      have u1 : IntKind.i64.wrap (3 * (i : Int)) = 3 * (i : Int) := IntWalk.i64_in _ (by omega)
      have u2 : IntKind.i64.wrap (2 + 3 * (i : Int)) = 2 + 3 * (i : Int) := IntWalk.i64_in _ (by omega)
      have u3 : IntKind.i64.wrap (2 + 3 * (i : Int) + (n : Int)) = 2 + 3 * (i : Int) + (n : Int) := IntWalk.i64_in _ (by omega)
      have u4 : IntKind.i64.wrap (2 + 3 * (i : Int) + (n : Int) - (lf : Int)) = (SZ : Int) := (IntWalk.i64_in _ (by omega)).trans (by omega)
      clear hcd hhd hsz0
      go_wp2_with fail
      clear v0 v1 v2 v3
      refine (build_any lgS _ 2 0 (lgX n i) none _ 0 1 2 _ HSA.out (lgX_sm n i hk12) (by omega) HTX.out).mono ?_
      rintro e w4 ⟨A', cap', rfl, hr, hb⟩
      have HBE4 := Lib.hid (Below.step HBE.out hb HBE.out.size)
      have HE4 := Lib.hid (HE.out.below HBE4.out)
      clear hb
      by_cases hl : 200 < SZ
      · have e1 : bcode lgS 0 (lgX n i) = 21 := by rw [HCD.out, if_pos hl]
        have e2 : bmsg lgS 0 (lgX n i) = [] := bmsg_none (by rw [e1]; omega)
        rw [e1, e2]
        have d2 : decide ((200 : Int) < (SZ : Int)) = true := decide_eq_true (by omega)
        have d2' : decide (200 < SZ) = true := decide_eq_true (by omega)
        clear e1 e2 hr
        go_wp2_with fail
        refine (top_err 21 _ HE4.out).mono ?_
        rintro e w5 ⟨rfl, hb5⟩
        have HB5 := Lib.hid (Below.step HBE4.out hb5 HBE4.out.size)
        clear hb5
        go_wp2
        go_ret
        exact ⟨rfl, HB5.out⟩
      · have e1 : bcode lgS 0 (lgX n i) = 0 := by rw [HCD.out, if_neg hl]
        obtain ⟨r, hm, hlen⟩ := HHD.out (by omega)
        have hs1 : 1 ≤ SZ := by have := HSZ.out; omega
        obtain ⟨bb, off, hA, hlt, hc⟩ := hr.row.some_ (by omega)
        subst hA
        have c0 := hc 0 (by omega)
        rw [hm, Nat.add_zero] at c0
        have c0' : w4.cell? ⟨bb, off, none⟩ = some (.int .u64 (SZ : Nat)) := c0
        rw [e1, hlen, errV_0]
        have d2 : decide ((200 : Int) < (SZ : Int)) = false := decide_eq_false (by omega)
        have d2' : decide (200 < SZ) = false := decide_eq_false (by omega)
        have u5 : IntKind.i64.wrap (SZ : Int) = (SZ : Int) := IntWalk.i64_in _ (by omega)
        have q1 : (0 : Int) < (SZ : Int) := by omega
        clear e1 hr hc c0 hm hlen
        go_wp2_with fail
        refine (top_none _ HE4.out).mono ?_
        rintro e w5 ⟨rfl, hb5⟩
        have c1 := (hb5.cell (p := ⟨bb, off, none⟩) hlt).trans c0'
        have HB5 := Lib.hid (Below.step HBE4.out hb5 HBE4.out.size)
        clear hb5 c0'
        go_wp2
        go_ret
        exact ⟨rfl, HB5.out⟩

end Go.Proofs.YthcachmcjekckaaDoor
