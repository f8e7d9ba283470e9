/- What Text tells of a trouble: the texts of its parts, one behind the other. -/
import Derived.Test.YtplkeakkjkkfmaaDoorSaid
namespace Go.Proofs.YtplkeakkjkkfmaaDoor
open Go.RowKit Go.Shelf
attribute [local go_sem] Oper.semAt_some

/-- Between two rounds of Text's loop: what was told is in the builder. -/
structure TextAt (t : List (Int × Int)) (w : World) (pre : List (List (Int × Int))) (l : List UInt8) (W : World) : Prop where
  holds : Lib.IsBuilderF 72 5 w.heap.size (w.heap.size + 1) (Lib.byteCells l) W
  told : ∀ q, pre ++ chain q = chain t → text t = l ++ text q
  len : l.length ≤ 100 * pre.length
  box : Boxed W w.heap.size 9 (.string ⟨#[]⟩)
  below : Below w.heap.size w W

def TextI (t : List (Int × Int)) (w : World) (pre : List (List (Int × Int))) (W : World) : Prop := ∃ l, TextAt t w pre l W
structure TextX (t : List (Int × Int)) (w : World) (W : World) : Prop where
  box : Boxed W w.heap.size 9 (.string ⟨(text t).toArray⟩)
  below : Below w.heap.size w W

theorem textI_turn {t : List (Int × Int)} {w : World} {B : Nat} (hB : w.heap.size ≤ B) (s : List (List (Int × Int))) (X Y : World) (h : TextI t w s X) (hT : TurnC B X Y) : TextI t w s Y := by
  obtain ⟨l, h⟩ := h
  exact ⟨l, builder_turn h.holds hT, h.told, h.len, boxed_turn h.box hT rfl, h.below.trans (hT.below.mono hB)⟩
theorem textX_turn {t : List (Int × Int)} {w : World} {B : Nat} (hB : w.heap.size ≤ B) (X Y : World) (h : TextX t w X) (hT : TurnC B X Y) : TextX t w Y :=
  ⟨boxed_turn h.box hT rfl, h.below.trans (hT.below.mono hB)⟩

/-- One more part has been written. -/
theorem textAt_next {t q : List (Int × Int)} {x : Int × Int} {w W W' : World} {pre : List (List (Int × Int))} {l s : List UInt8} (h : TextAt t w pre l W) (hpre : pre ++ chain (x :: q) = chain t)
    (hs : text (x :: q) = s ++ text q) (hl : s.length ≤ 100)
    (hb : Lib.IsBuilderF 72 5 w.heap.size (w.heap.size + 1) (Lib.byteCells l ++ Lib.byteCells s) W') (hbox : Boxed W' w.heap.size 9 (.string ⟨#[]⟩)) (hbl : Below w.heap.size w W') :
    TextI t w (pre ++ [x :: q]) W' := by
  refine ⟨l ++ s, by rw [Lib.byteCells_append]; exact hb, ?_, ?_, hbox, hbl⟩
  · intro q' hq'
    have e : q' = q := by
      have h1 : pre ++ chain (x :: q) = (pre ++ [x :: q]) ++ chain q := by simp [chain]
      rw [← hpre, h1] at hq'
      exact chain_inj (List.append_cancel_left hq')
    subst e
    rw [h.told _ hpre, hs]; simp
  · have := h.len; simp; omega

/-- What a write leaves, behind a call that made memory alone. -/
theorem wrote {t : List (Int × Int)} {w W w1 w2 : World} {pre : List (List (Int × Int))} {l : List UInt8} (h : TextAt t w pre l W) (h1 : Below W.heap.size W w1) (hb : Below w.heap.size w1 w2) (ho : Lib.OthersKept 5 (some (w.heap.size + 1)) w1 w2) :
    Keep W w2 ∧ Boxed w2 w.heap.size 9 (.string ⟨#[]⟩) ∧ Below w.heap.size w w2 := by
  obtain ⟨cs, hcs⟩ := builder_block (builder_below h.holds h1)
  have hz : w.heap.size ≤ W.heap.size := h.below.size
  exact ⟨(Keep.below h1).trans (Keep.others hb.size ho hcs), boxed_others (boxed_below h.box h1) ho (by omega) (by decide), (h.below.trans (h1.mono hz)).trans hb⟩

set_option maxRecDepth 100000 in
set_option maxHeartbeats 2000000 in
theorem text_any (t : List (Int × Int)) (hok : Ok t) (hfit : Fit t) (ht : t.length ≤ 1000) (w : World) (htab : Tab w) :
    Calls Tryd.prog 18 #[enc t] w fun e w' => e = .returned (.string ⟨(text t).toArray⟩) ∧ Below w.heap.size w w' := by
  refine (callsIn_wide (n := 3)).1 ?_
  refine callsIn_of_wp_marks Tryd.func18 rfl trivial ?_ rfl
  simp only [Tryd.ntmps18, List.size_toArray, List.length_cons, List.length_nil, Nat.reduceAdd, Nat.reduceSub, Array.replicate_succ, Array.replicate_zero, List.push_toArray, List.append_toArray, List.nil_append, List.cons_append]
  have Htab := Lib.hid htab; clear htab
  have Hok := Lib.hid hok; clear hok
  have Hfit := Lib.hid hfit; clear hfit
  gi_wp2_with fail
  refine ⟨trivial, ?_⟩
  refine (callsIn_wide.2 (links_made t _)).mono ?_
  rintro e w' ⟨rfl, rfl⟩
  gi_wp2_with fail
  obtain ⟨W0, hW0⟩ : ∃ W0, ((w.alloc (.cells #[.string ⟨#[]⟩] 9)).alloc (.cells #[.pointer none, .slice none 0 0] 72)).alloc (.cells #[enc t] 25) = W0 := ⟨_, rfl⟩
  have hz0 : W0.heap.size = w.heap.size + 3 := by rw [← hW0]; simp
  have hbox : Boxed W0 w.heap.size 9 (.string ⟨#[]⟩) := by rw [← hW0]; exact ((Boxed.new w 9 _).alloc _).alloc _
  have hBn : Boxed W0 (w.heap.size + 1 + 1) 25 (enc t) := by
    rw [← hW0]
    have := Boxed.new ((w.alloc (.cells #[.string ⟨#[]⟩] 9)).alloc (.cells #[.pointer none, .slice none 0 0] 72)) 25 (enc t)
    simpa using this
  have hbl : Below w.heap.size w W0 := by rw [← hW0]; exact (((Below.refl _ w).alloc (Nat.le_refl _) _).alloc (by simp) _).alloc (by simp; omega) _
  have hbd : Lib.IsBuilderF 72 5 w.heap.size (w.heap.size + 1) (Lib.byteCells []) W0 := by
    refine .inl ⟨by omega, .slice none 0 0, ?_, World.ownsRowF_nil _ _ _ _, by simp [Value.ownBlock]⟩
    rw [← hW0]
    refine (Below.heap_alloc _ _ _ (by simp)).trans ?_
    have := heap_new (w.alloc (.cells #[.string ⟨#[]⟩] 9)) (.cells #[.pointer none, .slice none 0 0] 72)
    simpa using this
  rw [hW0]
  have hstart : TextI t w [] W0 := ⟨[], hbd, fun q hq => by have := chain_inj (a := q) (b := t) (by simpa using hq); rw [this]; rfl, by simp, hbox, hbl⟩
  have Hstart := Lib.hid hstart
  clear hstart hbd hbox hW0
  have hB0 : w.heap.size ≤ W0.heap.size := by omega
  refine range_links (t := t) (Bn := w.heap.size + 1 + 1) rfl rfl (enters_of Tryd.func44 (by kernel_rfl) rfl)
    (fun l W hb => links_any _ t Hok.out (by omega) l _ W (boxed_below hBn hb))
    (TextI t w) (fun _ W => TextX t w W) (textI_turn hB0) (fun _ X Y h hT => textX_turn hB0 X Y h hT) Hstart.out
    (fun q => { tmps := #[enc t, undef, .pointer (some ⟨w.heap.size, 0, none⟩), .pointer (some ⟨w.heap.size + 1, 0, none⟩), enc q, undef, undef, undef, enc t, .func (.func 44) #[] #[.pointer (some ⟨w.heap.size + 1 + 1, 0, none⟩)], enc q, undef, undef, undef, undef, undef, undef, undef, undef, undef, undef, undef, undef, undef, undef, undef, undef, undef, undef, undef, undef, undef, undef, undef], defers := [] }) ?assign ?body ?done ?stop
  case assign =>
    intro l q W K hK
    gi_wp2
    exact hK
  case body =>
    intro l pre q W hpre hq hI
    have hfq := chain_fit _ _ _ Hfit.out hpre
    obtain ⟨⟨c, n⟩, r, rfl⟩ : ∃ x r, q = x :: r := by
      cases q with
      | nil => exact absurd rfl hq
      | cons x r => exact ⟨x, r, rfl⟩
    obtain ⟨hc, hn⟩ := hfq (c, n) (by simp)
    simp only at hc hn
    have hplen : pre.length ≤ 1000 := by
      have h1 := congrArg List.length hpre
      simp only [List.length_append, chain_length] at h1
      omega
    obtain ⟨b, hb⟩ := hI
    have Hb := Lib.hid hb; clear hb
    have Hpre := Lib.hid hpre; clear hpre hq hfq
    have hlen : b.length ≤ 100000 := by have := Hb.out.len; omega
    have hzW : w.heap.size + 1 < W.heap.size := by
      obtain ⟨cs, hcs⟩ := builder_block Hb.out.holds
      exact (Array.getElem?_eq_some_iff.1 hcs).1
    by_cases h : c = 0
    · subst h
      have hr : r ≠ [] := (chain_ok _ _ _ Hok.out Hpre.out).1 rfl
      obtain ⟨T, u, hy⟩ : ∃ T u, enc r = .iface T u := by
        cases r with
        | nil => exact absurd rfl hr
        | cons y r => exact enc_cons y r
      have hil := Lib.itoa_length_le n hn.1 hn.2
      rw [enc_word, hy]
      clear hy hr
      gi_wp2_with fail
      refine ⟨trivial, ?_⟩
      refine (CallsIn.inRound l (callsIn_wide.2 (itoa_any n hn _ (Htab.out.below (Hb.out.below.trans (((Below.refl _ W).alloc (Nat.le_refl _) _).mono Hb.out.below.size)))))).mono ?_
      rintro e w1 ⟨rfl, hb1⟩
      have hW1 : Below W.heap.size W w1 := ((Below.refl _ W).alloc (Nat.le_refl _) _).trans (hb1.mono (by simp))
      clear hb1
      gi_wp2_with fail
      refine ⟨trivial, ?_⟩
      refine (CallsIn.inRound l (callsIn_wide.2 (write_string w.heap.size (w.heap.size + 1) (Lib.byteCells b) _ _ (builder_below Hb.out.holds hW1) ?len ?siz))).mono ?_
      case len => rw [bytes_app, bytes_app, Lib.byteCells_length]; simp [ByteArray.size]; omega
      case siz => have := hW1.size; omega
      rintro e w2 ⟨rfl, hbd2, hb2, ho2⟩
      obtain ⟨hk2, hbox2, hbl2⟩ := wrote Hb.out hW1 hb2 ho2
      clear hb2 ho2
      have hI2 : TextI t w (pre ++ [(0, n) :: r]) w2 := by
        refine textAt_next (s := wordWord ++ Lib.itoa n ++ colonWord) Hb.out Hpre.out (text_word n r) (by simp [wordWord, colonWord]; omega) (.inr ?_) hbox2 hbl2
        rw [bytes_app, bytes_app] at hbd2
        simpa [Lib.strCells, Lib.byteCells, wordWord, colonWord] using hbd2
      clear hbd2 hbox2 hbl2
      gi_wp2
      exact ⟨hk2, hI2⟩
    · cases r with
      | nil =>
        rw [enc_code _ _ h]
        have Hh := Lib.hid h; clear h
        have hcl := codeText_len c hc
        gi_wp2_with fail
        refine ⟨trivial, ?_⟩
        refine (CallsIn.inRound l (callsIn_wide.2 (said_code c hc _))).mono ?_
        rintro e w1 ⟨rfl, hW1⟩
        gi_wp2_with fail
        refine ⟨trivial, ?_⟩
        refine (CallsIn.inRound l (callsIn_wide.2 (write_string w.heap.size (w.heap.size + 1) (Lib.byteCells b) _ _ (builder_below Hb.out.holds hW1) ?len2 ?siz2))).mono ?_
        case len2 => rw [Lib.byteCells_length]; simp [ByteArray.size]; omega
        case siz2 => have := hW1.size; omega
        rintro e w2 ⟨rfl, hbd2, hb2, ho2⟩
        obtain ⟨hk2, hbox2, hbl2⟩ := wrote Hb.out hW1 hb2 ho2
        clear hb2 ho2
        have htx : text t = b ++ codeText c := by
          rw [Hb.out.told _ Hpre.out, text_code _ _ Hh.out]
        rw [Lib.strCells_toArray, ← Lib.byteCells_append] at hbd2
        have Htx := Lib.hid htx; clear htx
        gi_wp2_with fail
        refine ⟨trivial, ?_⟩
        refine (CallsIn.inRound l (callsIn_wide.2 (Tryd.Builder_String_any_k w.heap.size (w.heap.size + 1) (b ++ codeText c) _ (.inr hbd2) hbl2.size))).mono ?_
        rintro e w3 ⟨rfl, hbd3, hb3, ho3⟩
        have hbox3 := boxed_others hbox2 ho3 (by omega) (by decide)
        obtain ⟨cs2, hcs2⟩ := builder_block (.inr hbd2)
        have hk3 := hk2.trans (Keep.others hb3.size ho3 hcs2)
        have hbl3 := hbl2.trans hb3
        have hcell3 := hbox3.cell
        have hfz3 := hbox3.frozen
        clear hbd2 hbd3 hb3 ho3 hk2 hbl2 hbox2 hcs2
        gi_wp2
        rw [← Htx.out]
        exact ⟨hk3.trans (Keep.of_grownBy (grownBy_setCell' w3 w.heap.size _) (fun r e => by cases e; exact ⟨_, hbox3, rfl, rfl⟩)), hbox3.set _, hbl3.setCell (p := ⟨w.heap.size, 0, none⟩) (Nat.le_refl _) _⟩
      | cons y r =>
        obtain ⟨T, u, hy⟩ := enc_cons y r
        rw [enc_over _ _ h, hy]
        have hcl := codeText_len c hc
        have htx := text_over c n h y r
        have Htx := Lib.hid htx; clear htx
        clear hy h
        gi_wp2_with fail
        refine ⟨trivial, ?_⟩
        refine (CallsIn.inRound l (callsIn_wide.2 (error_any c hc.1 hc.2 _))).mono ?_
        rintro e w1 ⟨rfl, hb1⟩
        have hW1 : Below W.heap.size W w1 := ((Below.refl _ W).alloc (Nat.le_refl _) _).trans (hb1.mono (by simp))
        clear hb1
        gi_wp2_with fail
        refine ⟨trivial, ?_⟩
        refine (CallsIn.inRound l (callsIn_wide.2 (write_string w.heap.size (w.heap.size + 1) (Lib.byteCells b) _ _ (builder_below Hb.out.holds hW1) ?len3 ?siz3))).mono ?_
        case len3 => rw [bytes_app, Lib.byteCells_length]; simp [ByteArray.size]; omega
        case siz3 => have := hW1.size; omega
        rintro e w2 ⟨rfl, hbd2, hb2, ho2⟩
        obtain ⟨hk2, hbox2, hbl2⟩ := wrote Hb.out hW1 hb2 ho2
        clear hb2 ho2
        have hI2 : TextI t w (pre ++ [(c, n) :: y :: r]) w2 := by
          refine textAt_next (s := codeText c ++ becauseWord) Hb.out Hpre.out Htx.out (by simp [becauseWord]; omega) (.inr ?_) hbox2 hbl2
          rw [bytes_app] at hbd2
          simpa [Lib.strCells, Lib.byteCells, becauseWord] using hbd2
        clear hbd2 hbox2 hbl2
        gi_wp2
        exact ⟨hk2, hI2⟩
  case done =>
    rintro D W hD ⟨l, hl⟩ hK
    have htx : text t = l := by have := hl.told [] (by simp [chain]); simpa [text] using this
    have Hl := Lib.hid hl; clear hl
    have Htx := Lib.hid htx; clear htx
    gi_wp2_with fail
    refine ⟨trivial, ?_⟩
    refine (callsIn_wide.2 (Tryd.Builder_String_any_k w.heap.size (w.heap.size + 1) l _ Hl.out.holds Hl.out.below.size)).mono ?_
    rintro e w3 ⟨rfl, _, hb3, ho3⟩
    obtain ⟨cs2, hcs2⟩ := builder_block Hl.out.holds
    have hK3 := (Keep.others hb3.size ho3 hcs2).same D _ hK (.inl rfl)
    have hbox3 := boxed_others Hl.out.box ho3 (by omega) (by decide)
    have hbl3 := Hl.out.below.trans hb3
    have hcell3 := hbox3.cell
    have hfz3 := hbox3.frozen
    clear hb3 ho3 hcs2
    gi_wp2
    have hK4 := (KeepsOthers.setCell w3 ⟨w.heap.size, 0, none⟩ (.string ⟨l.toArray⟩)).same D _ hK3 rfl
    refine ⟨by simp, .inl ⟨_, _, rfl, run_takeDeferred hK4, ?_⟩⟩
    have hc5 := cell_kept (hbox3.set (.string ⟨l.toArray⟩)).cell (grownBy_putObj' _ D (.deferred none)) (fun r e => by cases e; exact ⟨_, hK4, rfl⟩)
    refine ⟨.string ⟨l.toArray⟩, ?_, by rw [Htx.out], (hbl3.setCell (p := ⟨w.heap.size, 0, none⟩) (Nat.le_refl _) _).trans (belowK_b (w := W0) hB0 _ D _ _ hD hK4 rfl rfl)⟩
    simp [results, Tryd.f18, go_sem, hc5]
  case stop =>
    rintro D pre W hD _ hX hK
    gi_wp2
    refine ⟨by simp, .inl ⟨_, _, rfl, run_takeDeferred hK, ?_⟩⟩
    have hc5 := cell_kept hX.box.cell (grownBy_putObj' _ D (.deferred none)) (fun r e => by cases e; exact ⟨_, hK, rfl⟩)
    refine ⟨.string ⟨(text t).toArray⟩, ?_, rfl, hX.below.trans (belowK_b (w := W0) hB0 W D _ _ hD hK rfl rfl)⟩
    simp [results, Tryd.f18, go_sem, hc5]

end Go.Proofs.YtplkeakkjkkfmaaDoor
