/- Structs are laid; a message is built. -/
import Derived.Test.YthcachmcjekckaaDoorBLay
import Derived.Test.YthcachmcjekckaaDoorTSize2
import Derived.Test.YthcachmcjekckaaDoorCsTwo
namespace Go.Proofs.YthcachmcjekckaaDoor
open Go.ChangeShapes Go.WideShapes Go.ChangeAt Go.RowKit
set_option maxRecDepth 100000 in
set_option maxHeartbeats 4000000 in
theorem layStep_any (s : Sch) (hR : RightS s) (A : Option Addr) (c : Nat) (Ws : World) (hs : SAt Ws A s) (n q t K : Nat) (ht : t < s.n) (IH : 0 < K → LayC s A c Ws n) (kf : Nat → Tr) (Ak : Option Addr) (ck : Nat) (L : List Nat) (g cap : Nat) (W : World) (hK : K ≤ 12) (hC : ∀ j, j < K → chk s (n + 1) t (kf j) = 0) (hL : L.length + sumN (fun j => wds true (kf j)) K ≤ 1000) (h : EO Ws W q s A c (.mk 0 ⟨#[]⟩ 0 (fun _ => 0) K kf) Ak g L g cap W) :
    Calls Tryd.prog 36 #[.pointer (some ⟨q, 0, none⟩), .int .i64 (t : Int), .slice Ak K ck] W fun e W' => e = .returned (.tuple #[]) ∧ ∃ g' cap', EO Ws W q s A c (.mk 0 ⟨#[]⟩ 0 (fun _ => 0) K kf) Ak g (bhS (layL s n) s t kf K (ownsL K kf L, L.length)).1 g' cap' W' := by
  have H := Lib.hid h
  have HC := Lib.hid hC
  have HIH := Lib.hid IH
  have HSC := Lib.hid hs
  have hl := hL
  have HL := Lib.hid hL
  have HS6 : Hid (∀ j, j < K → (kf j).kl ≤ 6) := Lib.hid fun j hj => by
    obtain ⟨e, _, hso, _⟩ := chk_inv (hC j hj)
    have := (hR.2.2 t ht).2.1
    rw [hso.2.2.2]
    exact this
  have b0 := h.bw.box.cell (i := 0) (by omega)
  have b1 := h.bw.box.cell (i := 1) (by omega)
  simp only [show ((1 : Nat) = 0) = False by simp, if_false, if_true] at b0 b1
  have hl2 : L.length ≤ 1000 := by omega
  clear h hC IH hs hL hl
  go_enter Tryd.func36, Tryd.ntmps36
  go_wp2_with fail
  refine (eachOwn_any s A c Ws HSC.out q t K kf Ak ck L g cap (L.length : Int) W (by omega) (by omega) hK HS6.out hl2 H.out).mono ?_
  rintro e W1 ⟨rfl, g1, cap1, h1⟩
  have H1 := Lib.hid h1
  have b0 := h1.bw.box.cell (i := 0) (by omega)
  simp only [if_true] at b0
  clear h1 b1
  go_wp2_with fail
  refine (eachBehind_any s A c Ws HSC.out hR n q t K ht HIH.out kf Ak ck L (ownsL K kf L) g1 cap1 W1 rfl hK HC.out HL.out H1.out.here).mono ?_
  rintro e W2 ⟨rfl, g2, cap2, h2⟩
  have H2 := Lib.hid (H1.out.step h2.at_ h2.bw h2.fr)
  clear h2
  go_wp2
  exact bodyPost_end (v := .tuple #[]) (by simp [results, Tryd.results36, go_sem]) rfl ⟨rfl, g2, cap2, H2.out⟩
theorem layC_all (s : Sch) (hR : RightS s) (A : Option Addr) (c : Nat) (Ws : World) (hs : SAt Ws A s) (n : Nat) : LayC s A c Ws n := by
  induction n with
  | zero =>
    intro q t K kf Ak ck L g cap W h ht hC hK hL
    obtain rfl : K = 0 := by
      cases K with
      | zero => rfl
      | succ K => have := hC 0 (by omega); simp [chk] at this
    exact layStep_any s hR A c Ws hs 0 q t 0 ht (fun h => absurd h (Nat.lt_irrefl 0)) kf Ak ck L g cap W hK (fun j hj => absurd hj (Nat.not_lt_zero j)) hL h
  | succ n ih =>
    intro q t K kf Ak ck L g cap W h ht hC hK hL
    exact layStep_any s hR A c Ws hs n q t K ht (fun _ => ih) kf Ak ck L g cap W hK hC hL h

end Go.Proofs.YthcachmcjekckaaDoor
