/- TreeChecks: the law's walk. -/
import Derived.Test.YtojlimpooeehhaaDoorTRef6b
import Derived.Test.YtojlimpooeehhaaDoorTSpoilt
import Derived.Test.YtojlimpooeehhaaDoorTLawB
namespace Go.Proofs.YtojlimpooeehhaaDoor
open Go.ChangeShapes Go.WideShapes Go.ChangeAt Go.RowKit
theorem LW.allH {w : World} {s : Sch} {A : Option Addr} {q : Nat} {x : Tr} {Xn : Option Addr} {xn : Nat} {Xk : Option Addr} {xk : Nat} {W : World} (H : Hid (LW w s A q x Xn xn Xk xk W)) : W.cell? ⟨q, 0, none⟩ = some (.int .u64 (x.num : Nat)) ∧ W.cell? ⟨q, 1, none⟩ = some (.string x.bs) ∧ W.cell? ⟨q, 2, none⟩ = some (.slice Xn x.nl xn) ∧ W.cell? ⟨q, 3, none⟩ = some (.slice Xk x.kl xk) ∧ Hid (LW w s A q x Xn xn Xk xk W) := ⟨H.out.box.c0, H.out.box.c1, H.out.box.c2, H.out.box.c3, H⟩
theorem LW.hcheck {w : World} {s : Sch} {A : Option Addr} {q : Nat} {x : Tr} {Xn : Option Addr} {xn : Nat} {Xk : Option Addr} {xk : Nat} {W : World} {c n E : Nat} {t : Int} (hS : Sm n x) (hE : chkC s t x = E) (H : Hid (LW w s A q x Xn xn Xk xk W)) : Calls Tryd.prog 35 #[.slice A s.n c, .int .i64 t, (.agg #[.int .u64 ((x).num : Nat), .string (x).bs, .slice Xn (x).nl xn, .slice Xk (x).kl xk])] W fun e W' => e = .returned (errV E) ∧ Hid (LW w s A q x Xn xn Xk xk W') := by
  subst hE
  exact (tcheck_any s A c t x Xn Xk xn xk n W H.out.sat hS H.out.tat).mono fun e W' ⟨he, hb⟩ => ⟨he, Lib.hid (H.out.below hb)⟩
theorem LW.hrcheck {w : World} {s : Sch} {A : Option Addr} {q : Nat} {x : Tr} {Xn : Option Addr} {xn : Nat} {Xk : Option Addr} {xk : Nat} {W : World} {c n E : Nat} {t : Int} (hS : Sm n x) (hE : chkC s t x = E) (H : Hid (LW w s A q x Xn xn Xk xk W)) : Calls Tryd.prog 36 #[.slice A s.n c, .int .i64 t, (.agg #[.int .u64 ((x).num : Nat), .string (x).bs, .slice Xn (x).nl xn, .slice Xk (x).kl xk])] W fun e W' => e = .returned (.int .i64 (E : Int)) ∧ Hid (LW w s A q x Xn xn Xk xk W') := by
  subst hE
  exact (r6check_any s A c t x Xn Xk xn xk n W H.out.sat hS H.out.tat).mono fun e W' ⟨he, hb⟩ => ⟨he, Lib.hid (H.out.below hb)⟩
theorem LW.htop {w : World} {s : Sch} {A : Option Addr} {q : Nat} {x : Tr} {Xn : Option Addr} {xn : Nat} {Xk : Option Addr} {xk : Nat} {W : World} {E : Nat} (H : Hid (LW w s A q x Xn xn Xk xk W)) : Calls Tryd.prog 28 #[errV E] W fun e W' => e = .returned (.int .i64 (E : Int)) ∧ Hid (LW w s A q x Xn xn Xk xk W') :=
  (top_err E W H.out.et).mono fun e W' ⟨he, hb⟩ => ⟨he, Lib.hid (H.out.below hb)⟩
theorem LW.hsize {w : World} {s : Sch} {A : Option Addr} {q : Nat} {x : Tr} {Xn : Option Addr} {xn : Nat} {Xk : Option Addr} {xk : Nat} {W : World} {c n Z : Nat} {t : Int} (hS : Sm (2 * n) x) (hn : n ≤ 6) (hZ : sizeC s t x = Z) (H : Hid (LW w s A q x Xn xn Xk xk W)) : Calls Tryd.prog 37 #[.slice A s.n c, .int .i64 t, (.agg #[.int .u64 ((x).num : Nat), .string (x).bs, .slice Xn (x).nl xn, .slice Xk (x).kl xk])] W fun e W' => e = .returned (.int .i64 (Z : Int)) ∧ Hid (LW w s A q x Xn xn Xk xk W') := by
  subst hZ
  exact (tsize_any s A c t x Xn Xk xn xk n W H.out.sat hS hn H.out.tat).mono fun e W' ⟨he, hb⟩ => ⟨he, Lib.hid (H.out.below hb)⟩
theorem LW.hrsize {w : World} {s : Sch} {A : Option Addr} {q : Nat} {x : Tr} {Xn : Option Addr} {xn : Nat} {Xk : Option Addr} {xk : Nat} {W : World} {c n Z : Nat} {t : Int} (hS : Sm (2 * n) x) (hn : n ≤ 6) (hZ : sizeC s t x = Z) (H : Hid (LW w s A q x Xn xn Xk xk W)) : Calls Tryd.prog 27 #[.slice A s.n c, .int .i64 t, (.agg #[.int .u64 ((x).num : Nat), .string (x).bs, .slice Xn (x).nl xn, .slice Xk (x).kl xk])] W fun e W' => e = .returned (.int .i64 (Z : Int)) ∧ Hid (LW w s A q x Xn xn Xk xk W') := by
  subst hZ
  exact (r6size_any s A c t x Xn Xk xn xk n W H.out.sat hS hn H.out.tat).mono fun e W' ⟨he, hb⟩ => ⟨he, Lib.hid (H.out.below hb)⟩

set_option maxRecDepth 100000 in
set_option maxHeartbeats 8000000 in
theorem checks_any (s : Sch) (A : Option Addr) (c : Nat) (t : Int) (x : Tr) (Xn Xk : Option Addr) (xn xk n : Nat) (w : World) (hE : Cs.ErrT w) (hs : SAt w A s) (hS : Sm (2 * n) x) (hn : n ≤ 6) (hT : TAt w (fun _ => True) x Xn Xk) :
    Calls Tryd.prog 15 #[.slice A s.n c, .int .i64 t, (.agg #[.int .u64 ((x).num : Nat), .string (x).bs, .slice Xn (x).nl xn, .slice Xk (x).kl xk])] w fun e w' => e = .returned (.bool true) ∧ Below w.heap.size w w' := by
  have K0 : Hid (LW w s A w.heap.size x Xn xn Xk xk (w.alloc (.cells #[.int .u64 ((x).num : Nat), .string (x).bs, .slice Xn (x).nl xn, .slice Xk (x).kl xk] 34))) := Lib.hid ⟨hs.below ((Below.refl _ _).alloc (Nat.le_refl _) _), hE.below ((Below.refl _ _).alloc (Nat.le_refl _) _), cell4_box w x Xn xn Xk xk, by simp, hT.below ((Below.refl _ _).alloc (Nat.le_refl _) _), ((Below.refl _ _).alloc (Nat.le_refl _) _)⟩
  have HS := Lib.hid hS
  obtain ⟨E, HEE⟩ : ∃ E, Hid (chkC s t x = E) := ⟨_, Lib.hid rfl⟩
  obtain ⟨Z, HZZ⟩ : ∃ Z, Hid (sizeC s t x = Z) := ⟨_, Lib.hid rfl⟩
  clear hE hs hS hT
  go_enter Tryd.func15, Tryd.ntmps15
  go_wp2_with fail
  generalize w.alloc (.cells #[.int .u64 ((x).num : Nat), .string (x).bs, .slice Xn (x).nl xn, .slice Xk (x).kl xk] 34) = W0 at K0 ⊢
  have KD := Lib.hid K0.out.drew
  generalize hq : w.heap.size = q at K0 KD ⊢
  have HQ := Lib.hid hq
  clear hq
  go_region_held3 (fun w' => w'.cell? ⟨q, 0, none⟩ = some (.int .u64 (x.num : Nat)) ∧ w'.cell? ⟨q, 1, none⟩ = some (.string x.bs) ∧ w'.cell? ⟨q, 2, none⟩ = some (.slice Xn x.nl xn) ∧ w'.cell? ⟨q, 3, none⟩ = some (.slice Xk x.kl xk) ∧ Hid (LW w s A q x Xn xn Xk xk w'))
    (first | exact LW.allH (by assumption))
    (first
      | (go_at_call 35; (with_reducible refine (LW.hcheck HS.out HEE.out (by assumption)).mono ?_); rintro e w5 ⟨rfl, K2⟩)
      | (go_at_call 28; (with_reducible refine (LW.htop (by assumption)).mono ?_); rintro e w5 ⟨rfl, K2⟩)
      | (go_at_call 36; (with_reducible refine (LW.hrcheck HS.out HEE.out (by assumption)).mono ?_); rintro e w5 ⟨rfl, K2⟩)
      | (go_at_call 37; (with_reducible refine (LW.hsize HS.out hn HZZ.out (by assumption)).mono ?_); rintro e w5 ⟨rfl, K2⟩)
      | (go_at_call 27; (with_reducible refine (LW.hrsize HS.out hn HZZ.out (by assumption)).mono ?_); rintro e w5 ⟨rfl, K2⟩))
  all_goals
    go_wp2
    go_ret
    exact ⟨rfl, K2.out.be⟩

end Go.Proofs.YtojlimpooeehhaaDoor
