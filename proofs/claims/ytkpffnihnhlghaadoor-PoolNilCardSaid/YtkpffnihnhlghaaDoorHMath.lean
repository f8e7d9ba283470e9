/- Lists of free blocks, as numbers. -/
import Derived.Test.YtkpffnihnhlghaaDoorHLaw
import Derived.Test.YtkpffnihnhlghaaDoorPApM
namespace Go.Proofs.YtkpffnihnhlghaaDoor
open Go.RowKit
/-- The block in a word. -/
def blkH (f : Nat → Nat) (z : Int) : Nat := f z.toNat % 4294967296
/-- The words that the list goes through: the class's head, then each block's. -/
def wdH (x : Cfg) (f : Nat → Nat) (cls : Nat) : Nat → Int
  | 0 => 3 + (cls : Int)
  | k + 1 => blockC x (blkH f (wdH x f cls k) : Nat)
def seqH (x : Cfg) (f : Nat → Nat) (cls k : Nat) : List (Int × Int) := (List.range k).map fun i => (wdH x f cls i, ((blkH f (wdH x f cls i) : Nat) : Int))
theorem seqH_succ (x : Cfg) (f : Nat → Nat) (cls k : Nat) : seqH x f cls (k + 1) = seqH x f cls k ++ [(wdH x f cls k, ((blkH f (wdH x f cls k) : Nat) : Int))] := by simp [seqH, List.range_succ]
theorem seqH_len (x : Cfg) (f : Nat → Nat) (cls k : Nat) : (seqH x f cls k).length = k := by simp [seqH]
theorem blockC_lt {x : Cfg} (hr : Right x) (b : Int) : blockC x b < sizeC x ∧ (blockC x b = -1 ∨ 7 ≤ blockC x b) := by
  by_cases h : b < 1 ∨ x.n0 + x.n1 < b
  · have hs := hr.sizes
    rw [blockC, if_pos h]
    omega
  · obtain ⟨n, rfl⟩ : ∃ n : Nat, b = (n : Int) := ⟨b.toNat, by omega⟩
    have h1 := blockC_bound hr (k := (n : Int)) (by omega) (by omega)
    have e := bEnd_block (x := x) ((n : Int) - 1) (by omega) (by omega)
    have e2 := bEnd_succ (x := x) ((n : Int) - 1)
    have e3 := sz_nonneg hr ((n : Int) - 1 + 1)
    have e4 := bEnd_le hr n (x.n0 + x.n1 - n).toNat
    have e5 := bEnd_all (x := x) (by have := hr.b; omega)
    rw [show (((n + (x.n0 + x.n1 - n).toNat : Nat) : Nat) : Int) = x.n0 + x.n1 by omega, e5] at e4
    rw [show (n : Int) - 1 + 1 = n by omega] at e e2 e3
    refine ⟨by omega, .inr ?_⟩
    have hs := hr.sizes
    omega
theorem wdH_lt {x : Cfg} (hr : Right x) (f : Nat → Nat) (cls : Nat) (hc : cls ≤ 1) (k : Nat) : wdH x f cls k < sizeC x := by
  have hs := hr.sizes
  cases k with
  | zero => show 3 + (cls : Int) < _; omega
  | succ k => exact (blockC_lt hr _).1

end Go.Proofs.YtkpffnihnhlghaaDoor
