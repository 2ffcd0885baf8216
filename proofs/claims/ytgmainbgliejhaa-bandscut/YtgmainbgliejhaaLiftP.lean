/-
  Package lift: the small functions, and the numbers at a place.
-/
import Derived.Test.YtgmainbgliejhaaLift
import Derived.Test.YtgmainbgliejhaaCopyN
import Derived.BigQuiet
import Derived.Lib.MinMax
import Derived.StillTailTactics
namespace Go.Proofs.Ytgmainbgliejhaa
open Go.RowKit

/-- Is a number a filter? Is so many a line? -/
def filtB (z : Int) : Bool := decide (0 ≤ z) && decide (z ≤ 4)
def lineB (n : Nat) : Bool := decide (0 < n) && decide (n % 2 = 0)
theorem filtB_iff {z : Int} : filtB z = true ↔ 0 ≤ z ∧ z ≤ 4 := by simp [filtB]
theorem filtB_false {z : Int} : filtB z = false ↔ z < 0 ∨ 4 < z := by rw [← Bool.not_eq_true, filtB_iff]; omega
theorem lineB_iff {n : Nat} : lineB n = true ↔ 0 < n ∧ n % 2 = 0 := by simp [lineB]
theorem lineB_false {n : Nat} : lineB n = false ↔ n = 0 ∨ n % 2 = 1 := by rw [← Bool.not_eq_true, lineB_iff]; omega

/-- The shift of a filter. -/
def shiftL (z : Int) : Int := if 0 ≤ z ∧ z ≤ 4 ∧ z ≠ 3 then 1 else 0
/-- The last bit of a number, below 0 too. -/
theorem and_one_i64 (i : Int) : Go.bits .and .i64 i 1 = i % 2 := by
  have key : (BitVec.ofInt 64 i &&& BitVec.ofInt 64 1).toNat = (i % 2).toNat := by
    rw [BitVec.toNat_and, show (BitVec.ofInt 64 1).toNat = 1 from rfl, Nat.and_one_is_mod, BitVec.toNat_ofInt]
    omega
  show IntKind.i64.wrap ((BitVec.ofInt 64 i &&& BitVec.ofInt 64 1).toNat : Int) = _
  rw [key, IntKind.wrap_i64]
  omega

/-- The nearest place, as the code reckons it. -/
theorem nearL_minmax {n : Nat} (h : 2 ≤ n) (he : n % 2 = 0) (i : Int) : min (max i (i % 2)) ((n : Int) - 2 + i % 2) = ((nearL n i : Nat) : Int) := by
  unfold nearL
  split
  · omega
  · split <;> omega

end Go.Proofs.Ytgmainbgliejhaa
