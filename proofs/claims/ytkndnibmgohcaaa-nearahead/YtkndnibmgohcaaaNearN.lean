/-
  Layer 13 by plain functions: what stands beside a place, its parent, what foretells its sign, its contexts; on nothing at or behind the place.
-/
import Derived.Test.YtkndnibmgohcaaaPlaneM
namespace Go.Proofs.Ytkndnibmgohcaaa
open Go.RowKit

/-- The number at a place; nought without. -/
def numZ (X Y : Int) (n : Nat) (V : Nat → Int) (px py : Int) : Int := if rightP X Y n = true ∧ (0 ≤ px ∧ px < X) ∧ (0 ≤ py ∧ py < Y) then V (py.toNat * X.toNat + px.toNat) else 0
theorem numZ_bad {X Y : Int} {n : Nat} {V : Nat → Int} (h : rightP X Y n = false) (px py : Int) : numZ X Y n V px py = 0 := if_neg (by rw [h]; simp)
theorem numZ_out {X Y : Int} {n : Nat} {V : Nat → Int} {px py : Int} (h : ¬ ((0 ≤ px ∧ px < X) ∧ (0 ≤ py ∧ py < Y))) : numZ X Y n V px py = 0 := if_neg (fun h2 => h h2.2)
theorem numZ_in {x y n : Nat} {V : Nat → Int} {px py : Nat} (hR : rightP x y n = true) (hx : px < x) (hy : py < y) : numZ x y n V px py = V (py * x + px) := by
  unfold numZ
  rw [if_pos ⟨hR, ⟨by omega, by omega⟩, by omega, by omega⟩]; rfl
/-- Isn't one beside the place nought? -/
def besideZ (X Y : Int) (n : Nat) (V : Nat → Int) (px py : Int) : Bool := numZ X Y n V (px - 1) py != 0 || numZ X Y n V px (py - 1) != 0 || numZ X Y n V (px - 1) (py - 1) != 0
/-- Isn't the parent nought? -/
def aboveZ (X Y : Int) (n : Nat) (V : Nat → Int) (px py : Int) : Bool := decide (0 ≤ px) && decide (0 ≤ py) && numZ X Y n V (px / 2) (py / 2) != 0
/-- The sign of a number. -/
def sgnZ (z : Int) : Int := if 0 < z then 1 else if z < 0 then -1 else 0
theorem sgnZ_pos {z : Int} : 0 < sgnZ z ↔ 0 < z := by unfold sgnZ; split <;> (try split) <;> omega
theorem sgnZ_neg {z : Int} : sgnZ z < 0 ↔ z < 0 := by unfold sgnZ; split <;> (try split) <;> omega
/-- What foretells the sign. -/
def foreZ (X Y : Int) (n : Nat) (V : Nat → Int) (orient px py : Int) : Int := if orient = 1 then numZ X Y n V px (py - 1) else if orient = 2 then numZ X Y n V (px - 1) py else 0
def signZ (X Y : Int) (n : Nat) (V : Nat → Int) (orient px py : Int) : Int := sgnZ (foreZ X Y n V orient px py)
/-- The contexts: what follows a digit, and the sign's. -/
def followL (parent beside : Bool) : List Nat := match parent, beside with
  | false, false => [0, 2, 3, 4, 5, 6]
  | false, true => [1, 2, 3, 4, 5, 6]
  | true, false => [7, 9, 10, 11, 12, 13]
  | true, true => [8, 9, 10, 11, 12, 13]
theorem followL_length (a b : Bool) : (followL a b).length = 6 := by cases a <;> cases b <;> rfl
theorem followL_small (a b : Bool) : ∀ k ∈ followL a b, k ≤ 13 := by cases a <;> cases b <;> decide
def signC (s : Int) : Nat := if 0 < s then 15 else if s < 0 then 16 else 14
theorem signC_cases (s : Int) : signC s = 14 ∨ signC s = 15 ∨ signC s = 16 := by unfold signC; split <;> (try split) <;> simp

/-- On what stands ahead of a place alone. -/
theorem numZ_ahead {x y n : Nat} {V V' : Nat → Int} {px py : Nat} {qx qy : Int} (hy : py < y) (h : ∀ j, j < py * x + px → V j = V' j) (hq : (qy = py ∧ qx < px) ∨ (qy < py ∧ qx ≤ px)) : numZ x y n V qx qy = numZ x y n V' qx qy := by
  unfold numZ
  by_cases hc : rightP (x : Int) (y : Int) n = true ∧ (0 ≤ qx ∧ qx < (x : Int)) ∧ (0 ≤ qy ∧ qy < (y : Int))
  · rw [if_pos hc, if_pos hc]
    obtain ⟨a, rfl⟩ : ∃ a : Nat, qx = (a : Int) := ⟨qx.toNat, by omega⟩
    obtain ⟨b, rfl⟩ : ∃ b : Nat, qy = (b : Int) := ⟨qy.toNat, by omega⟩
    simp only [Int.toNat_natCast]
    refine h _ ?_
    rcases hq with ⟨e, l⟩ | ⟨e, l⟩
    · have : b = py := by omega
      subst this; omega
    · have h1 : b * x + x ≤ py * x := by rw [← Nat.succ_mul]; exact Nat.mul_le_mul_right _ (by omega)
      omega
  · rw [if_neg hc, if_neg hc]
theorem besideZ_ahead {x y n : Nat} {V V' : Nat → Int} {px py : Nat} (hy : py < y) (h : ∀ j, j < py * x + px → V j = V' j) : besideZ x y n V px py = besideZ x y n V' px py := by
  unfold besideZ
  rw [numZ_ahead hy h (qx := (px : Int) - 1) (qy := py) (by omega), numZ_ahead hy h (qx := px) (qy := (py : Int) - 1) (by omega), numZ_ahead hy h (qx := (px : Int) - 1) (qy := (py : Int) - 1) (by omega)]
theorem signZ_ahead {x y n : Nat} {V V' : Nat → Int} {px py : Nat} (o : Int) (hy : py < y) (h : ∀ j, j < py * x + px → V j = V' j) : signZ x y n V o px py = signZ x y n V' o px py := by
  unfold signZ foreZ
  rw [numZ_ahead hy h (qx := px) (qy := (py : Int) - 1) (by omega), numZ_ahead hy h (qx := (px : Int) - 1) (qy := py) (by omega)]
end Go.Proofs.Ytkndnibmgohcaaa
