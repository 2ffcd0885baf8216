/-
  Package lift: a line, there and back (Forward, Inverse).
-/
import Derived.Test.YtgmainbgliejhaaLiftS
namespace Go.Proofs.Ytgmainbgliejhaa
open Go.RowKit

/-- A step that is under way: done at the places ahead of k. -/
def partL (f n : Nat) (odd : Bool) (sg : Int) (V : Nat → Int) (k : Nat) : Nat → Int := fun j => if j < k then stepL f n odd sg V j else V j
theorem partL_lt {f n : Nat} {odd : Bool} {sg : Int} {V : Nat → Int} {k j : Nat} (h : j < k) : partL f n odd sg V k j = stepL f n odd sg V j := if_pos h
theorem partL_ge {f n : Nat} {odd : Bool} {sg : Int} {V : Nat → Int} {k j : Nat} (h : ¬ j < k) : partL f n odd sg V k j = V j := if_neg h
theorem partL_other {f n : Nat} {odd : Bool} {sg : Int} {V : Nat → Int} {k j : Nat} (h : j % 2 ≠ parB odd) : partL f n odd sg V k j = V j := by
  by_cases hj : j < k
  · rw [partL_lt hj, stepL_other h]
  · exact partL_ge hj
theorem partL_tap {f n : Nat} {odd : Bool} {sg : Int} {V : Nat → Int} {k : Nat} (hn : 2 ≤ n) (he : n % 2 = 0) (hk : k % 2 = parB odd) : tapV f odd (atL n (partL f n odd sg V k)) k = tapV f odd (atL n V) k := tapV_congr fun j hj => by
  unfold atL
  have := nearL_par hn he j
  have := parB_lt odd
  exact partL_other (by omega)
theorem partL_set {f n : Nat} {odd : Bool} {sg : Int} {V : Nat → Int} {k : Nat} (hk : k % 2 = parB odd) (j : Nat) : (if j = k then wrap64 (V k + sg * tapV f odd (atL n V) k) else partL f n odd sg V k j) = partL f n odd sg V (k + 2) j := by
  by_cases e : j = k
  · subst e
    rw [if_pos rfl, partL_lt (by omega)]
    exact (if_pos hk).symm
  · rw [if_neg e]
    by_cases hj : j < k
    · rw [partL_lt hj, partL_lt (by omega)]
    · by_cases e2 : j = k + 1
      · have := parB_lt odd
        rw [partL_other (by omega), partL_other (by omega)]
      · rw [partL_ge hj, partL_ge (by omega)]
theorem partL_start {f n : Nat} {odd : Bool} {sg : Int} {V : Nat → Int} (j : Nat) : V j = partL f n odd sg V (parB odd) j := by
  by_cases h : j < parB odd
  · have := parB_lt odd
    rw [partL_lt h, stepL_other (by omega)]
  · rw [partL_ge h]
theorem partL_lo {f n : Nat} {odd : Bool} {sg : Int} {V : Nat → Int} {k j : Nat} (h : -9223372036854775808 ≤ V j ∧ V j ≤ 9223372036854775807) : -9223372036854775808 ≤ partL f n odd sg V k j ∧ partL f n odd sg V k j ≤ 9223372036854775807 := by
  unfold partL; split
  · exact stepL_lo h
  · exact h
theorem minus_one (x y : Int) : x + -1 * y = x - y := by omega
theorem plus_one (x y : Int) : x + 1 * y = x + y := by omega

/-- What a call that makes a list leaves: its value, its numbers in new memory, all else as it was. -/
def MadeL (w w' : World) (e : Ending) (n : Nat) (V : Nat → Int) : Prop :=
  ∃ a cap b, e = .returned (.slice a n cap) ∧ Nums w' a n cap V b ∧ (a = none → n = 0 ∧ cap = 0) ∧ (0 < n → w.heap.size ≤ b ∧ IntB w' b) ∧ Fr (fun _ => False) w w'
theorem MadeL.nil {w w' : World} (f : Fr (fun _ => False) w w') (V : Nat → Int) : MadeL w w' (.returned (.slice none 0 0)) 0 V :=
  ⟨none, 0, 0, rfl, Nums.nil _ _ _, fun _ => ⟨rfl, rfl⟩, fun h => absurd h (by omega), f⟩
theorem MadeL.row {w w' : World} {g n : Nat} {V : Nat → Int} (h : Row w' g n V) (hn : n ≤ maxLen) (hg : w.heap.size ≤ g) (f : Fr (fun _ => False) w w') : MadeL w w' (.returned (.slice (some ⟨g, 0, none⟩) n n)) n V :=
  ⟨_, n, g, rfl, h.nums hn, (by intro h; cases h), fun _ => ⟨hg, h.intB⟩, f⟩
/-- How many a filter makes of a list. -/
def liftN (z : Int) (n : Nat) : Nat := if filtB z = true ∧ lineB n = true then n else 0
theorem liftN_in {z : Int} {n : Nat} (h : filtB z = true) (h' : lineB n = true) : liftN z n = n := if_pos ⟨h, h'⟩
theorem liftN_out {z : Int} {n : Nat} (h : filtB z = false ∨ lineB n = false) : liftN z n = 0 := if_neg fun ⟨a, b⟩ => by rcases h with h | h <;> simp_all

end Go.Proofs.Ytgmainbgliejhaa
