/-
  Layer 12 by plain functions: the parts of a band.
-/
import Derived.Test.YtfnacnelmkemeaaMem
namespace Go.Proofs.Ytfnacnelmkemeaa
open Go.RowKit

/-- Where part i of m begins, of a side w. -/
def cutP (w m i : Nat) : Nat := w * i / m
/-- In which part a place is. -/
def ofP (w m x : Nat) : Nat := ((x + 1) * m - 1) / w
theorem cutP_zero (w m : Nat) : cutP w m 0 = 0 := by simp [cutP]
theorem cutP_end {w m : Nat} (hm : 1 ≤ m) : cutP w m m = w := Nat.mul_div_cancel _ hm
theorem cutP_le {w m i k : Nat} (h : i ≤ k) : cutP w m i ≤ cutP w m k := Nat.div_le_div_right (Nat.mul_le_mul_left _ h)
theorem cutP_most {w m i : Nat} (hm : 1 ≤ m) (h : i ≤ m) : cutP w m i ≤ w := by
  have := cutP_le (w := w) (m := m) h
  rwa [cutP_end hm] at this
theorem cutP_at {w m i x : Nat} (hw : 1 ≤ w) (hm : 1 ≤ m) : cutP w m i ≤ x ↔ i ≤ ofP w m x := by
  unfold cutP ofP
  have h1 : w * i / m ≤ x ↔ w * i < (x + 1) * m := by
    rw [← Nat.lt_succ_iff, Nat.div_lt_iff_lt_mul (by omega)]
  have h2 : 1 ≤ (x + 1) * m := Nat.mul_pos (by omega) (by omega)
  rw [h1, Nat.le_div_iff_mul_le (by omega), Nat.mul_comm i w]
  omega
/-- A place is in one part alone. -/
theorem ofP_iff {w m i x : Nat} (hw : 1 ≤ w) (hm : 1 ≤ m) : (cutP w m i ≤ x ∧ x < cutP w m (i + 1)) ↔ i = ofP w m x := by
  rw [cutP_at hw hm, ← Nat.not_le, cutP_at hw hm]
  omega
theorem ofP_lt {w m x : Nat} (hm : 1 ≤ m) (hx : x < w) : ofP w m x < m := by
  unfold ofP
  rw [Nat.div_lt_iff_lt_mul (by omega)]
  have h1 : (x + 1) * m ≤ w * m := Nat.mul_le_mul_right _ (by omega)
  have h2 : 1 ≤ (x + 1) * m := Nat.mul_pos (by omega) (by omega)
  rw [Nat.mul_comm m w]
  omega
theorem ofP_in {w m x : Nat} (hw : 1 ≤ w) (hm : 1 ≤ m) : cutP w m (ofP w m x) ≤ x ∧ x < cutP w m (ofP w m x + 1) := (ofP_iff hw hm).2 rfl
/-- A part's side. -/
def sideP (w m i : Nat) : Nat := cutP w m (i + 1) - cutP w m i
theorem sideP_add (w m i : Nat) : cutP w m i + sideP w m i = cutP w m (i + 1) := by
  have := cutP_le (w := w) (m := m) (show i ≤ i + 1 by omega)
  unfold sideP; omega
/-- The sides differ by one at the most. -/
theorem sideP_near {w m i : Nat} (hm : 1 ≤ m) : w / m ≤ sideP w m i ∧ sideP w m i ≤ w / m + 1 := by
  have e : w * (i + 1) = w * i + w := Nat.mul_succ w i
  have hs : w * i / m + w / m ≤ (w * i + w) / m := Nat.div_add_div_le_add_div
  have h1 := Nat.div_add_mod (w * i) m
  have h2 := Nat.div_add_mod w m
  have m1 := Nat.mod_lt (w * i) (show 0 < m by omega)
  have m2 := Nat.mod_lt w (show 0 < m by omega)
  have ht : (w * i + w) / m < w * i / m + w / m + 2 := by
    rw [Nat.div_lt_iff_lt_mul (by omega)]
    have : (w * i / m + w / m + 2) * m = m * (w * i / m) + m * (w / m) + 2 * m := by
      rw [Nat.add_mul, Nat.add_mul, Nat.mul_comm m, Nat.mul_comm m]
    omega
  unfold sideP cutP
  rw [e]
  clear h1 h2 m1 m2 e
  generalize (w * i + w) / m = B at *
  generalize w * i / m = A at *
  generalize w / m = C at *
  omega

/-- A part as a rectangle: its place and its sides. -/
structure RectN where
  x : Nat
  y : Nat
  w : Nat
  h : Nat
deriving DecidableEq
def rectP (w h m n i j : Nat) : RectN := ⟨cutP w m i, cutP h n j, sideP w m i, sideP h n j⟩
/-- Part k, row by row. -/
def partK (w h m n k : Nat) : RectN := rectP w h m n (k % m) (k / m)
def inR (r : RectN) (x y : Nat) : Prop := (r.x ≤ x ∧ x < r.x + r.w) ∧ (r.y ≤ y ∧ y < r.y + r.h)
instance (r : RectN) (x y : Nat) : Decidable (inR r x y) := by unfold inR; infer_instance
/-- The number of the part in which a place is. -/
def ofK (w h m n x y : Nat) : Nat := ofP h n y * m + ofP w m x
theorem inR_iff {w h m n i j x y : Nat} (hw : 1 ≤ w) (hh : 1 ≤ h) (hm : 1 ≤ m) (hn : 1 ≤ n) : inR (rectP w h m n i j) x y ↔ i = ofP w m x ∧ j = ofP h n y := by
  unfold inR rectP
  dsimp only
  rw [sideP_add, sideP_add, ofP_iff hw hm, ofP_iff hh hn]
theorem ofK_lt {w h m n x y : Nat} (hm : 1 ≤ m) (hn : 1 ≤ n) (hx : x < w) (hy : y < h) : ofK w h m n x y < m * n := by
  have h1 := ofP_lt hm hx
  have h2 := ofP_lt hn hy
  have h3 : (ofP h n y + 1) * m ≤ n * m := Nat.mul_le_mul_right _ h2
  unfold ofK
  rw [Nat.mul_comm m n]
  rw [Nat.add_mul] at h3
  omega
/-- A place lies in one part alone. -/
theorem inK_iff {w h m n k x y : Nat} (hw : 1 ≤ w) (hh : 1 ≤ h) (hm : 1 ≤ m) (hn : 1 ≤ n) (hx : x < w) : inR (partK w h m n k) x y ↔ k = ofK w h m n x y := by
  unfold partK
  rw [inR_iff hw hh hm hn]
  have h1 := ofP_lt hm hx
  unfold ofK
  constructor
  · rintro ⟨e1, e2⟩
    rw [← e1, ← e2, Nat.mul_comm, Nat.div_add_mod]
  · rintro rfl
    constructor
    · rw [Nat.mul_comm, Nat.mul_add_mod, Nat.mod_eq_of_lt h1]
    · rw [Nat.mul_comm, Nat.mul_add_div (by omega), Nat.div_eq_of_lt h1, Nat.add_zero]
/-- A part lies within. -/
theorem partK_within {w h m n k : Nat} (hm : 1 ≤ m) (hn : 1 ≤ n) (hk : k < m * n) : (partK w h m n k).x + (partK w h m n k).w ≤ w ∧ (partK w h m n k).y + (partK w h m n k).h ≤ h := by
  have h1 := Nat.mod_lt k (show 0 < m by omega)
  have h2 : k / m < n := by rw [Nat.div_lt_iff_lt_mul (by omega), Nat.mul_comm]; exact hk
  unfold partK rectP
  dsimp only
  rw [sideP_add, sideP_add]
  exact ⟨cutP_most hm (by omega), cutP_most hn (by omega)⟩
end Go.Proofs.Ytfnacnelmkemeaa
