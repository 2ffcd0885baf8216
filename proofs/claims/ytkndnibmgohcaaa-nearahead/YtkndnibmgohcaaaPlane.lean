/-
  Layer 7 by plain functions: planes of numbers: no program in sight.
-/
import Derived.Test.YtkndnibmgohcaaaBits
namespace Go.Proofs.Ytkndnibmgohcaaa

theorem flat_lt {W H x y : Nat} (hx : x < W) (hy : y < H) : y * W + x < W * H := by
  have : (y + 1) * W ≤ H * W := Nat.mul_le_mul_right W hy
  rw [Nat.add_mul, Nat.one_mul] at this
  rw [Nat.mul_comm W H]
  omega
theorem flat_mod {W x y : Nat} (hx : x < W) : (y * W + x) % W = x := by
  rw [Nat.mul_comm, Nat.mul_add_mod]
  exact Nat.mod_eq_of_lt hx
theorem flat_div {W x y : Nat} (hx : x < W) : (y * W + x) / W = y := by
  rw [Nat.mul_comm, Nat.mul_add_div (by omega), Nat.div_eq_of_lt hx, Nat.add_zero]
theorem flat_eq (W i : Nat) : i / W * W + i % W = i := by rw [Nat.mul_comm]; exact Nat.div_add_mod i W
theorem row_lt {W H i : Nat} (h : i < W * H) : i / W < H := (Nat.div_lt_iff_lt_mul (by cases W with | zero => simp at h | succ _ => omega)).2 (by rw [Nat.mul_comm]; exact h)
theorem col_lt {W H i : Nat} (h : i < W * H) : i % W < W := Nat.mod_lt _ (by cases W with | zero => simp at h | succ _ => omega)

/-- The number at a place, or at the nearest one within. -/
def atP (W H : Nat) (V : Nat → Int) (x y : Nat) : Int := V (min y (H - 1) * W + min x (W - 1))
/-- The nearest place within, for any number. -/
def nearI (W : Nat) (x : Int) : Nat := (max 0 (min x ((W : Int) - 1))).toNat
theorem nearI_lt {W : Nat} (h : 0 < W) (x : Int) : nearI W x < W := by unfold nearI; omega
theorem nearI_nat {W : Nat} (h : 0 < W) (x : Nat) : nearI W (x : Int) = min x (W - 1) := by unfold nearI; omega
/-- By At, w wide. -/
def sizedV (W H : Nat) (V : Nat → Int) (w : Nat) : Nat → Int := fun i => atP W H V (i % w) (i / w)
theorem atP_in {W H : Nat} {V : Nat → Int} {x y : Nat} (hx : x < W) (hy : y < H) : atP W H V x y = V (y * W + x) := by
  unfold atP
  rw [Nat.min_eq_left (by omega), Nat.min_eq_left (by omega)]
theorem sizedV_at {W H : Nat} {V : Nat → Int} {w x y : Nat} (hx : x < w) : sizedV W H V w (y * w + x) = atP W H V x y := by
  unfold sizedV
  rw [flat_mod hx, flat_div hx]

/-- What is padded and cropped again is as it was. -/
theorem crop_pad {W H : Nat} {V : Nat → Int} {w h i : Nat} (hw : W ≤ w) (hh : H ≤ h) (hi : i < W * H) : sizedV w h (sizedV W H V w) W i = V i := by
  have h1 := col_lt hi
  have h2 := row_lt hi
  show atP w h (sizedV W H V w) (i % W) (i / W) = _
  rw [atP_in (by omega) (by omega), sizedV_at (by omega), atP_in h1 h2, flat_eq]

/-- Rows are columns: H wide. -/
def turnV (W H : Nat) (V : Nat → Int) : Nat → Int := fun i => V (i % H * W + i / H)
theorem turnV_at {W H : Nat} {V : Nat → Int} {x y : Nat} (hx : x < H) : turnV W H V (y * H + x) = V (x * W + y) := by
  unfold turnV
  rw [flat_mod hx, flat_div hx]
/-- What is turned twice is as it was. -/
theorem turn_turn {W H : Nat} {V : Nat → Int} {i : Nat} (hi : i < W * H) : turnV H W (turnV W H V) i = V i := by
  have h2 := row_lt hi
  unfold turnV
  show V ((i % W * H + i / W) % H * W + (i % W * H + i / W) / H) = _
  rw [flat_mod h2, flat_div h2, flat_eq]

/-- Sums that lose what doesn't fit. -/
def wrapI (x : Int) : Int := (x + 9223372036854775808) % 18446744073709551616 - 9223372036854775808
theorem wrapI_in {x : Int} (h0 : -9223372036854775808 ≤ x) (h1 : x ≤ 9223372036854775807) : wrapI x = x := by unfold wrapI; omega
/-- What is added and subtracted again is as it was. -/
theorem add_sub_back {a b : Int} (h0 : -9223372036854775808 ≤ a) (h1 : a ≤ 9223372036854775807) : wrapI (wrapI (a + b) - b) = a := by unfold wrapI; omega

/-- Between two numbers: least first, then most. -/
def clipV (lo hi v : Int) : Int := min (max v lo) hi
end Go.Proofs.Ytkndnibmgohcaaa
