/-
  Layer 9 by plain functions: levels of a plane, and transforms: no program in sight.
-/
import Derived.Test.YtgmainbgliejhaaWave
namespace Go.Proofs.Ytgmainbgliejhaa
open Go.RowKit

/-- Numbers of a plane: row y, column x. -/
abbrev Grid := Nat → Nat → Int
def rowsF (f w : Nat) (A : Grid) : Grid := fun y x => fwdL f w (A y) x
def colsF (f h : Nat) (A : Grid) : Grid := fun y x => fwdL f h (fun i => A i x) y
def rowsB (f w : Nat) (A : Grid) : Grid := fun y x => bwdL f w (A y) x
def colsB (f h : Nat) (A : Grid) : Grid := fun y x => bwdL f h (fun i => A i x) y
/-- Doubled, and halved, if the filter's shift is 1. -/
def dblG (f : Nat) (A : Grid) : Grid := fun y x => if f = 3 then A y x else wrap64 (2 * A y x)
def halfG (f : Nat) (A : Grid) : Grid := fun y x => if f = 3 then A y x else wrap64 (A y x + 1) / 2
/-- A level there, and back. -/
def levelF (f w h : Nat) (A : Grid) : Grid := colsF f h (rowsF f w (dblG f A))
def levelB (f w h : Nat) (A : Grid) : Grid := halfG f (rowsB f w (colsB f h A))
/-- A part over a plane. -/
def layG (w h : Nat) (A B : Grid) : Grid := fun y x => if x < w ∧ y < h then B y x else A y x
theorem layG_in {w h : Nat} {A B : Grid} {x y : Nat} (hx : x < w) (hy : y < h) : layG w h A B y x = B y x := if_pos ⟨hx, hy⟩
theorem layG_out {w h : Nat} {A B : Grid} {x y : Nat} (hn : ¬ (x < w ∧ y < h)) : layG w h A B y x = A y x := if_neg hn
/-- A transform there, and back. -/
def fwdW (f : Nat) : Nat → Nat → Nat → Grid → Grid
  | 0, _, _, A => A
  | d + 1, w, h, A => layG (w / 2) (h / 2) (levelF f w h A) (fwdW f d (w / 2) (h / 2) (levelF f w h A))
def bwdW (f : Nat) : Nat → Nat → Nat → Grid → Grid
  | 0, _, _, A => A
  | d + 1, w, h, A => levelB f w h (layG (w / 2) (h / 2) A (bwdW f d (w / 2) (h / 2) A))

/-- Alike within w by h. -/
def EqG (w h : Nat) (A B : Grid) : Prop := ∀ y x, y < h → x < w → A y x = B y x
theorem EqG.refl (w h : Nat) (A : Grid) : EqG w h A A := fun _ _ _ _ => rfl
theorem EqG.symm {w h : Nat} {A B : Grid} (e : EqG w h A B) : EqG w h B A := fun y x hy hx => (e y x hy hx).symm
theorem EqG.trans {w h : Nat} {A B C : Grid} (e : EqG w h A B) (e' : EqG w h B C) : EqG w h A C := fun y x hy hx => (e y x hy hx).trans (e' y x hy hx)
theorem EqG.part {w h w' h' : Nat} {A B : Grid} (e : EqG w h A B) (hw : w' ≤ w) (hh : h' ≤ h) : EqG w' h' A B := fun y x hy hx => e y x (by omega) (by omega)
/-- A side that can be halved. -/
def Even2 (n : Nat) : Prop := 2 ≤ n ∧ n % 2 = 0
theorem rowsF_congr {f w h : Nat} {A B : Grid} (hw : Even2 w) (e : EqG w h A B) : EqG w h (rowsF f w A) (rowsF f w B) := fun y _ hy hx => fwdL_congr hw.1 hw.2 (fun j hj => e y j hy hj) hx
theorem colsF_congr {f w h : Nat} {A B : Grid} (hh : Even2 h) (e : EqG w h A B) : EqG w h (colsF f h A) (colsF f h B) := fun _ x hy hx => fwdL_congr hh.1 hh.2 (fun j hj => e j x hj hx) hy
theorem rowsB_congr {f w h : Nat} {A B : Grid} (hw : Even2 w) (e : EqG w h A B) : EqG w h (rowsB f w A) (rowsB f w B) := fun y _ hy hx => bwdL_congr hw.1 hw.2 (fun j hj => e y j hy hj) hx
theorem colsB_congr {f w h : Nat} {A B : Grid} (hh : Even2 h) (e : EqG w h A B) : EqG w h (colsB f h A) (colsB f h B) := fun _ x hy hx => bwdL_congr hh.1 hh.2 (fun j hj => e j x hj hx) hy
theorem dblG_congr {f w h : Nat} {A B : Grid} (e : EqG w h A B) : EqG w h (dblG f A) (dblG f B) := fun y x hy hx => by unfold dblG; rw [e y x hy hx]
theorem halfG_congr {f w h : Nat} {A B : Grid} (e : EqG w h A B) : EqG w h (halfG f A) (halfG f B) := fun y x hy hx => by unfold halfG; rw [e y x hy hx]
theorem levelF_congr {f w h : Nat} {A B : Grid} (hw : Even2 w) (hh : Even2 h) (e : EqG w h A B) : EqG w h (levelF f w h A) (levelF f w h B) := colsF_congr hh (rowsF_congr hw (dblG_congr e))
theorem levelB_congr {f w h : Nat} {A B : Grid} (hw : Even2 w) (hh : Even2 h) (e : EqG w h A B) : EqG w h (levelB f w h A) (levelB f w h B) := halfG_congr (rowsB_congr hw (colsB_congr hh e))
theorem layG_congr {w h w' h' : Nat} {A A' B B' : Grid} (e : EqG w' h' A A') (e' : EqG w h B B') : EqG w' h' (layG w h A B) (layG w h A' B') := fun y x hy hx => by
  by_cases hp : x < w ∧ y < h
  · rw [layG_in hp.1 hp.2, layG_in hp.1 hp.2]; exact e' y x hp.2 hp.1
  · rw [layG_out hp, layG_out hp]; exact e y x hy hx

/-- Sides that are multiples of 2 to a power. -/
def FitsN (d n : Nat) : Prop := 1 ≤ n ∧ n % 2 ^ d = 0
theorem FitsN.even {d n : Nat} (h : FitsN (d + 1) n) : Even2 n := by
  obtain ⟨h1, h2⟩ := h
  rw [Nat.pow_succ, Nat.mul_comm] at h2
  have h3 : n % 2 = 0 := by
    have := Nat.mod_mul_right_mod n 2 (2 ^ d)
    rw [h2] at this
    omega
  exact ⟨by omega, h3⟩
theorem FitsN.half {d n : Nat} (h : FitsN (d + 1) n) : FitsN d (n / 2) := by
  have he := h.even
  obtain ⟨h1, h2⟩ := h
  refine ⟨by have := he.1; omega, ?_⟩
  rw [Nat.pow_succ, Nat.mul_comm, Nat.mod_mul] at h2
  omega
theorem FitsN.part {d n : Nat} (h : FitsN (d + 1) n) : Even2 (n / 2 ^ d) := by
  induction d generalizing n with
  | zero => simpa using h.even
  | succ d ih =>
    have := ih h.half
    rwa [Nat.div_div_eq_div_mul, Nat.mul_comm, ← Nat.pow_succ] at this
theorem FitsN.less {d n : Nat} (h : FitsN (d + 1) n) : FitsN d n := by
  refine ⟨h.1, ?_⟩
  have h2 := h.2
  rw [Nat.pow_succ, Nat.mod_mul] at h2
  omega

theorem fwdW_congr {f : Nat} (d : Nat) {w h : Nat} {A B : Grid} (hw : FitsN d w) (hh : FitsN d h) (e : EqG w h A B) : EqG w h (fwdW f d w h A) (fwdW f d w h B) := by
  induction d generalizing w h A B with
  | zero => exact e
  | succ d ih =>
    have hL := levelF_congr (f := f) hw.even hh.even e
    exact layG_congr hL (ih hw.half hh.half (hL.part (by omega) (by omega)))
theorem bwdW_congr {f : Nat} (d : Nat) {w h : Nat} {A B : Grid} (hw : FitsN d w) (hh : FitsN d h) (e : EqG w h A B) : EqG w h (bwdW f d w h A) (bwdW f d w h B) := by
  induction d generalizing w h A B with
  | zero => exact e
  | succ d ih => exact levelB_congr hw.even hh.even (layG_congr e (ih hw.half hh.half (e.part (by omega) (by omega))))

/-- One level more, at the least part: there. -/
theorem fwdW_snoc {f : Nat} (d : Nat) {w h : Nat} {A : Grid} (hw : FitsN (d + 1) w) (hh : FitsN (d + 1) h) :
    EqG w h (fwdW f (d + 1) w h A) (layG (w / 2 ^ d) (h / 2 ^ d) (fwdW f d w h A) (levelF f (w / 2 ^ d) (h / 2 ^ d) (fwdW f d w h A))) := by
  induction d generalizing w h A with
  | zero =>
    intro y x hy hx
    rw [Nat.pow_zero, Nat.div_one, Nat.div_one, layG_in hx hy]
    show layG _ _ _ (levelF f w h A) y x = levelF f w h A y x
    by_cases hp : x < w / 2 ∧ y < h / 2
    · rw [layG_in hp.1 hp.2]
    · rw [layG_out hp]
  | succ d ih =>
    intro y x hy hx
    have hI := ih (A := levelF f w h A) hw.half hh.half
    have ew : w / 2 / 2 ^ d = w / 2 ^ (d + 1) := by rw [Nat.div_div_eq_div_mul, Nat.mul_comm, ← Nat.pow_succ]
    have eh : h / 2 / 2 ^ d = h / 2 ^ (d + 1) := by rw [Nat.div_div_eq_div_mul, Nat.mul_comm, ← Nat.pow_succ]
    rw [ew, eh] at hI
    have lw : w / 2 ^ (d + 1) ≤ w / 2 := by rw [← ew]; exact Nat.div_le_self _ _
    have lh : h / 2 ^ (d + 1) ≤ h / 2 := by rw [← eh]; exact Nat.div_le_self _ _
    show layG (w / 2) (h / 2) (levelF f w h A) (fwdW f (d + 1) (w / 2) (h / 2) (levelF f w h A)) y x = _
    by_cases hp : x < w / 2 ∧ y < h / 2
    · rw [layG_in hp.1 hp.2, hI y x hp.2 hp.1]
      by_cases hq : x < w / 2 ^ (d + 1) ∧ y < h / 2 ^ (d + 1)
      · rw [layG_in hq.1 hq.2, layG_in hq.1 hq.2]
        exact levelF_congr hw.part hh.part (fun y x hy hx => (layG_in (by omega) (by omega)).symm) y x hq.2 hq.1
      · rw [layG_out hq, layG_out hq]
        exact (layG_in hp.1 hp.2).symm
    · rw [layG_out hp, layG_out (by omega)]
      exact (layG_out hp).symm
/-- One level more, at the least part: back. -/
theorem bwdW_snoc {f : Nat} (d : Nat) {w h : Nat} {A : Grid} (hw : FitsN (d + 1) w) (hh : FitsN (d + 1) h) :
    EqG w h (bwdW f (d + 1) w h A) (bwdW f d w h (layG (w / 2 ^ d) (h / 2 ^ d) A (levelB f (w / 2 ^ d) (h / 2 ^ d) A))) := by
  induction d generalizing w h A with
  | zero =>
    intro y x hy hx
    rw [Nat.pow_zero, Nat.div_one, Nat.div_one]
    show levelB f w h (layG (w / 2) (h / 2) A A) y x = layG w h A (levelB f w h A) y x
    rw [layG_in hx hy]
    refine levelB_congr hw.even hh.even (fun y x _ _ => ?_) y x hy hx
    by_cases hp : x < w / 2 ∧ y < h / 2
    · rw [layG_in hp.1 hp.2]
    · rw [layG_out hp]
  | succ d ih =>
    have hI := ih (A := A) hw.half hh.half
    have ew : w / 2 / 2 ^ d = w / 2 ^ (d + 1) := by rw [Nat.div_div_eq_div_mul, Nat.mul_comm, ← Nat.pow_succ]
    have eh : h / 2 / 2 ^ d = h / 2 ^ (d + 1) := by rw [Nat.div_div_eq_div_mul, Nat.mul_comm, ← Nat.pow_succ]
    rw [ew, eh] at hI
    have lw : w / 2 ^ (d + 1) ≤ w / 2 := by rw [← ew]; exact Nat.div_le_self _ _
    have lh : h / 2 ^ (d + 1) ≤ h / 2 := by rw [← eh]; exact Nat.div_le_self _ _
    refine levelB_congr hw.even hh.even fun y x hy hx => ?_
    by_cases hp : x < w / 2 ∧ y < h / 2
    · rw [layG_in hp.1 hp.2, layG_in hp.1 hp.2]
      exact hI y x hp.2 hp.1
    · rw [layG_out hp, layG_out hp, layG_out (by omega)]

/-- Numbers within w by h. -/
def AllG (w h : Nat) (P : Int → Prop) (A : Grid) : Prop := ∀ y x, y < h → x < w → P (A y x)
theorem AllG.part {w h w' h' : Nat} {P : Int → Prop} {A : Grid} (e : AllG w h P A) (hw : w' ≤ w) (hh : h' ≤ h) : AllG w' h' P A := fun y x hy hx => e y x (by omega) (by omega)
theorem dblG_in {f : Nat} {A : Grid} {y x : Nat} (h : Abs 4611686018427387903 (A y x)) : dblG f A y x = if f = 3 then A y x else 2 * A y x := by
  unfold Abs at h
  unfold dblG; split
  · rfl
  · exact wrap64_in (by omega) (by omega)
theorem levelB_levelF {f w h : Nat} {A : Grid} (hw : Even2 w) (hh : Even2 h) (hA : AllG w h (Abs 4611686018427387903) A) : EqG w h (levelB f w h (levelF f w h A)) A := by
  have h1 : AllG w h I64 (dblG f A) := fun y x hy hx => by
    have := hA y x hy hx
    rw [dblG_in this]
    unfold Abs at this; unfold I64
    split <;> omega
  have h2 : AllG w h I64 (rowsF f w (dblG f A)) := fun y x hy hx => fwdL_i64 hw.2 (fun j hj => h1 y j hy hj) hx
  have e1 : EqG w h (colsB f h (colsF f h (rowsF f w (dblG f A)))) (rowsF f w (dblG f A)) := fun y x hy hx => bwdL_fwdL (V := fun i => rowsF f w (dblG f A) i x) hh.1 hh.2 (fun j hj => h2 j x hj hx) hy
  have e2 : EqG w h (rowsB f w (rowsF f w (dblG f A))) (dblG f A) := fun y x hy hx => bwdL_fwdL hw.1 hw.2 (fun j hj => h1 y j hy hj) hx
  intro y x hy hx
  refine (halfG_congr ((rowsB_congr hw e1).trans e2) y x hy hx).trans ?_
  have := hA y x hy hx
  unfold halfG
  rw [dblG_in this]
  unfold Abs at this
  split
  · rfl
  · rw [wrap64_in (by omega) (by omega)]; omega
/-- How great the numbers of a level are. -/
theorem levelF_small {f w h : Nat} {A : Grid} {M : Int} (hw : Even2 w) (hh : Even2 h) (hM : 0 ≤ M ∧ M ≤ 9007199254740992) (hA : AllG w h (Abs M) A) : AllG w h (Abs (13 * M + 12)) (levelF f w h A) := by
  have h1 : AllG w h (Abs (2 * M)) (dblG f A) := fun y x hy hx => by
    have := hA y x hy hx
    rw [dblG_in (this.mono (by omega))]
    unfold Abs at *
    split <;> omega
  have h2 : AllG w h (Abs (5 * M + 3)) (rowsF f w (dblG f A)) := fun y x hy hx => by
    have := fwdL_small (f := f) (V := dblG f A y) hw.1 hw.2 (M := 2 * M) (by omega) (fun j hj => h1 y j hy hj) hx
    show Abs _ (fwdL f w (dblG f A y) x)
    unfold Abs; omega
  intro y x hy hx
  have := fwdL_small (f := f) (V := fun i => rowsF f w (dblG f A) i x) hh.1 hh.2 (M := 5 * M + 3) (by omega) (fun j hj => h2 j x hj hx) hy
  show Abs _ (fwdL f h (fun i => rowsF f w (dblG f A) i x) y)
  unfold Abs; omega
theorem pow13 (d : Nat) : (1 : Int) ≤ 13 ^ d := by
  induction d with
  | zero => decide
  | succ d ih => rw [Int.pow_succ]; omega
/-- Back takes back what there did. -/
theorem bwdW_fwdW {f : Nat} (d : Nat) {w h : Nat} {A : Grid} {M : Int} (hw : FitsN d w) (hh : FitsN d h) (hM : 0 ≤ M) (hB : (M + 1) * 13 ^ d ≤ 117093590311632896) (hA : AllG w h (Abs M) A) : EqG w h (bwdW f d w h (fwdW f d w h A)) A := by
  induction d generalizing w h A M with
  | zero => exact EqG.refl _ _ _
  | succ d ih =>
    have hp := pow13 d
    have hB' : (13 * M + 12 + 1) * 13 ^ d ≤ 117093590311632896 := by
      rw [Int.pow_succ, show (M + 1) * (13 ^ d * 13) = (13 * M + 12 + 1) * 13 ^ d by rw [Int.mul_comm (13 ^ d) 13, ← Int.mul_assoc]; congr 1; omega] at hB
      exact hB
    have hM1 : 13 * M + 12 + 1 ≤ 117093590311632896 := by
      have : (13 * M + 12 + 1) * 1 ≤ (13 * M + 12 + 1) * 13 ^ d := Int.mul_le_mul_of_nonneg_left hp (by omega)
      omega
    have hL := levelF_small (f := f) hw.even hh.even (M := M) (by omega) hA
    have hI := ih (A := levelF f w h A) hw.half hh.half (by omega) hB' (hL.part (by omega) (by omega))
    refine EqG.trans (levelB_congr hw.even hh.even fun y x hy hx => ?_) (levelB_levelF hw.even hh.even fun y x hy hx => (hA y x hy hx).mono (by omega))
    by_cases hq : x < w / 2 ∧ y < h / 2
    · rw [layG_in hq.1 hq.2]
      refine (bwdW_congr d hw.half hh.half (fun y x hy hx => ?_) y x hq.2 hq.1).trans (hI y x hq.2 hq.1)
      exact layG_in hx hy
    · rw [layG_out hq]
      exact layG_out hq

/-- What a level makes of a number that is the same everywhere. -/
def dblC (f : Nat) (c : Int) : Int := if f = 3 then c else 2 * c
def dblN (f : Nat) : Nat → Int → Int
  | 0, c => c
  | d + 1, c => dblN f d (dblC f c)
theorem levelF_flat {f w h : Nat} {A : Grid} {c : Int} (hw : Even2 w) (hh : Even2 h) (hc : Abs 1073741823 c) (hA : EqG w h A fun _ _ => c) : EqG w h (levelF f w h A) (fun y x => if x < w / 2 ∧ y < h / 2 then dblC f c else 0) := by
  unfold Abs at hc
  have hd : -2147483648 ≤ dblC f c ∧ dblC f c ≤ 2147483647 := by unfold dblC; split <;> omega
  have h1 : EqG w h (dblG f A) fun _ _ => dblC f c := fun y x hy hx => by
    have e : A y x = c := hA y x hy hx
    show dblG f A y x = dblC f c
    unfold dblG dblC
    rw [e]; split
    · rfl
    · exact wrap64_in (by omega) (by omega)
  have h2 : EqG w h (rowsF f w (dblG f A)) fun _ x => if x < w / 2 then dblC f c else 0 := fun y x hy hx => fwdL_flat hw.1 hw.2 hd (fun j hj => h1 y j hy hj) hx
  intro y x hy hx
  show fwdL f h (fun i => rowsF f w (dblG f A) i x) y = _
  rw [fwdL_flat (c := if x < w / 2 then dblC f c else 0) hh.1 hh.2 (by split <;> omega) (fun j hj => h2 j x hj hx) hy]
  dsimp only
  by_cases h1 : x < w / 2 <;> by_cases h2 : y < h / 2 <;> simp [h1, h2]
/-- A flat plane has noughts but in its least part. -/
theorem fwdW_flat {f : Nat} (d : Nat) {w h : Nat} {A : Grid} {c : Int} (hw : FitsN d w) (hh : FitsN d h) {M : Int} (hM : Abs M c) (hB : M * 2 ^ d ≤ 1073741823) (hA : EqG w h A fun _ _ => c) : EqG w h (fwdW f d w h A) (fun y x => if x < w / 2 ^ d ∧ y < h / 2 ^ d then dblN f d c else 0) := by
  induction d generalizing w h A c M with
  | zero =>
    intro y x hy hx
    dsimp only
    rw [Nat.pow_zero, Nat.div_one, Nat.div_one, if_pos ⟨hx, hy⟩]
    exact hA y x hy hx
  | succ d ih =>
    have ew : w / 2 / 2 ^ d = w / 2 ^ (d + 1) := by rw [Nat.div_div_eq_div_mul, Nat.mul_comm, ← Nat.pow_succ]
    have eh : h / 2 / 2 ^ d = h / 2 ^ (d + 1) := by rw [Nat.div_div_eq_div_mul, Nat.mul_comm, ← Nat.pow_succ]
    have lw : w / 2 ^ (d + 1) ≤ w / 2 := by rw [← ew]; exact Nat.div_le_self _ _
    have lh : h / 2 ^ (d + 1) ≤ h / 2 := by rw [← eh]; exact Nat.div_le_self _ _
    have hp : (1 : Int) ≤ 2 ^ d := by
      clear ih hw hh hB ew eh lw lh
      induction d with
      | zero => decide
      | succ d ih => rw [Int.pow_succ]; omega
    have hB' : (2 * M) * 2 ^ d ≤ 1073741823 := by rw [Int.pow_succ, Int.mul_comm (2 ^ d) 2, ← Int.mul_assoc, Int.mul_comm M 2] at hB; exact hB
    have hM0 : 0 ≤ M := by unfold Abs at hM; omega
    have hM2 : 2 * M ≤ 1073741823 := by
      have : (2 * M) * 1 ≤ (2 * M) * 2 ^ d := Int.mul_le_mul_of_nonneg_left hp (by omega)
      omega
    have hL := levelF_flat (f := f) hw.even hh.even (hM.mono (by omega)) hA
    have hI := ih (A := levelF f w h A) (c := dblC f c) (M := 2 * M) hw.half hh.half (by unfold Abs at *; unfold dblC; split <;> omega) hB' (fun y x hy hx => (hL y x (by omega) (by omega)).trans (if_pos ⟨hx, hy⟩))
    rw [ew, eh] at hI
    intro y x hy hx
    show layG (w / 2) (h / 2) (levelF f w h A) _ y x = _
    by_cases hq : x < w / 2 ∧ y < h / 2
    · rw [layG_in hq.1 hq.2]
      exact hI y x hq.2 hq.1
    · rw [layG_out hq, hL y x hy hx]
      dsimp only
      rw [if_neg hq, if_neg (by omega)]
/-- Of a plane that is raised as a whole a level raises the low part alone. -/
theorem levelF_raised {f w h : Nat} {A B : Grid} {c M : Int} (hw : Even2 w) (hh : Even2 h) (hM : 0 ≤ M ∧ M ≤ 9007199254740992) (hc : Abs 1073741823 c) (hA : AllG w h (Abs M) A) (hB : EqG w h B fun y x => A y x + c) : EqG w h (levelF f w h B) (fun y x => levelF f w h A y x + if x < w / 2 ∧ y < h / 2 then dblC f c else 0) := by
  have hd : Abs 2147483648 (dblC f c) := by unfold Abs at *; unfold dblC; split <;> omega
  have g1 : AllG w h (Abs (2 * M)) (dblG f A) := fun y x hy hx => by
    have := hA y x hy hx
    rw [dblG_in (this.mono (by omega))]
    unfold Abs at *
    split <;> omega
  have h1 : EqG w h (dblG f B) fun y x => dblG f A y x + dblC f c := fun y x hy hx => by
    have e : B y x = A y x + c := hB y x hy hx
    have a := hA y x hy hx
    show dblG f B y x = dblG f A y x + dblC f c
    unfold Abs at *
    unfold dblG dblC
    rw [e]; split
    · rfl
    · rw [wrap64_in (by omega) (by omega), wrap64_in (by omega) (by omega)]; omega
  have g2 : AllG w h (Abs (5 * M + 3)) (rowsF f w (dblG f A)) := fun y x hy hx => by
    have := fwdL_small (f := f) (V := dblG f A y) hw.1 hw.2 (M := 2 * M) (by omega) (fun j hj => g1 y j hy hj) hx
    show Abs _ (fwdL f w (dblG f A y) x)
    unfold Abs; omega
  have h2 : EqG w h (rowsF f w (dblG f B)) fun y x => rowsF f w (dblG f A) y x + if x < w / 2 then dblC f c else 0 := fun y x hy hx => fwdL_raised hw.1 hw.2 hd (M := 2 * M) (by omega) (fun j hj => g1 y j hy hj) (fun j hj => h1 y j hy hj) hx
  intro y x hy hx
  show fwdL f h (fun i => rowsF f w (dblG f B) i x) y = fwdL f h (fun i => rowsF f w (dblG f A) i x) y + _
  rw [fwdL_raised (c := if x < w / 2 then dblC f c else 0) hh.1 hh.2 (by unfold Abs at *; split <;> omega) (M := 5 * M + 3) (by omega) (fun j hj => g2 j x hj hx) (fun j hj => h2 j x hj hx) hy]
  by_cases h1 : x < w / 2 <;> by_cases h2 : y < h / 2 <;> simp [h1, h2]
/-- Of a plane that is raised as a whole the least part alone is. -/
theorem fwdW_raised {f : Nat} (d : Nat) {w h : Nat} {A B : Grid} {c M N : Int} (hw : FitsN d w) (hh : FitsN d h) (hM : 0 ≤ M) (hMB : (M + 1) * 13 ^ d ≤ 117093590311632896) (hN : Abs N c) (hNB : N * 2 ^ d ≤ 1073741823) (hA : AllG w h (Abs M) A) (hB : EqG w h B fun y x => A y x + c) :
    EqG w h (fwdW f d w h B) (fun y x => fwdW f d w h A y x + if x < w / 2 ^ d ∧ y < h / 2 ^ d then dblN f d c else 0) := by
  induction d generalizing w h A B c M N with
  | zero =>
    intro y x hy hx
    dsimp only
    rw [Nat.pow_zero, Nat.div_one, Nat.div_one, if_pos ⟨hx, hy⟩]
    exact hB y x hy hx
  | succ d ih =>
    have ew : w / 2 / 2 ^ d = w / 2 ^ (d + 1) := by rw [Nat.div_div_eq_div_mul, Nat.mul_comm, ← Nat.pow_succ]
    have eh : h / 2 / 2 ^ d = h / 2 ^ (d + 1) := by rw [Nat.div_div_eq_div_mul, Nat.mul_comm, ← Nat.pow_succ]
    have lw : w / 2 ^ (d + 1) ≤ w / 2 := by rw [← ew]; exact Nat.div_le_self _ _
    have lh : h / 2 ^ (d + 1) ≤ h / 2 := by rw [← eh]; exact Nat.div_le_self _ _
    have hp := pow13 d
    have hMB' : (13 * M + 12 + 1) * 13 ^ d ≤ 117093590311632896 := by
      rw [Int.pow_succ, show (M + 1) * (13 ^ d * 13) = (13 * M + 12 + 1) * 13 ^ d by rw [Int.mul_comm (13 ^ d) 13, ← Int.mul_assoc]; congr 1; omega] at hMB
      exact hMB
    have hM1 : 13 * M + 12 + 1 ≤ 117093590311632896 := by
      have : (13 * M + 12 + 1) * 1 ≤ (13 * M + 12 + 1) * 13 ^ d := Int.mul_le_mul_of_nonneg_left hp (by omega)
      omega
    have hp2 : (1 : Int) ≤ 2 ^ d := by
      clear ih hw hh hMB hNB ew eh lw lh hp hMB'
      induction d with
      | zero => decide
      | succ d ih => rw [Int.pow_succ]; omega
    have hNB' : (2 * N) * 2 ^ d ≤ 1073741823 := by rw [Int.pow_succ, Int.mul_comm (2 ^ d) 2, ← Int.mul_assoc, Int.mul_comm N 2] at hNB; exact hNB
    have hN0 : 0 ≤ N := by unfold Abs at hN; omega
    have hN2 : 2 * N ≤ 1073741823 := by
      have : (2 * N) * 1 ≤ (2 * N) * 2 ^ d := Int.mul_le_mul_of_nonneg_left hp2 (by omega)
      omega
    have hS := levelF_small (f := f) hw.even hh.even (M := M) (by omega) hA
    have hL := levelF_raised (f := f) hw.even hh.even (M := M) (by omega) (hN.mono (by omega)) hA hB
    have hI := ih (A := levelF f w h A) (B := levelF f w h B) (c := dblC f c) (M := 13 * M + 12) (N := 2 * N) hw.half hh.half (by omega) hMB' (by unfold Abs at *; unfold dblC; split <;> omega) hNB' (hS.part (by omega) (by omega)) (fun y x hy hx => (hL y x (by omega) (by omega)).trans (by dsimp only; rw [if_pos ⟨hx, hy⟩]))
    rw [ew, eh] at hI
    intro y x hy hx
    show layG (w / 2) (h / 2) (levelF f w h B) _ y x = layG (w / 2) (h / 2) (levelF f w h A) _ y x + _
    by_cases hq : x < w / 2 ∧ y < h / 2
    · rw [layG_in hq.1 hq.2, layG_in hq.1 hq.2]
      exact hI y x hq.2 hq.1
    · rw [layG_out hq, layG_out hq, hL y x hy hx]
      dsimp only
      rw [if_neg hq, if_neg (by omega)]
end Go.Proofs.Ytgmainbgliejhaa
