/-
  Layer 8 by plain functions: one line, there and back: no program in sight.
-/
import Derived.Test.YtgmainbgliejhaaFrame
namespace Go.Proofs.Ytgmainbgliejhaa
open Go.RowKit

/-- The nearest place of its kind, of n places. -/
def nearL (n : Nat) (i : Int) : Nat := if i < 0 then (i % 2).toNat else if (n : Int) ≤ i then n - 2 + (i % 2).toNat else i.toNat
theorem nearL_lt {n : Nat} (h : 2 ≤ n) (i : Int) : nearL n i < n := by unfold nearL; split; omega; split <;> omega
theorem nearL_par {n : Nat} (h : 2 ≤ n) (he : n % 2 = 0) (i : Int) : ((nearL n i : Nat) : Int) % 2 = i % 2 := by unfold nearL; split; omega; split <;> omega
theorem nearL_in {n i : Nat} (h : i < n) : nearL n (i : Int) = i := by unfold nearL; rw [if_neg (by omega), if_neg (by omega)]; omega
theorem nearL_low {n : Nat} {i : Int} (h : i < 0) : nearL n i = nearL n (i + 2) ∨ 0 ≤ i + 2 := by
  by_cases h2 : i + 2 < 0
  · left; unfold nearL; rw [if_pos h, if_pos h2]; omega
  · right; omega
theorem nearL_up {n : Nat} (hn : 2 ≤ n) {i : Int} (h : i < 0) : nearL n i = nearL n (i + 2) := by
  unfold nearL; rw [if_pos h]
  split
  · omega
  · rw [if_neg (by omega)]; omega
theorem nearL_down {n : Nat} (hn : 2 ≤ n) (he : n % 2 = 0) {i : Int} (h : (n : Int) ≤ i) : nearL n i = nearL n (i - 2) := by
  unfold nearL; rw [if_neg (by omega), if_pos h, if_neg (by omega)]
  split <;> omega

/-- The number at a place, or at the nearest of its kind. -/
def atL (n : Nat) (V : Nat → Int) (i : Int) : Int := V (nearL n i)

/-- Moved down. -/
def down (v p : Int) : Int := v / p
/-- The sum of a step: by the numbers at i - 3, i - 1, i + 1, i + 3. -/
def tapS (f : Nat) (odd : Bool) (p q r s : Int) : Int :=
  match f, odd with
  | 0, true | 2, true => -p + 9 * q + 9 * r - s + 8
  | 1, true => q + r + 1
  | 0, false | 1, false => q + r + 2
  | 2, false => -p + 9 * q + 9 * r - s + 16
  | _, true => q
  | _, false => r + 1
/-- By what it is divided. -/
def tapD (f : Nat) (odd : Bool) : Int :=
  match f, odd with
  | 0, true | 2, true => 16
  | 1, true => 2
  | 0, false | 1, false => 4
  | 2, false => 32
  | _, true => 1
  | _, false => 2
theorem tapD_pos (f : Nat) (odd : Bool) : 0 < tapD f odd := by unfold tapD; split <;> omega
def tapV (f : Nat) (odd : Bool) (a : Int → Int) (i : Int) : Int := down (wrap64 (tapS f odd (a (i - 3)) (a (i - 1)) (a (i + 1)) (a (i + 3)))) (tapD f odd)
/-- Which places a step is at. -/
def parB (odd : Bool) : Nat := if odd then 1 else 0
/-- A step, times a sign. -/
def stepL (f n : Nat) (odd : Bool) (sg : Int) (V : Nat → Int) : Nat → Int := fun i => if i % 2 = parB odd then wrap64 (V i + sg * tapV f odd (atL n V) i) else V i
def forwardL (f n : Nat) (V : Nat → Int) : Nat → Int := stepL f n false 1 (stepL f n true (-1) V)
def inverseL (f n : Nat) (V : Nat → Int) : Nat → Int := stepL f n true 1 (stepL f n false (-1) V)

theorem wrap64_in {x : Int} (h0 : -9223372036854775808 ≤ x) (h1 : x ≤ 9223372036854775807) : wrap64 x = x := by unfold wrap64; omega
theorem wrap64_wrap (x y : Int) : wrap64 (wrap64 x + y) = wrap64 (x + y) := by unfold wrap64; omega
theorem wrap64_wrap' (x y : Int) : wrap64 (x + wrap64 y) = wrap64 (x + y) := by unfold wrap64; omega
theorem wrap64_lo (x : Int) : -9223372036854775808 ≤ wrap64 x ∧ wrap64 x ≤ 9223372036854775807 := by unfold wrap64; omega

theorem stepL_other {f n : Nat} {odd : Bool} {sg : Int} {V : Nat → Int} {i : Nat} (h : i % 2 ≠ parB odd) : stepL f n odd sg V i = V i := if_neg h
theorem tapV_congr {f : Nat} {odd : Bool} {a b : Int → Int} {i : Int} (h : ∀ j, (j - i) % 2 = 1 → a j = b j) : tapV f odd a i = tapV f odd b i := by
  unfold tapV
  rw [h (i - 3) (by omega), h (i - 1) (by omega), h (i + 1) (by omega), h (i + 3) (by omega)]
theorem parB_lt (odd : Bool) : parB odd < 2 := by cases odd <;> decide
/-- What a step did is taken back by the same one, times the other sign. -/
theorem stepL_back {f n : Nat} {odd : Bool} {sg : Int} {V : Nat → Int} (hn : 2 ≤ n) (he : n % 2 = 0) {i : Nat} (h0 : -9223372036854775808 ≤ V i) (h1 : V i ≤ 9223372036854775807) : stepL f n odd (-sg) (stepL f n odd sg V) i = V i := by
  by_cases h : i % 2 = parB odd
  · have e : tapV f odd (atL n (stepL f n odd sg V)) i = tapV f odd (atL n V) i := tapV_congr fun j hj => by
      unfold atL
      have := nearL_par hn he j
      have := parB_lt odd
      exact stepL_other (by omega)
    unfold stepL
    rw [if_pos h]
    show wrap64 (stepL f n odd sg V i + -sg * tapV f odd (atL n (stepL f n odd sg V)) i) = V i
    rw [e]
    show wrap64 ((if i % 2 = parB odd then wrap64 (V i + sg * tapV f odd (atL n V) i) else V i) + -sg * tapV f odd (atL n V) i) = V i
    rw [if_pos h, wrap64_wrap, Int.neg_mul, Int.add_neg_cancel_right, wrap64_in h0 h1]
  · rw [stepL_other h, stepL_other h]
/-- What is alike below n gives alike. -/
theorem stepL_congr {f n : Nat} {odd : Bool} {sg : Int} {V V' : Nat → Int} (hn : 2 ≤ n) (h : ∀ j, j < n → V j = V' j) {i : Nat} (hi : i < n) : stepL f n odd sg V i = stepL f n odd sg V' i := by
  unfold stepL
  have e : tapV f odd (atL n V) i = tapV f odd (atL n V') i := tapV_congr fun j _ => h _ (nearL_lt hn j)
  rw [e, h i hi]
theorem stepL_lo {f n : Nat} {odd : Bool} {sg : Int} {V : Nat → Int} {i : Nat} (h : -9223372036854775808 ≤ V i ∧ V i ≤ 9223372036854775807) : -9223372036854775808 ≤ stepL f n odd sg V i ∧ stepL f n odd sg V i ≤ 9223372036854775807 := by
  unfold stepL; split
  · exact wrap64_lo _
  · exact h

/-- Inverse takes back what Forward did. -/
theorem inverse_forward {f n : Nat} {V : Nat → Int} (hn : 2 ≤ n) (he : n % 2 = 0) (hV : ∀ j, j < n → -9223372036854775808 ≤ V j ∧ V j ≤ 9223372036854775807) {i : Nat} (hi : i < n) : inverseL f n (forwardL f n V) i = V i := by
  unfold inverseL forwardL
  have e : ∀ j, j < n → stepL f n false (-1) (stepL f n false 1 (stepL f n true (-1) V)) j = stepL f n true (-1) V j := fun j hj => stepL_back hn he (stepL_lo (hV j hj)).1 (stepL_lo (hV j hj)).2
  rw [stepL_congr hn e hi]
  have := stepL_back (f := f) (odd := true) (sg := -1) hn he (hV i hi).1 (hV i hi).2
  rwa [Int.neg_neg] at this
/-- Forward takes back what Inverse did. -/
theorem forward_inverse {f n : Nat} {V : Nat → Int} (hn : 2 ≤ n) (he : n % 2 = 0) (hV : ∀ j, j < n → -9223372036854775808 ≤ V j ∧ V j ≤ 9223372036854775807) {i : Nat} (hi : i < n) : forwardL f n (inverseL f n V) i = V i := by
  unfold inverseL forwardL
  have e : ∀ j, j < n → stepL f n true (-1) (stepL f n true 1 (stepL f n false (-1) V)) j = stepL f n false (-1) V j := fun j hj => stepL_back hn he (stepL_lo (hV j hj)).1 (stepL_lo (hV j hj)).2
  rw [stepL_congr hn e hi]
  have := stepL_back (f := f) (odd := false) (sg := -1) hn he (hV i hi).1 (hV i hi).2
  rwa [Int.neg_neg] at this

/-- What a step at the odd places takes is raised as the even ones are. -/
theorem tapV_raised {f : Nat} {a b : Int → Int} {c : Int} {i : Int} (h : ∀ j, (j - i) % 2 = 1 → b j = a j + c) (hc : -2147483648 ≤ c ∧ c ≤ 2147483647) (ha : ∀ j, (j - i) % 2 = 1 → -1125899906842624 ≤ a j ∧ a j ≤ 1125899906842624) : tapV f true b i = tapV f true a i + c := by
  have h3 := h (i - 3) (by omega); have h1 := h (i - 1) (by omega); have g1 := h (i + 1) (by omega); have g3 := h (i + 3) (by omega)
  have a3 := ha (i - 3) (by omega); have a1 := ha (i - 1) (by omega); have b1 := ha (i + 1) (by omega); have b3 := ha (i + 3) (by omega)
  unfold tapV
  rw [h3, h1, g1, g3]
  generalize a (i - 3) = p at *; generalize a (i - 1) = q at *; generalize a (i + 1) = r at *; generalize a (i + 3) = s at *
  match f with
  | 0 => simp only [tapS, tapD, down]; rw [wrap64_in (by omega) (by omega), wrap64_in (by omega) (by omega)]; omega
  | 1 => simp only [tapS, tapD, down]; rw [wrap64_in (by omega) (by omega), wrap64_in (by omega) (by omega)]; omega
  | 2 => simp only [tapS, tapD, down]; rw [wrap64_in (by omega) (by omega), wrap64_in (by omega) (by omega)]; omega
  | f + 3 => simp only [tapS, tapD, down]; rw [wrap64_in (by omega) (by omega), wrap64_in (by omega) (by omega)]; omega
/-- How great a step's number is. -/
theorem tapV_small {f : Nat} {odd : Bool} {a : Int → Int} {i : Int} {M : Int} (hM : 0 ≤ M ∧ M ≤ 288230376151711744) (ha : ∀ j, (j - i) % 2 = 1 → -M ≤ a j ∧ a j ≤ M) : -(2 * M + 1) ≤ tapV f odd a i ∧ tapV f odd a i ≤ 2 * M + 1 := by
  have a3 := ha (i - 3) (by omega); have a1 := ha (i - 1) (by omega); have b1 := ha (i + 1) (by omega); have b3 := ha (i + 3) (by omega)
  unfold tapV
  generalize a (i - 3) = p at *; generalize a (i - 1) = q at *; generalize a (i + 1) = r at *; generalize a (i + 3) = s at *
  cases odd <;> match f with
  | 0 => simp only [tapS, tapD, down]; rw [wrap64_in (by omega) (by omega)]; omega
  | 1 => simp only [tapS, tapD, down]; rw [wrap64_in (by omega) (by omega)]; omega
  | 2 => simp only [tapS, tapD, down]; rw [wrap64_in (by omega) (by omega)]; omega
  | f + 3 => simp only [tapS, tapD, down]; rw [wrap64_in (by omega) (by omega)]; omega

theorem atL_of {n : Nat} {V V' : Nat → Int} {j : Int} (hn : 2 ≤ n) (h : ∀ k, k < n → (k : Int) % 2 = j % 2 → V k = V' k) (he : n % 2 = 0) : atL n V j = atL n V' j := h _ (nearL_lt hn j) (nearL_par hn he j)
/-- Of a line that is raised as a whole the high part isn't. -/
theorem odd_raised {f n : Nat} {V U : Nat → Int} {c : Int} (hn : 2 ≤ n) (hc : -2147483648 ≤ c ∧ c ≤ 2147483647) (hV : ∀ j, j < n → -1125899906842624 ≤ V j ∧ V j ≤ 1125899906842624) (hU : ∀ j, j < n → U j = V j + c) {i : Nat} (hi : i < n) (ho : i % 2 = 1) : stepL f n true (-1) U i = stepL f n true (-1) V i := by
  unfold stepL
  rw [if_pos (show i % 2 = parB true from ho), if_pos (show i % 2 = parB true from ho), tapV_raised (a := atL n V) (b := atL n U) (c := c) (fun j _ => hU _ (nearL_lt hn j)) hc (fun j _ => hV _ (nearL_lt hn j)), hU i hi]
  congr 1
  omega
/-- Of a line that is raised as a whole the low part is raised. -/
theorem forward_raised {f n : Nat} {V U : Nat → Int} {c : Int} (hn : 2 ≤ n) (he : n % 2 = 0) (hc : -2147483648 ≤ c ∧ c ≤ 2147483647) (hV : ∀ j, j < n → -1125899906842624 ≤ V j ∧ V j ≤ 1125899906842624) (hU : ∀ j, j < n → U j = V j + c) {i : Nat} (hi : i < n) :
    (i % 2 = 1 → forwardL f n U i = forwardL f n V i) ∧ (i % 2 = 0 → forwardL f n U i = forwardL f n V i + c ∧ -9223372036854775808 ≤ forwardL f n V i + c ∧ forwardL f n V i + c ≤ 9223372036854775807) := by
  have hodd : ∀ k, k < n → k % 2 = 1 → stepL f n true (-1) U k = stepL f n true (-1) V k := fun k hk ho => odd_raised hn hc hV hU hk ho
  have hsm : ∀ k, k < n → k % 2 = 1 → -4503599627370497 ≤ stepL f n true (-1) V k ∧ stepL f n true (-1) V k ≤ 4503599627370497 := fun k hk ho => by
    have h1 := hV k hk
    have h2 := tapV_small (f := f) (odd := true) (a := atL n V) (i := (k : Int)) (M := 1125899906842624) (by omega) (fun j _ => by have := hV _ (nearL_lt hn j); exact ⟨this.1, this.2⟩)
    unfold stepL
    rw [if_pos (show k % 2 = parB true from ho), wrap64_in (by omega) (by omega)]
    omega
  refine ⟨fun ho => ?_, fun hev => ?_⟩
  · exact (stepL_other (odd := false) (by rw [ho]; decide)).trans ((hodd i hi ho).trans (stepL_other (odd := false) (by rw [ho]; decide)).symm)
  · have e : tapV f false (atL n (stepL f n true (-1) U)) i = tapV f false (atL n (stepL f n true (-1) V)) i := tapV_congr fun j hj => by
      have := nearL_par hn he j
      exact hodd _ (nearL_lt hn j) (by omega)
    have h2 := tapV_small (f := f) (odd := false) (a := atL n (stepL f n true (-1) V)) (i := (i : Int)) (M := 4503599627370497) (by omega) (fun j hj => by
      have := nearL_par hn he j
      have := hsm _ (nearL_lt hn j) (by omega)
      exact ⟨this.1, this.2⟩)
    have hU0 : stepL f n true (-1) U i = V i + c := by rw [stepL_other (by rw [hev]; decide), hU i hi]
    have hV0 : stepL f n true (-1) V i = V i := stepL_other (by rw [hev]; decide)
    have h1 := hV i hi
    have eU : forwardL f n U i = wrap64 (stepL f n true (-1) U i + 1 * tapV f false (atL n (stepL f n true (-1) U)) i) := if_pos hev
    have eV : forwardL f n V i = wrap64 (stepL f n true (-1) V i + 1 * tapV f false (atL n (stepL f n true (-1) V)) i) := if_pos hev
    rw [eU, eV, e, hU0, hV0, wrap64_in (by omega) (by omega), wrap64_in (by omega) (by omega)]
    omega
/-- A flat line has no high part. -/
theorem forward_flat {f n : Nat} {c : Int} (hn : 2 ≤ n) (he : n % 2 = 0) (hc : -2147483648 ≤ c ∧ c ≤ 2147483647) {i : Nat} (hi : i < n) :
    (i % 2 = 1 → forwardL f n (fun _ => c) i = 0) ∧ (i % 2 = 0 → forwardL f n (fun _ => c) i = c) := by
  have h0 : ∀ k, k < n → k % 2 = 1 → stepL f n true (-1) (fun _ => 0) k = 0 := fun k _ ho => by
    unfold stepL
    rw [if_pos (show k % 2 = parB true from ho)]
    have : tapV f true (atL n fun _ => 0) k = 0 := by
      unfold tapV atL
      match f with
      | 0 => simp only [tapS, tapD, down]; rw [wrap64_in (by omega) (by omega)]; omega
      | 1 => simp only [tapS, tapD, down]; rw [wrap64_in (by omega) (by omega)]; omega
      | 2 => simp only [tapS, tapD, down]; rw [wrap64_in (by omega) (by omega)]; omega
      | _ + 3 => simp only [tapS, tapD, down]; rw [wrap64_in (by omega) (by omega)]; omega
    rw [this]
    show wrap64 (0 + -1 * 0) = 0
    exact wrap64_in (by omega) (by omega)
  have hr := forward_raised (f := f) (n := n) (V := fun _ => 0) (U := fun _ => c) (c := c) hn he hc (fun _ _ => by omega) (fun _ _ => by omega) hi
  refine ⟨fun ho => ?_, fun hev => ?_⟩
  · rw [hr.1 ho]
    exact (stepL_other (odd := false) (by rw [ho]; decide)).trans (h0 i hi ho)
  · rw [(hr.2 hev).1]
    have e : tapV f false (atL n (stepL f n true (-1) fun _ => 0)) i = tapV f false (fun _ => 0) i := tapV_congr fun j hj => by
      have := nearL_par hn he j
      exact h0 _ (nearL_lt hn j) (by omega)
    have e2 : tapV f false (fun _ => 0) (i : Int) = 0 := by
      unfold tapV
      match f with
      | 0 => simp only [tapS, tapD, down]; rw [wrap64_in (by omega) (by omega)]; omega
      | 1 => simp only [tapS, tapD, down]; rw [wrap64_in (by omega) (by omega)]; omega
      | 2 => simp only [tapS, tapD, down]; rw [wrap64_in (by omega) (by omega)]; omega
      | _ + 3 => simp only [tapS, tapD, down]; rw [wrap64_in (by omega) (by omega)]; omega
    have eV : forwardL f n (fun _ => 0) i = wrap64 (stepL f n true (-1) (fun _ => 0) i + 1 * tapV f false (atL n (stepL f n true (-1) fun _ => 0)) i) := if_pos hev
    rw [eV, e, e2, stepL_other (odd := true) (by rw [hev]; decide)]
    show wrap64 (0 + 1 * 0) + c = c
    rw [wrap64_in (by omega) (by omega)]
    omega
end Go.Proofs.Ytgmainbgliejhaa
