/-
  Layer 9 by plain functions: planes, there and back: no program in sight.
-/
import Derived.Test.YtgmainbgliejhaaLift
namespace Go.Proofs.Ytgmainbgliejhaa
open Go.RowKit

/-- A number of 64 bits. -/
def I64 (z : Int) : Prop := -9223372036854775808 ≤ z ∧ z ≤ 9223372036854775807
/-- A number that is no greater than M. -/
def Abs (M z : Int) : Prop := -M ≤ z ∧ z ≤ M
theorem Abs.i64 {M z : Int} (h : Abs M z) (hM : M ≤ 9223372036854775807) : I64 z := by unfold Abs at h; unfold I64; omega
theorem Abs.mono {M N z : Int} (h : Abs M z) (hM : M ≤ N) : Abs N z := by unfold Abs at *; omega

/-- Those at even places ahead of those at odd ones. -/
def partedV (n : Nat) (U : Nat → Int) : Nat → Int := fun j => if j < n / 2 then U (2 * j) else U (2 * (j - n / 2) + 1)
/-- That taken back. -/
def wovenV (n : Nat) (U : Nat → Int) : Nat → Int := fun j => if j % 2 = 0 then U (j / 2) else U (n / 2 + j / 2)
theorem woven_parted {n : Nat} (he : n % 2 = 0) (U : Nat → Int) {j : Nat} (hj : j < n) : wovenV n (partedV n U) j = U j := by
  unfold wovenV partedV
  split
  · rw [if_pos (by omega)]; congr 1; omega
  · rw [if_neg (by omega)]; congr 1; omega
theorem partedV_all {n : Nat} (he : n % 2 = 0) {U : Nat → Int} {P : Int → Prop} (h : ∀ j, j < n → P (U j)) {j : Nat} (hj : j < n) : P (partedV n U j) := by
  unfold partedV; split
  · exact h _ (by omega)
  · exact h _ (by omega)
theorem partedV_congr {n : Nat} (he : n % 2 = 0) {U U' : Nat → Int} (h : ∀ j, j < n → U j = U' j) {j : Nat} (hj : j < n) : partedV n U j = partedV n U' j := by
  unfold partedV; split
  · exact h _ (by omega)
  · exact h _ (by omega)
theorem wovenV_congr {n : Nat} {U U' : Nat → Int} (he : n % 2 = 0) (h : ∀ j, j < n → U j = U' j) {j : Nat} (hj : j < n) : wovenV n U j = wovenV n U' j := by
  unfold wovenV; split
  · exact h _ (by omega)
  · exact h _ (by omega)
theorem wovenV_all {n : Nat} (he : n % 2 = 0) {U : Nat → Int} {P : Int → Prop} (h : ∀ j, j < n → P (U j)) {j : Nat} (hj : j < n) : P (wovenV n U j) := by
  unfold wovenV; split
  · exact h _ (by omega)
  · exact h _ (by omega)

/-- A line there, and back, as it stands. -/
def fwdL (f n : Nat) (U : Nat → Int) : Nat → Int := partedV n (forwardL f n U)
def bwdL (f n : Nat) (U : Nat → Int) : Nat → Int := inverseL f n (wovenV n U)
theorem forwardL_congr {f n : Nat} {V V' : Nat → Int} (hn : 2 ≤ n) (h : ∀ j, j < n → V j = V' j) {i : Nat} (hi : i < n) : forwardL f n V i = forwardL f n V' i :=
  stepL_congr hn (fun _ hj => stepL_congr hn h hj) hi
theorem inverseL_congr {f n : Nat} {V V' : Nat → Int} (hn : 2 ≤ n) (h : ∀ j, j < n → V j = V' j) {i : Nat} (hi : i < n) : inverseL f n V i = inverseL f n V' i :=
  stepL_congr hn (fun _ hj => stepL_congr hn h hj) hi
theorem forwardL_i64 {f n : Nat} {V : Nat → Int} {j : Nat} (h : I64 (V j)) : I64 (forwardL f n V j) := stepL_lo (stepL_lo h)
theorem inverseL_i64 {f n : Nat} {V : Nat → Int} {j : Nat} (h : I64 (V j)) : I64 (inverseL f n V j) := stepL_lo (stepL_lo h)
theorem fwdL_congr {f n : Nat} {V V' : Nat → Int} (hn : 2 ≤ n) (he : n % 2 = 0) (h : ∀ j, j < n → V j = V' j) {i : Nat} (hi : i < n) : fwdL f n V i = fwdL f n V' i := partedV_congr he (fun _ hj => forwardL_congr hn h hj) hi
theorem bwdL_congr {f n : Nat} {V V' : Nat → Int} (hn : 2 ≤ n) (he : n % 2 = 0) (h : ∀ j, j < n → V j = V' j) {i : Nat} (hi : i < n) : bwdL f n V i = bwdL f n V' i := inverseL_congr hn (fun _ hj => wovenV_congr he h hj) hi
theorem fwdL_i64 {f n : Nat} {V : Nat → Int} (he : n % 2 = 0) (h : ∀ j, j < n → I64 (V j)) {i : Nat} (hi : i < n) : I64 (fwdL f n V i) := partedV_all he (fun j hj => forwardL_i64 (h j hj)) hi
theorem bwdL_i64 {f n : Nat} {V : Nat → Int} (he : n % 2 = 0) (h : ∀ j, j < n → I64 (V j)) {i : Nat} (hi : i < n) : I64 (bwdL f n V i) := inverseL_i64 (wovenV_all he h hi)
theorem bwdL_fwdL {f n : Nat} {V : Nat → Int} (hn : 2 ≤ n) (he : n % 2 = 0) (h : ∀ j, j < n → I64 (V j)) {i : Nat} (hi : i < n) : bwdL f n (fwdL f n V) i = V i := by
  unfold bwdL fwdL
  rw [inverseL_congr hn (fun j hj => woven_parted he (forwardL f n V) hj) hi]
  exact inverse_forward hn he h hi

/-- How great a step's number is. -/
theorem tapV_odd_small {f : Nat} {a : Int → Int} {i : Int} {M : Int} (hM : 0 ≤ M ∧ M ≤ 288230376151711744) (ha : ∀ j, (j - i) % 2 = 1 → Abs M (a j)) : 4 * tapV f true a i ≤ 5 * M + 4 ∧ -(5 * M + 4) ≤ 4 * tapV f true a i := by
  have a3 := ha (i - 3) (by omega); have a1 := ha (i - 1) (by omega); have b1 := ha (i + 1) (by omega); have b3 := ha (i + 3) (by omega)
  unfold Abs at a3 a1 b1 b3
  unfold tapV
  generalize a (i - 3) = p at *; generalize a (i - 1) = q at *; generalize a (i + 1) = r at *; generalize a (i + 3) = s at *
  match f with
  | 0 => simp only [tapS, tapD, down]; rw [wrap64_in (by omega) (by omega)]; omega
  | 1 => simp only [tapS, tapD, down]; rw [wrap64_in (by omega) (by omega)]; omega
  | 2 => simp only [tapS, tapD, down]; rw [wrap64_in (by omega) (by omega)]; omega
  | f + 3 => simp only [tapS, tapD, down]; rw [wrap64_in (by omega) (by omega)]; omega
theorem tapV_even_small {f : Nat} {a : Int → Int} {i : Int} {M : Int} (hM : 0 ≤ M ∧ M ≤ 288230376151711744) (ha : ∀ j, (j - i) % 2 = 1 → Abs M (a j)) : 8 * tapV f false a i ≤ 5 * M + 8 ∧ -(5 * M + 8) ≤ 8 * tapV f false a i := by
  have a3 := ha (i - 3) (by omega); have a1 := ha (i - 1) (by omega); have b1 := ha (i + 1) (by omega); have b3 := ha (i + 3) (by omega)
  unfold Abs at a3 a1 b1 b3
  unfold tapV
  generalize a (i - 3) = p at *; generalize a (i - 1) = q at *; generalize a (i + 1) = r at *; generalize a (i + 3) = s at *
  match f with
  | 0 => simp only [tapS, tapD, down]; rw [wrap64_in (by omega) (by omega)]; omega
  | 1 => simp only [tapS, tapD, down]; rw [wrap64_in (by omega) (by omega)]; omega
  | 2 => simp only [tapS, tapD, down]; rw [wrap64_in (by omega) (by omega)]; omega
  | f + 3 => simp only [tapS, tapD, down]; rw [wrap64_in (by omega) (by omega)]; omega
/-- How great the numbers of a line are. -/
theorem odd_small {f n : Nat} {V : Nat → Int} {M : Int} (hn : 2 ≤ n) (hM : 0 ≤ M ∧ M ≤ 72057594037927936) (h : ∀ j, j < n → Abs M (V j)) {k : Nat} (hk : k < n) : 4 * stepL f n true (-1) V k ≤ 9 * M + 4 ∧ -(9 * M + 4) ≤ 4 * stepL f n true (-1) V k := by
  have h1 := h k hk
  have h2 := tapV_odd_small (f := f) (a := atL n V) (i := (k : Int)) (M := M) (by omega) (fun j _ => h _ (nearL_lt hn j))
  unfold Abs at h1
  unfold stepL
  split
  · rw [wrap64_in (by omega) (by omega)]; omega
  · omega
theorem forward_small {f n : Nat} {V : Nat → Int} {M : Int} (hn : 2 ≤ n) (hM : 0 ≤ M ∧ M ≤ 72057594037927936) (h : ∀ j, j < n → Abs M (V j)) {i : Nat} (hi : i < n) : 2 * forwardL f n V i ≤ 5 * M + 6 ∧ -(5 * M + 6) ≤ 2 * forwardL f n V i := by
  have hodd := fun k (hk : k < n) => odd_small (f := f) hn hM h hk
  have h2 := tapV_even_small (f := f) (a := atL n (stepL f n true (-1) V)) (i := (i : Int)) (M := (9 * M + 4) / 4) (by omega) (fun j _ => by have := hodd _ (nearL_lt hn j); unfold atL Abs; omega)
  by_cases hev : i % 2 = 0
  · have e1 : forwardL f n V i = wrap64 (stepL f n true (-1) V i + 1 * tapV f false (atL n (stepL f n true (-1) V)) i) := if_pos hev
    have e2 : stepL f n true (-1) V i = V i := stepL_other (by rw [hev]; decide)
    have h1 := h i hi
    unfold Abs at h1
    rw [e1, e2, wrap64_in (by omega) (by omega)]
    omega
  · have e1 : forwardL f n V i = stepL f n true (-1) V i := stepL_other (by have : i % 2 = 1 := by omega
                                                                            rw [this]; decide)
    have := hodd i hi
    rw [e1]; omega
theorem fwdL_small {f n : Nat} {V : Nat → Int} {M : Int} (hn : 2 ≤ n) (he : n % 2 = 0) (hM : 0 ≤ M ∧ M ≤ 72057594037927936) (h : ∀ j, j < n → Abs M (V j)) {i : Nat} (hi : i < n) : 2 * fwdL f n V i ≤ 5 * M + 6 ∧ -(5 * M + 6) ≤ 2 * fwdL f n V i :=
  partedV_all he (P := fun z => 2 * z ≤ 5 * M + 6 ∧ -(5 * M + 6) ≤ 2 * z) (fun _ hj => forward_small hn hM h hj) hi

/-- What a step at the odd places takes is raised as the even ones are. -/
theorem tapV_raisedM {f : Nat} {a b : Int → Int} {c M : Int} {i : Int} (h : ∀ j, (j - i) % 2 = 1 → b j = a j + c) (hc : Abs 2147483648 c) (hM : M ≤ 288230376151711744) (ha : ∀ j, (j - i) % 2 = 1 → Abs M (a j)) : tapV f true b i = tapV f true a i + c := by
  have h3 := h (i - 3) (by omega); have h1 := h (i - 1) (by omega); have g1 := h (i + 1) (by omega); have g3 := h (i + 3) (by omega)
  have a3 := ha (i - 3) (by omega); have a1 := ha (i - 1) (by omega); have b1 := ha (i + 1) (by omega); have b3 := ha (i + 3) (by omega)
  unfold Abs at hc a3 a1 b1 b3
  unfold tapV
  rw [h3, h1, g1, g3]
  generalize a (i - 3) = p at *; generalize a (i - 1) = q at *; generalize a (i + 1) = r at *; generalize a (i + 3) = s at *
  match f with
  | 0 => simp only [tapS, tapD, down]; rw [wrap64_in (by omega) (by omega), wrap64_in (by omega) (by omega)]; omega
  | 1 => simp only [tapS, tapD, down]; rw [wrap64_in (by omega) (by omega), wrap64_in (by omega) (by omega)]; omega
  | 2 => simp only [tapS, tapD, down]; rw [wrap64_in (by omega) (by omega), wrap64_in (by omega) (by omega)]; omega
  | f + 3 => simp only [tapS, tapD, down]; rw [wrap64_in (by omega) (by omega), wrap64_in (by omega) (by omega)]; omega
/-- Of a line that is raised as a whole the low part is raised, the high part isn't. -/
theorem forward_raisedM {f n : Nat} {V U : Nat → Int} {c M : Int} (hn : 2 ≤ n) (he : n % 2 = 0) (hc : Abs 2147483648 c) (hM : 0 ≤ M ∧ M ≤ 72057594037927936) (hV : ∀ j, j < n → Abs M (V j)) (hU : ∀ j, j < n → U j = V j + c) {i : Nat} (hi : i < n) :
    (i % 2 = 1 → forwardL f n U i = forwardL f n V i) ∧ (i % 2 = 0 → forwardL f n U i = forwardL f n V i + c) := by
  have hodd : ∀ k, k < n → k % 2 = 1 → stepL f n true (-1) U k = stepL f n true (-1) V k := fun k hk ho => by
    unfold stepL
    rw [if_pos (show k % 2 = parB true from ho), if_pos (show k % 2 = parB true from ho), tapV_raisedM (a := atL n V) (b := atL n U) (c := c) (M := M) (fun j _ => hU _ (nearL_lt hn j)) hc (by omega) (fun j _ => hV _ (nearL_lt hn j)), hU k hk]
    congr 1
    omega
  refine ⟨fun ho => ?_, fun hev => ?_⟩
  · exact (stepL_other (odd := false) (by rw [ho]; decide)).trans ((hodd i hi ho).trans (stepL_other (odd := false) (by rw [ho]; decide)).symm)
  · have e : tapV f false (atL n (stepL f n true (-1) U)) i = tapV f false (atL n (stepL f n true (-1) V)) i := tapV_congr fun j hj => by
      have := nearL_par hn he j
      exact hodd _ (nearL_lt hn j) (by omega)
    have h2 := tapV_even_small (f := f) (a := atL n (stepL f n true (-1) V)) (i := (i : Int)) (M := (9 * M + 4) / 4) (by omega) (fun j _ => by have := odd_small (f := f) hn hM hV (nearL_lt hn j); unfold atL Abs; omega)
    have hU0 : stepL f n true (-1) U i = V i + c := by rw [stepL_other (by rw [hev]; decide), hU i hi]
    have hV0 : stepL f n true (-1) V i = V i := stepL_other (by rw [hev]; decide)
    have h1 := hV i hi
    have eU : forwardL f n U i = wrap64 (stepL f n true (-1) U i + 1 * tapV f false (atL n (stepL f n true (-1) U)) i) := if_pos hev
    have eV : forwardL f n V i = wrap64 (stepL f n true (-1) V i + 1 * tapV f false (atL n (stepL f n true (-1) V)) i) := if_pos hev
    unfold Abs at hc h1
    rw [eU, eV, e, hU0, hV0, wrap64_in (by omega) (by omega), wrap64_in (by omega) (by omega)]
    omega
theorem fwdL_raised {f n : Nat} {V U : Nat → Int} {c M : Int} (hn : 2 ≤ n) (he : n % 2 = 0) (hc : Abs 2147483648 c) (hM : 0 ≤ M ∧ M ≤ 72057594037927936) (hV : ∀ j, j < n → Abs M (V j)) (hU : ∀ j, j < n → U j = V j + c) {i : Nat} (hi : i < n) :
    fwdL f n U i = fwdL f n V i + (if i < n / 2 then c else 0) := by
  unfold fwdL partedV
  split
  · exact (forward_raisedM hn he hc hM hV hU (show 2 * i < n by omega)).2 (by omega)
  · rw [Int.add_zero]
    exact (forward_raisedM hn he hc hM hV hU (show 2 * (i - n / 2) + 1 < n by omega)).1 (by omega)
theorem fwdL_flat {f n : Nat} {U : Nat → Int} {c : Int} (hn : 2 ≤ n) (he : n % 2 = 0) (hc : -2147483648 ≤ c ∧ c ≤ 2147483647) (hU : ∀ j, j < n → U j = c) {i : Nat} (hi : i < n) : fwdL f n U i = if i < n / 2 then c else 0 := by
  rw [fwdL_congr (V' := fun _ => c) hn he hU hi]
  unfold fwdL partedV
  split
  · exact (forward_flat (f := f) hn he hc (show 2 * i < n by omega)).2 (by omega)
  · exact (forward_flat (f := f) hn he hc (show 2 * (i - n / 2) + 1 < n by omega)).1 (by omega)
end Go.Proofs.Ytgmainbgliejhaa
