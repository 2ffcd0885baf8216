/-
  Layer 6 by plain functions: a number as bits of contexts, and told again: no program in sight.
-/
import Derived.Test.YthabklgeopdlhaaArithS
namespace Go.Proofs.Ythabklgeopdlhaa

/-- How many digits are left of a number without its first one. -/
def ndig (v : Nat) : Nat := Nat.log2 (v + 1)
theorem ndig_le (v : Nat) (h : v ≤ 2199023255550) : ndig v ≤ 40 := by
  have : Nat.log2 (v + 1) < 41 := (Nat.log2_lt (by omega)).2 (by omega)
  unfold ndig
  omega
theorem ndig_bounds (v : Nat) : 2 ^ ndig v ≤ v + 1 ∧ v + 1 < 2 ^ (ndig v + 1) :=
  ⟨Nat.log2_self_le (by omega), Nat.lt_log2_self⟩

/-- The first i digits' bits. -/
def digSteps (F : Nat → Int) (D : Int) (N n : Nat) (i : Nat) : List (Int × Bool) := (List.range i).flatMap fun j => [(F j, false), (D, N.testBit (n - 1 - j))]
theorem digSteps_succ (F : Nat → Int) (D : Int) (N n i : Nat) : digSteps F D N n (i + 1) = digSteps F D N n i ++ [(F i, false), (D, N.testBit (n - 1 - i))] := by simp [digSteps, List.range_succ]
theorem digSteps_length (F : Nat → Int) (D : Int) (N n : Nat) : ∀ i, (digSteps F D N n i).length = 2 * i
  | 0 => rfl
  | i + 1 => by rw [digSteps_succ, List.length_append, digSteps_length F D N n i]; simp; omega
/-- A number as bits of contexts. -/
def numSteps (F : Nat → Int) (D : Int) (v : Nat) : List (Int × Bool) := digSteps F D (v + 1) (ndig v) (ndig v) ++ if ndig v < 40 then [(F (ndig v), true)] else []
/-- How many bits these are. -/
def ncost (v : Nat) : Nat := 2 * ndig v + if ndig v < 40 then 1 else 0
theorem numSteps_length (F : Nat → Int) (D : Int) (v : Nat) : (numSteps F D v).length = ncost v := by
  unfold numSteps ncost
  rw [List.length_append, digSteps_length]
  split <;> simp

/-- What a decoder tells by a set. -/
def gnum (B : Nat → Bool) (nc : Nat) (F : Nat → Int) (D : Int) : Nat → Nat → Nat → DX → Nat × DX
  | 0, _, v, s => (v - 1, s)
  | f + 1, i, v, s =>
    if getB nc s (F i) then (v - 1, getX B nc s (F i))
    else gnum B nc F D f (i + 1) (2 * v + (getB nc (getX B nc s (F i)) D).toNat) (getX B nc (getX B nc s (F i)) D)

/-- A bit among bits that were put is told. -/
theorem told_at {B : Nat → Bool} {n : Nat} (pre post : List (Int × Bool)) (x : Int × Bool) (hx : ∀ y ∈ pre ++ x :: post, hasX n y.1 = true) (hf : Follows B (runC n (startC n) (pre ++ x :: post)).e) :
    getB n (decSt B (runC n (startC n) pre)) x.1 = x.2 ∧ getX B n (decSt B (runC n (startC n) pre)) x.1 = decSt B (runC n (startC n) (pre ++ [x])) := by
  have h := run_told (pre ++ x :: post) hx hf pre.length (by simp)
  have e1 : (pre ++ x :: post).take pre.length = pre := List.take_left
  have e2 : (pre ++ x :: post).take (pre.length + 1) = pre ++ [x] := by rw [List.take_append, List.take_of_length_le (by omega)]; simp
  have e3 : (pre ++ x :: post)[pre.length]'(by simp) = x := by simp
  rw [e1, e2, e3] at h
  exact h

theorem half_bit (N m : Nat) : 2 * (N / 2 ^ (m + 1)) + (N.testBit m).toNat = N / 2 ^ m := by
  rw [Nat.testBit_eq_decide_div_mod_eq, Nat.pow_succ, ← Nat.div_div_eq_div_mul]
  generalize N / 2 ^ m = q
  by_cases h : q % 2 = 1
  · simp [h]; omega
  · simp [h]; omega

/-- What is put is told. -/
theorem gnum_told {B : Nat → Bool} {nc : Nat} (F : Nat → Int) (D : Int) (v : Nat) (hv : ndig v ≤ 40) (pre post : List (Int × Bool)) (hx : ∀ y ∈ pre ++ numSteps F D v ++ post, hasX nc y.1 = true) (hf : Follows B (runC nc (startC nc) (pre ++ numSteps F D v ++ post)).e) :
    ∀ r i, i + r = ndig v → gnum B nc F D (40 - i) i ((v + 1) / 2 ^ (ndig v - i)) (decSt B (runC nc (startC nc) (pre ++ digSteps F D (v + 1) (ndig v) i))) = (v, decSt B (runC nc (startC nc) (pre ++ numSteps F D v)))
  | 0, i, hi => by
    obtain rfl : i = ndig v := by omega
    rw [Nat.sub_self, Nat.pow_zero, Nat.div_one]
    by_cases h40 : ndig v < 40
    · have en : numSteps F D v = digSteps F D (v + 1) (ndig v) (ndig v) ++ [(F (ndig v), true)] := by unfold numSteps; rw [if_pos h40]
      obtain ⟨f, hf40⟩ : ∃ f, 40 - ndig v = f + 1 := ⟨40 - ndig v - 1, by omega⟩
      have el : pre ++ numSteps F D v ++ post = (pre ++ digSteps F D (v + 1) (ndig v) (ndig v)) ++ (F (ndig v), true) :: post := by rw [en]; simp
      rw [el] at hx hf
      obtain ⟨h1, h2⟩ := told_at _ _ _ hx hf
      rw [hf40, gnum]
      simp only at h1 h2
      rw [h1, h2, if_pos rfl, en, List.append_assoc]
      rfl
    · have en : numSteps F D v = digSteps F D (v + 1) (ndig v) (ndig v) := by unfold numSteps; rw [if_neg h40]; simp
      rw [show 40 - ndig v = 0 by omega, gnum, en]
      rfl
  | r + 1, i, hi => by
    obtain ⟨f, hf40⟩ : ∃ f, 40 - i = f + 1 := ⟨40 - i - 1, by omega⟩
    obtain ⟨m, hm⟩ : ∃ m, ndig v - i = m + 1 := ⟨ndig v - i - 1, by omega⟩
    have hm2 : ndig v - 1 - i = m := by omega
    have hmem : ∃ rest, numSteps F D v = digSteps F D (v + 1) (ndig v) i ++ [(F i, false), (D, (v + 1).testBit m)] ++ rest := by
      have key : ∀ k, i + 1 ≤ k → ∃ rest, digSteps F D (v + 1) (ndig v) k = digSteps F D (v + 1) (ndig v) (i + 1) ++ rest := by
        intro k hk
        induction k with
        | zero => omega
        | succ k ih =>
          by_cases e : i + 1 = k + 1
          · exact ⟨[], by rw [e]; simp⟩
          · obtain ⟨rest, hr⟩ := ih (by omega)
            exact ⟨rest ++ [(F k, false), (D, (v + 1).testBit (ndig v - 1 - k))], by rw [digSteps_succ F D (v + 1) (ndig v) k, hr]; simp⟩
      obtain ⟨rest, hr⟩ := key (ndig v) (by omega)
      refine ⟨rest ++ if ndig v < 40 then [(F (ndig v), true)] else [], ?_⟩
      unfold numSteps
      rw [hr, digSteps_succ, hm2]
      simp
    obtain ⟨rest, hrest⟩ := hmem
    have el : pre ++ numSteps F D v ++ post = (pre ++ digSteps F D (v + 1) (ndig v) i) ++ (F i, false) :: ((D, (v + 1).testBit m) :: (rest ++ post)) := by rw [hrest]; simp
    have el2 : pre ++ numSteps F D v ++ post = (pre ++ digSteps F D (v + 1) (ndig v) i ++ [(F i, false)]) ++ (D, (v + 1).testBit m) :: (rest ++ post) := by rw [hrest]; simp
    obtain ⟨h1, h2⟩ := told_at (B := B) (n := nc) _ _ _ (by rw [← el]; exact hx) (by rw [← el]; exact hf)
    obtain ⟨h3, h4⟩ := told_at (B := B) (n := nc) _ _ _ (by rw [← el2]; exact hx) (by rw [← el2]; exact hf)
    simp only at h1 h2 h3 h4
    have ih := gnum_told F D v hv pre post hx hf r (i + 1) (by omega)
    rw [hf40, gnum, h1, h2, if_neg (by decide), h3, h4, hm, half_bit]
    rw [show 40 - (i + 1) = f by omega, show ndig v - (i + 1) = m by omega, digSteps_succ, hm2] at ih
    rw [← ih]
    simp

theorem gnum_back {B : Nat → Bool} {nc : Nat} (F : Nat → Int) (D : Int) (v : Nat) (hv : ndig v ≤ 40) (pre post : List (Int × Bool)) (hx : ∀ y ∈ pre ++ numSteps F D v ++ post, hasX nc y.1 = true) (hf : Follows B (runC nc (startC nc) (pre ++ numSteps F D v ++ post)).e) :
    gnum B nc F D 40 0 1 (decSt B (runC nc (startC nc) pre)) = (v, decSt B (runC nc (startC nc) (pre ++ numSteps F D v))) := by
  have h := gnum_told F D v hv pre post hx hf (ndig v) 0 (by omega)
  have hb := ndig_bounds v
  have e1 : (v + 1) / 2 ^ ndig v = 1 := by
    have h1 : 1 ≤ (v + 1) / 2 ^ ndig v := (Nat.le_div_iff_mul_le (Nat.two_pow_pos _)).2 (by omega)
    have h2 : (v + 1) / 2 ^ ndig v < 2 := (Nat.div_lt_iff_lt_mul (Nat.two_pow_pos _)).2 (by have := hb.2; rw [Nat.pow_succ] at this; omega)
    omega
  rw [Nat.sub_zero, Nat.sub_zero, e1] at h
  simpa [digSteps] using h
end Go.Proofs.Ythabklgeopdlhaa
