/-
  Layer 6 by plain functions: which numbers are coded, which sets are right, what a coder does by a set: no program in sight.
-/
import Derived.Test.YthabklgeopdlhaaBins
namespace Go.Proofs.Ythabklgeopdlhaa

/-- Which numbers are coded. -/
def okN (v : Int) : Bool := decide (0 ≤ v ∧ v ≤ 2199023255550)
theorem okN_true {v : Int} (h : okN v = true) : 0 ≤ v ∧ v ≤ 2199023255550 := by simpa [okN] using h
theorem okN_false {v : Int} (h : okN v = false) : ¬ (0 ≤ v ∧ v ≤ 2199023255550) := by simpa [okN] using h
/-- Without the sign; the least number stays. -/
def unsN (z : Int) : Int := if z < 0 then (if z = -9223372036854775808 then z else -z) else z
/-- The context that tells, behind so many digits, whether there is one more. -/
def fol (V : Nat → Int) (n : Nat) (i : Nat) : Int := V (min i (n - 1))
/-- Is a set right for a coder of c contexts? -/
def rightS (V : Nat → Int) (n : Nat) (D S : Int) (c : Nat) : Bool := decide (0 < n ∧ (0 ≤ D ∧ D < (c : Int)) ∧ (0 ≤ S ∧ S < (c : Int)) ∧ ∀ i, i < n → 0 ≤ V i ∧ V i < (c : Int))
theorem rightS_true {V : Nat → Int} {n : Nat} {D S : Int} {c : Nat} (h : rightS V n D S c = true) : 0 < n ∧ (0 ≤ D ∧ D < (c : Int)) ∧ (0 ≤ S ∧ S < (c : Int)) ∧ ∀ i, i < n → 0 ≤ V i ∧ V i < (c : Int) := of_decide_eq_true h
theorem rightS_zero {V : Nat → Int} {D S : Int} {c : Nat} : rightS V 0 D S c = false := by simp [rightS]
theorem rightS_ctx {V : Nat → Int} {n : Nat} {D S : Int} : rightS V n D S 0 = false := by
  unfold rightS
  rw [decide_eq_false_iff_not]
  rintro ⟨_, h, _⟩
  omega
theorem has_of {c : Nat} {x : Int} (h0 : 0 ≤ x) (h1 : x < (c : Int)) : hasX c x = true := by
  unfold hasX
  rw [decide_eq_true h0, decide_eq_true h1]
  rfl
theorem rightS_fol {V : Nat → Int} {n : Nat} {D S : Int} {c : Nat} (h : rightS V n D S c = true) (i : Nat) : hasX c (fol V n i) = true := by
  obtain ⟨h0, _, _, h3⟩ := rightS_true h
  obtain ⟨a, b⟩ := h3 (min i (n - 1)) (by omega)
  exact has_of a b
theorem rightS_data {V : Nat → Int} {n : Nat} {D S : Int} {c : Nat} (h : rightS V n D S c = true) : hasX c D = true := has_of (rightS_true h).2.1.1 (rightS_true h).2.1.2
theorem rightS_sign {V : Nat → Int} {n : Nat} {D S : Int} {c : Nat} (h : rightS V n D S c = true) : hasX c S = true := has_of (rightS_true h).2.2.1.1 (rightS_true h).2.2.1.2

theorem digSteps_has {F : Nat → Int} {D : Int} {N m c : Nat} (hF : ∀ i, hasX c (F i) = true) (hD : hasX c D = true) : ∀ i, ∀ y ∈ digSteps F D N m i, hasX c y.1 = true
  | 0 => by simp [digSteps]
  | i + 1 => by
    intro y hy
    rw [digSteps_succ] at hy
    rcases List.mem_append.1 hy with hy | hy
    · exact digSteps_has hF hD i y hy
    · simp at hy
      rcases hy with rfl | rfl
      · exact hF i
      · exact hD
theorem numSteps_has {F : Nat → Int} {D : Int} {c : Nat} (hF : ∀ i, hasX c (F i) = true) (hD : hasX c D = true) (v : Nat) : ∀ y ∈ numSteps F D v, hasX c y.1 = true := by
  intro y hy
  unfold numSteps at hy
  rcases List.mem_append.1 hy with hy | hy
  · exact digSteps_has hF hD _ y hy
  · split at hy
    · simp at hy; subst hy; exact hF _
    · cases hy

/-- A number with its sign. -/
def sgnSteps (F : Nat → Int) (D S : Int) (v : Int) : List (Int × Bool) := numSteps F D v.natAbs ++ if v = 0 then [] else [(S, decide (v < 0))]
theorem sgnSteps_length (F : Nat → Int) (D S : Int) (v : Int) : (sgnSteps F D S v).length = ncost v.natAbs + if v = 0 then 0 else 1 := by
  unfold sgnSteps
  rw [List.length_append, numSteps_length]
  split <;> rfl
theorem sgnSteps_has {F : Nat → Int} {D S : Int} {c : Nat} (hF : ∀ i, hasX c (F i) = true) (hD : hasX c D = true) (hS : hasX c S = true) (v : Int) : ∀ y ∈ sgnSteps F D S v, hasX c y.1 = true := by
  intro y hy
  unfold sgnSteps at hy
  rcases List.mem_append.1 hy with hy | hy
  · exact numSteps_has hF hD _ y hy
  · split at hy
    · cases hy
    · simp at hy; subst hy; exact hS
theorem ncost_le (v : Nat) (h : v ≤ 2199023255550) : ncost v ≤ 80 := by
  have := ndig_le v h
  unfold ncost
  split <;> omega
theorem unsN_ok {z : Int} (h : okN (unsN z) = true) : unsN z = (z.natAbs : Int) ∧ z.natAbs ≤ 2199023255550 ∧ z ≠ -9223372036854775808 := by
  have := okN_true h
  unfold unsN at *
  split at this <;> rename_i h1
  · split at this <;> rename_i h2
    · omega
    · rw [if_pos h1, if_neg h2]; omega
  · rw [if_neg h1]; omega

/-- What Put does, by a set. -/
def putN (V : Nat → Int) (n : Nat) (D S : Int) (c : Nat) (s : CS) (v : Int) : CS := if okN v && rightS V n D S c then runC c s (numSteps (fol V n) D v.toNat) else s
/-- With a sign. -/
def putG (V : Nat → Int) (n : Nat) (D S : Int) (c : Nat) (s : CS) (v : Int) : CS := if okN (unsN v) && rightS V n D S c then runC c s (sgnSteps (fol V n) D S v) else s

theorem runC_append (n : Nat) (s : CS) (l m : List (Int × Bool)) : runC n s (l ++ m) = runC n (runC n s l) m := by simp [runC]
theorem putN_good {V : Nat → Int} {n : Nat} {D S : Int} {c : Nat} {s : CS} (h : Good c s) (v : Int) : Good c (putN V n D S c s v) := by
  unfold putN
  split
  · exact runC_good c _ _ h
  · exact h
theorem putG_good {V : Nat → Int} {n : Nat} {D S : Int} {c : Nat} {s : CS} (h : Good c s) (v : Int) : Good c (putG V n D S c s v) := by
  unfold putG
  split
  · exact runC_good c _ _ h
  · exact h
theorem putN_N {V : Nat → Int} {n : Nat} {D S : Int} {c : Nat} (s : CS) (v : Int) : (putN V n D S c s v).N ≤ s.N + 81 := by
  unfold putN
  split
  · rename_i h
    simp only [Bool.and_eq_true] at h
    have := okN_true h.1
    have h1 := runC_N c (numSteps (fol V n) D v.toNat) s
    have h2 := ncost_le v.toNat (by omega)
    rw [numSteps_length] at h1
    omega
  · omega
theorem putG_N {V : Nat → Int} {n : Nat} {D S : Int} {c : Nat} (s : CS) (v : Int) : (putG V n D S c s v).N ≤ s.N + 81 := by
  unfold putG
  split
  · rename_i h
    simp only [Bool.and_eq_true] at h
    have := unsN_ok h.1
    have h1 := runC_N c (sgnSteps (fol V n) D S v) s
    have h2 := ncost_le v.natAbs (by omega)
    rw [sgnSteps_length] at h1
    split at h1 <;> omega
  · omega
theorem putG_eq (V : Nat → Int) (n : Nat) (D S : Int) (c : Nat) (s : CS) (v : Int) : putG V n D S c s v = if okN (unsN v) && rightS V n D S c then (if v = 0 then putN V n D S c s (unsN v) else putX c (putN V n D S c s (unsN v)) S (decide (v < 0))) else s := by
  unfold putG
  cases h : okN (unsN v) && rightS V n D S c with
  | false => rfl
  | true =>
    rw [if_pos rfl, if_pos rfl]
    have h' := h
    simp only [Bool.and_eq_true] at h'
    obtain ⟨e1, _, _⟩ := unsN_ok h'.1
    unfold putN
    rw [h, if_pos rfl]
    rw [e1, Int.toNat_natCast]
    unfold sgnSteps
    split
    · simp
    · rw [runC_snoc]

/-- What Get does, by a set. -/
def getN (B : Nat → Bool) (V : Nat → Int) (n : Nat) (D S : Int) (c : Nat) (s : DX) : Nat × DX := if rightS V n D S c then gnum B c (fol V n) D 40 0 1 s else (0, s)
/-- With a sign. -/
def getG (B : Nat → Bool) (V : Nat → Int) (n : Nat) (D S : Int) (c : Nat) (s : DX) : Int × DX :=
  let r := getN B V n D S c s
  if r.1 = 0 then (0, r.2) else (if getB c r.2 S then -(r.1 : Int) else (r.1 : Int), getX B c r.2 S)

theorem gnum_good {B : Nat → Bool} {c : Nat} {F : Nat → Int} {D : Int} : ∀ (f i v : Nat) (s : DX), DGood c s → DGood c (gnum B c F D f i v s).2
  | 0, _, _, _, h => h
  | f + 1, i, v, s, h => by
    rw [gnum]
    split
    · exact h.get _
    · exact gnum_good f (i + 1) _ _ ((h.get _).get _)
theorem dgetX_N (B : Nat → Bool) (n : Nat) (s : DX) (c : Int) : (getX B n s c).N ≤ s.N + 1 := by unfold getX; split <;> simp
theorem gnum_N {B : Nat → Bool} {c : Nat} {F : Nat → Int} {D : Int} : ∀ (f i v : Nat) (s : DX), (gnum B c F D f i v s).2.N ≤ s.N + 2 * f
  | 0, _, _, _ => Nat.le_refl _
  | f + 1, i, v, s => by
    rw [gnum]
    have h1 := dgetX_N B c s (F i)
    split
    · simp only; omega
    · have h2 := dgetX_N B c (getX B c s (F i)) D
      have h3 := gnum_N (B := B) (c := c) (F := F) (D := D) f (i + 1) (2 * v + (getB c (getX B c s (F i)) D).toNat) (getX B c (getX B c s (F i)) D)
      omega
theorem gnum_val {B : Nat → Bool} {c : Nat} {F : Nat → Int} {D : Int} : ∀ (f i v : Nat) (s : DX), v < 2 ^ (i + 1) → (gnum B c F D f i v s).1 < 2 ^ (i + f + 1)
  | 0, i, v, s, h => by rw [gnum, Nat.add_zero]; simp only; omega
  | f + 1, i, v, s, h => by
    rw [gnum]
    split
    · have : 2 ^ (i + 1) ≤ 2 ^ (i + (f + 1) + 1) := Nat.pow_le_pow_right (by omega) (by omega)
      simp only; omega
    · have := gnum_val (B := B) (c := c) (F := F) (D := D) f (i + 1) (2 * v + (getB c (getX B c s (F i)) D).toNat) (getX B c (getX B c s (F i)) D) (by
        rw [Nat.pow_succ]
        cases getB c (getX B c s (F i)) D <;> simp <;> omega)
      rw [show i + (f + 1) + 1 = i + 1 + f + 1 by omega]
      exact this
theorem getN_good {B : Nat → Bool} {V : Nat → Int} {n : Nat} {D S : Int} {c : Nat} {s : DX} (h : DGood c s) : DGood c (getN B V n D S c s).2 := by
  unfold getN
  split
  · exact gnum_good _ _ _ _ h
  · exact h
theorem getN_N {B : Nat → Bool} {V : Nat → Int} {n : Nat} {D S : Int} {c : Nat} (s : DX) : (getN B V n D S c s).2.N ≤ s.N + 80 := by
  unfold getN
  split
  · exact gnum_N 40 0 1 s
  · simp
theorem getN_val {B : Nat → Bool} {V : Nat → Int} {n : Nat} {D S : Int} {c : Nat} (s : DX) : (getN B V n D S c s).1 < 2199023255552 := by
  unfold getN
  split
  · exact gnum_val 40 0 1 s (by decide)
  · show 0 < 2199023255552; decide
theorem getG_good {B : Nat → Bool} {V : Nat → Int} {n : Nat} {D S : Int} {c : Nat} {s : DX} (h : DGood c s) : DGood c (getG B V n D S c s).2 := by
  unfold getG
  simp only
  split
  · exact getN_good h
  · exact (getN_good h).get _
theorem getG_N {B : Nat → Bool} {V : Nat → Int} {n : Nat} {D S : Int} {c : Nat} (s : DX) : (getG B V n D S c s).2.N ≤ s.N + 81 := by
  have h1 := getN_N (B := B) (V := V) (n := n) (D := D) (S := S) (c := c) s
  have h2 := dgetX_N B c (getN B V n D S c s).2 S
  unfold getG
  simp only
  split
  · simp only; omega
  · simp only; omega

/-- What is put, with a sign, is told. -/
theorem getG_back {B : Nat → Bool} {V : Nat → Int} {n : Nat} {D S : Int} {c : Nat} (hr : rightS V n D S c = true) (v : Int) (hv : v.natAbs ≤ 2199023255550) (pre post : List (Int × Bool)) (hx : ∀ y ∈ pre ++ sgnSteps (fol V n) D S v ++ post, hasX c y.1 = true) (hf : Follows B (runC c (startC c) (pre ++ sgnSteps (fol V n) D S v ++ post)).e) :
    getG B V n D S c (decSt B (runC c (startC c) pre)) = (v, decSt B (runC c (startC c) (pre ++ sgnSteps (fol V n) D S v))) := by
  unfold sgnSteps at hx hf ⊢
  have hgn : getN B V n D S c (decSt B (runC c (startC c) pre)) = (v.natAbs, decSt B (runC c (startC c) (pre ++ numSteps (fol V n) D v.natAbs))) := by
    unfold getN
    rw [if_pos hr]
    refine gnum_back (fol V n) D v.natAbs (ndig_le _ hv) pre ((if v = 0 then [] else [(S, decide (v < 0))]) ++ post) ?_ ?_
    · intro y hy; exact hx y (by simpa [List.append_assoc] using hy)
    · rw [show pre ++ numSteps (fol V n) D v.natAbs ++ ((if v = 0 then [] else [(S, decide (v < 0))]) ++ post) = pre ++ (numSteps (fol V n) D v.natAbs ++ if v = 0 then [] else [(S, decide (v < 0))]) ++ post by simp [List.append_assoc]]
      exact hf
  unfold getG
  rw [hgn]
  simp only
  by_cases h0 : v = 0
  · subst h0
    simp
  · have h1 : ¬ v.natAbs = 0 := by omega
    rw [if_neg h1, if_neg h0]
    rw [if_neg h0] at hx hf
    have el : pre ++ (numSteps (fol V n) D v.natAbs ++ [(S, decide (v < 0))]) ++ post = (pre ++ numSteps (fol V n) D v.natAbs) ++ (S, decide (v < 0)) :: post := by simp
    rw [el] at hx hf
    obtain ⟨t1, t2⟩ := told_at _ _ _ hx hf
    simp only at t1 t2
    rw [t1, t2, List.append_assoc]
    by_cases hn : v < 0
    · simp [hn]; omega
    · simp [hn]; omega

/-- Greater numbers need no fewer bits. -/
theorem ndig_mono {a b : Nat} (h : a ≤ b) : ndig a ≤ ndig b := by
  unfold ndig
  by_cases h1 : ndig b + 1 ≤ ndig a
  · exfalso
    have h2 := (ndig_bounds a).1
    have h3 := (ndig_bounds b).2
    have h4 : 2 ^ (ndig b + 1) ≤ 2 ^ ndig a := Nat.pow_le_pow_right (by omega) h1
    omega
  · unfold ndig at h1; omega
theorem ncost_half (v : Nat) (h : v ≤ 2199023255550) : ncost (v / 2) ≤ ncost v := by
  have h1 := ndig_mono (show v / 2 ≤ v by omega)
  have h2 := ndig_le v h
  unfold ncost
  by_cases e : ndig (v / 2) = ndig v
  · rw [e]; omega
  · split <;> split <;> omega
end Go.Proofs.Ythabklgeopdlhaa
