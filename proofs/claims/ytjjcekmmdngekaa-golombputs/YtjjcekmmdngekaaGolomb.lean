/-
  Plain facts on interleaved exp-Golomb codes: no program in sight.
-/
import Derived.Test.YtjjcekmmdngekaaBits
import Derived.Lib.BitFns
namespace Go.Proofs.Ytjjcekmmdngekaa

/-- A nought ahead of each bit. -/
def il (l : List Bool) : List Bool := l.flatMap fun b => [false, b]
theorem il_snoc (l : List Bool) (b : Bool) : il (l ++ [b]) = il l ++ [false, b] := by simp [il]
theorem il_length (l : List Bool) : (il l).length = 2 * l.length := by
  induction l with
  | nil => rfl
  | cons b l ih => simp [il] at *; omega

/-- How many pairs the code of v has. -/
def npairs (v : Nat) : Nat := Nat.log2 (v + 1)
theorem npairs_lo (v : Nat) : 2 ^ npairs v ≤ v + 1 := Nat.log2_self_le (by omega)
theorem npairs_hi (v : Nat) : v + 1 < 2 ^ (npairs v + 1) := Nat.lt_log2_self
theorem npairs_le (v : Nat) (h : v ≤ 4294967294) : npairs v ≤ 31 := by
  have h1 := npairs_lo v
  by_cases e : npairs v ≤ 31
  · exact e
  · have : 2 ^ 32 ≤ 2 ^ npairs v := Nat.pow_le_pow_right (by decide) (by omega)
    omega

theorem bitLen_npairs (v : Nat) (h : v < 2 ^ 63) : Lib.bitLen (v + 1) = npairs v + 1 := by
  have h1 := npairs_lo v
  have h2 := npairs_hi v
  rw [Lib.bitLen_shift (npairs v) (v + 1) h1 (by omega)]
  have : (v + 1) / 2 ^ npairs v = 1 := by
    rw [Nat.pow_succ] at h2
    have hp : 0 < 2 ^ npairs v := Nat.pow_pos (by decide)
    have a : 1 ≤ (v + 1) / 2 ^ npairs v := (Nat.le_div_iff_mul_le hp).2 (by omega)
    have b : (v + 1) / 2 ^ npairs v < 2 := (Nat.div_lt_iff_lt_mul hp).2 (by omega)
    omega
  rw [this]
  rfl

/-- The code of v. -/
def gcode (v : Nat) : List Bool := il (bitsOf (v + 1) (npairs v)) ++ [true]
theorem gcode_length (v : Nat) : (gcode v).length = 2 * npairs v + 1 := by simp [gcode, il_length, bitsOf_length]

/-- The code with a sign. -/
def gsigned (z : Int) : List Bool := if z = 0 then gcode 0 else gcode z.natAbs ++ [decide (z < 0)]
theorem gsigned_length_le (z : Int) (h : -4294967294 ≤ z) (h2 : z ≤ 4294967294) : (gsigned z).length ≤ 64 := by
  have := npairs_le z.natAbs (by omega)
  unfold gsigned
  split
  · rw [gcode_length]; have : npairs 0 = 0 := by decide
    omega
  · simp [gcode_length]; omega

/-- What is read from place pos on: k pairs may come; x is what has been read. The number, whether there was an end, the place behind. -/
def gget (f : Nat → Bool) : Nat → Nat → Nat → Nat × Bool × Nat
  | 0, x, pos => if f pos then (x - 1, true, pos + 1) else (0, false, pos + 1)
  | k + 1, x, pos => if f pos then (x - 1, true, pos + 1) else gget f k (2 * x + (f (pos + 1)).toNat) (pos + 2)

theorem gget_bound (f : Nat → Bool) (k : Nat) : ∀ x pos, 1 ≤ x → (gget f k x pos).1 + 2 ≤ (x + 1) * 2 ^ k ∧ pos < (gget f k x pos).2.2 ∧ (gget f k x pos).2.2 ≤ pos + 2 * k + 1 ∧ ((gget f k x pos).2.1 = false → (gget f k x pos).1 = 0) := by
  induction k with
  | zero => intro x pos hx; unfold gget; split <;> simp <;> omega
  | succ k ih =>
    intro x pos hx
    unfold gget
    have hp : 0 < 2 ^ k := Nat.pow_pos (by decide)
    split
    · refine ⟨?_, by simp, by simp, by simp⟩
      rw [Nat.pow_succ]
      have : (x + 1) * 1 ≤ (x + 1) * (2 ^ k * 2) := Nat.mul_le_mul_left _ (by omega)
      simp only []
      omega
    · obtain ⟨a, b, c, d⟩ := ih (2 * x + (f (pos + 1)).toNat) (pos + 2) (by omega)
      refine ⟨?_, by omega, by omega, d⟩
      refine Nat.le_trans a ?_
      rw [Nat.pow_succ, Nat.mul_comm (2 ^ k) 2, ← Nat.mul_assoc]
      refine Nat.mul_le_mul_right _ ?_
      cases f (pos + 1) <;> simp <;> omega

theorem gget_congr {f g : Nat → Bool} (h : ∀ p, f p = g p) (k : Nat) : ∀ x pos, gget f k x pos = gget g k x pos := by
  have : f = g := funext h
  subst this
  intro x pos; rfl

theorem gget_il (f : Nat → Bool) (l : List Bool) : ∀ (k x pos : Nat), l.length ≤ k → (∀ j, j < (il l ++ [true]).length → f (pos + j) = (il l ++ [true]).getD j false) →
    gget f k x pos = (l.foldl (fun a b => 2 * a + b.toNat) x - 1, true, pos + 2 * l.length + 1) := by
  induction l with
  | nil =>
    intro k x pos _ h
    have h0 : f pos = true := by simpa [il] using h 0 (by simp)
    cases k <;> simp [gget, h0]
  | cons b l ih =>
    intro k x pos hk h
    obtain ⟨k, rfl⟩ : ∃ m, k = m + 1 := ⟨k - 1, by simp at hk; omega⟩
    have e : il (b :: l) = false :: b :: il l := by simp [il]
    rw [e] at h
    have h0 : f pos = false := by simpa using h 0 (by simp)
    have h1 : f (pos + 1) = b := by simpa using h 1 (by simp)
    rw [gget, h0, h1]
    simp only [Bool.false_eq_true, if_false, List.foldl_cons, List.length_cons]
    rw [ih k (2 * x + b.toNat) (pos + 2) (by simp at hk; omega)]
    · congr 2; omega
    · intro j hj
      have := h (j + 2) (by simp at hj ⊢; omega)
      rw [show pos + 2 + j = pos + (j + 2) by omega, this]
      simp

theorem fold_pow (l : List Bool) : ∀ a, l.foldl (fun a b => 2 * a + b.toNat) a = a * 2 ^ l.length + valOf l := by
  induction l with
  | nil => intro a; simp [valOf]
  | cons b l ih =>
    intro a
    unfold valOf
    rw [List.foldl_cons, ih, List.foldl_cons, ih, List.length_cons, Nat.pow_succ]
    rw [Nat.add_mul, Nat.add_mul, Nat.mul_zero, Nat.zero_mul, Nat.zero_add, ← Nat.add_assoc, Nat.mul_comm 2 a, Nat.mul_assoc, Nat.mul_comm 2 (2 ^ l.length)]

/-- What is written is read. -/
theorem gget_code (f : Nat → Bool) (v pos : Nat) (hv : v ≤ 4294967294) (h : ∀ j, j < (gcode v).length → f (pos + j) = (gcode v).getD j false) :
    gget f 31 1 pos = (v, true, pos + (gcode v).length) := by
  rw [gget_il f (bitsOf (v + 1) (npairs v)) 31 1 pos (by rw [bitsOf_length]; exact npairs_le v hv) h, fold_pow, valOf_bitsOf, bitsOf_length, gcode_length, Nat.one_mul]
  have h1 := npairs_lo v
  have h2 := npairs_hi v
  rw [Nat.pow_succ] at h2
  have e : (v + 1) % 2 ^ npairs v = v + 1 - 2 ^ npairs v := by
    rw [Nat.mod_eq_sub_mod h1, Nat.mod_eq_of_lt (by omega)]
  rw [e]
  congr 1
  omega

/-- Nothing but noughts is no number. -/
theorem gget_nought (f : Nat → Bool) (k : Nat) : ∀ x pos, (∀ p, pos ≤ p → f p = false) → gget f k x pos = (0, false, pos + 2 * k + 1) := by
  induction k with
  | zero => intro x pos h; simp [gget, h pos (Nat.le_refl _)]
  | succ k ih =>
    intro x pos h
    rw [gget, h pos (Nat.le_refl _)]
    simp only [Bool.false_eq_true, if_false]
    rw [ih _ _ (fun p hp => h p (by omega))]
    congr 2; omega

/-- With a sign. -/
def sget (f : Nat → Bool) (pos : Nat) : Int × Bool × Nat :=
  if (gget f 31 1 pos).1 = 0 then (0, (gget f 31 1 pos).2.1, (gget f 31 1 pos).2.2)
  else ((if f (gget f 31 1 pos).2.2 then -((gget f 31 1 pos).1 : Int) else ((gget f 31 1 pos).1 : Int)), (gget f 31 1 pos).2.1, (gget f 31 1 pos).2.2 + 1)

theorem sget_bound (f : Nat → Bool) (pos : Nat) : -4294967294 ≤ (sget f pos).1 ∧ (sget f pos).1 ≤ 4294967294 ∧ pos < (sget f pos).2.2 ∧ (sget f pos).2.2 ≤ pos + 64 := by
  have h := gget_bound f 31 1 pos (Nat.le_refl 1)
  unfold sget
  split
  · simp; omega
  · split <;> (refine ⟨?_, ?_, ?_, ?_⟩ <;> simp only [] <;> omega)

theorem sget_zero {f : Nat → Bool} {pos e : Nat} {ok : Bool} (hg : gget f 31 1 pos = (0, ok, e)) : sget f pos = (0, ok, e) := by
  unfold sget; rw [hg]; rfl
theorem sget_pos {f : Nat → Bool} {pos v e : Nat} {ok : Bool} (hg : gget f 31 1 pos = (v, ok, e)) (hv : v ≠ 0) : sget f pos = ((if f e then -(v : Int) else (v : Int)), ok, e + 1) := by
  unfold sget; rw [hg]; exact if_neg hv

theorem sget_congr {f g : Nat → Bool} (h : ∀ p, f p = g p) (pos : Nat) : sget f pos = sget g pos := by
  have : f = g := funext h
  subst this; rfl

/-- What is written with a sign is read. -/
theorem sget_code (f : Nat → Bool) (z : Int) (pos : Nat) (h1 : -4294967294 ≤ z) (h2 : z ≤ 4294967294) (h : ∀ j, j < (gsigned z).length → f (pos + j) = (gsigned z).getD j false) :
    sget f pos = (z, true, pos + (gsigned z).length) := by
  by_cases hz : z = 0
  · subst hz
    have e : gsigned 0 = gcode 0 := by simp [gsigned]
    rw [e] at h ⊢
    have := gget_code f 0 pos (by omega) h
    simp [sget, this]
  · have e : gsigned z = gcode z.natAbs ++ [decide (z < 0)] := by simp [gsigned, hz]
    rw [e] at h ⊢
    have hg := gget_code f z.natAbs pos (by omega) (fun j hj => by
      rw [h j (by simp; omega)]
      simp [List.getD, List.getElem?_append_left hj])
    have hs : f (pos + (gcode z.natAbs).length) = decide (z < 0) := by
      rw [h (gcode z.natAbs).length (by simp)]
      simp [List.getD]
    have hne : ¬ z.natAbs = 0 := by omega
    unfold sget
    rw [hg]
    simp only [hne, if_false, hs]
    refine Prod.ext ?_ (Prod.ext rfl ?_)
    · simp only [decide_eq_true_eq]
      split <;> omega
    · simp; omega

/-- Which numbers have a code. -/
def hasC (z : Int) : Bool := decide (0 ≤ z ∧ z ≤ 4294967294)
def hasS (z : Int) : Bool := decide (-4294967294 ≤ z ∧ z ≤ 4294967294)
theorem hasC_true {z : Int} (h : hasC z = true) : 0 ≤ z ∧ z ≤ 4294967294 := of_decide_eq_true h
theorem hasC_false {z : Int} (h : hasC z = false) : ¬ (0 ≤ z ∧ z ≤ 4294967294) := of_decide_eq_false h
theorem hasS_true {z : Int} (h : hasS z = true) : -4294967294 ≤ z ∧ z ≤ 4294967294 := of_decide_eq_true h
theorem hasS_false {z : Int} (h : hasS z = false) : ¬ (-4294967294 ≤ z ∧ z ≤ 4294967294) := of_decide_eq_false h
/-- The bits that are put. -/
def codeC (z : Int) : List Bool := if hasC z then gcode z.toNat else []
def codeS (z : Int) : List Bool := if hasS z then gsigned z else []
/-- A number without its sign; the least one stays. -/
def uns (z : Int) : Int := if z = -9223372036854775808 then z else (z.natAbs : Int)
theorem hasC_uns (z : Int) (_h : -9223372036854775808 ≤ z) (_h2 : z ≤ 9223372036854775807) : hasC (uns z) = hasS z := by
  unfold hasC hasS uns
  by_cases e : z = -9223372036854775808
  · rw [if_pos e]; exact decide_eq_decide.2 (by omega)
  · rw [if_neg e]; exact decide_eq_decide.2 (by omega)
theorem uns_of (z : Int) (h : hasS z = true) : uns z = (z.natAbs : Int) := by
  have := hasS_true h
  unfold uns; rw [if_neg (by omega)]
theorem codeC_len (z : Int) : (codeC z).length ≤ 64 := by
  unfold codeC
  cases h : hasC z with
  | true =>
    have := npairs_le z.toNat (by have := hasC_true h; omega)
    simp [gcode_length]; omega
  | false => simp
theorem codeS_len (z : Int) : (codeS z).length ≤ 64 := by
  unfold codeS
  cases h : hasS z with
  | true => simpa using gsigned_length_le z (hasS_true h).1 (hasS_true h).2
  | false => simp
theorem gcode_ne (v : Nat) : gcode v ≠ [] := by simp [gcode]
theorem gsigned_ne (z : Int) : gsigned z ≠ [] := by unfold gsigned; split <;> simp [gcode]
end Go.Proofs.Ytjjcekmmdngekaa
