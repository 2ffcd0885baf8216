/-
  Plain facts on bits and bytes: no program in sight.
-/
import Derived.WalkKit
namespace Go.Proofs.Ytkndnibmgohcaaa

/-- The bit at place p of bytes, the greatest of each byte first. -/
def bitAt (zs : List Nat) (p : Nat) : Bool := (zs.getD (p / 8) 0).testBit (7 - p % 8)

/-- Bytes as the cells of a row. -/
def rowOf (zs : List Nat) : List Value := zs.map fun (z : Nat) => Value.int .u8 (z : Int)

theorem rowOf_length (zs : List Nat) : (rowOf zs).length = zs.length := by simp [rowOf]
theorem rowOf_snoc (zs : List Nat) (z : Nat) : rowOf (zs ++ [z]) = rowOf zs ++ [Value.int .u8 (z : Int)] := by simp [rowOf]
theorem rowOf_get (zs : List Nat) (i : Nat) (h : i < zs.length) : (rowOf zs)[i]? = some (Value.int .u8 ((zs.getD i 0 : Nat) : Int)) := by simp [rowOf, h, List.getD]
theorem rowOf_set (zs : List Nat) (i z : Nat) : (rowOf zs).set i (.int .u8 (z : Int)) = rowOf (zs.set i z) := by simp [rowOf, List.map_set]

/-- The bytes zs hold the bits s, noughts behind. -/
structure Packs (zs : List Nat) (s : List Bool) : Prop where
  small : ∀ z ∈ zs, z < 256
  len : zs.length = (s.length + 7) / 8
  bit : ∀ p, bitAt zs p = s.getD p false

theorem Packs.nil : Packs [] [] := ⟨by simp, rfl, by simp [bitAt]⟩

theorem bitAt_snoc0 (zs : List Nat) (p : Nat) : bitAt (zs ++ [0]) p = bitAt zs p := by
  unfold bitAt
  by_cases h : p / 8 < zs.length
  · simp [List.getD, List.getElem?_append_left h]
  · by_cases h2 : p / 8 = zs.length
    · simp [List.getD, h2]
    · have : zs.length + 1 ≤ p / 8 := by omega
      simp [List.getD, List.getElem?_eq_none (show (zs ++ [0]).length ≤ p / 8 by simpa using this), List.getElem?_eq_none (show zs.length ≤ p / 8 by omega)]

theorem snoc_getD (s : List Bool) (b : Bool) (p : Nat) : (s ++ [b]).getD p false = if p = s.length then b else s.getD p false := by
  by_cases h : p < s.length
  · simp [List.getD, List.getElem?_append_left h, Nat.ne_of_lt h]
  · by_cases h2 : p = s.length
    · simp [List.getD, h2]
    · simp [List.getD, List.getElem?_eq_none (show (s ++ [b]).length ≤ p by simp; omega), List.getElem?_eq_none (show s.length ≤ p by omega), h2]

theorem bitAt_set_or (zs : List Nat) (i k p : Nat) (hi : i < zs.length) (hk : k < 8) :
    bitAt (zs.set i (zs.getD i 0 ||| 2 ^ (7 - k))) p = if p = 8 * i + k then true else bitAt zs p := by
  unfold bitAt
  by_cases h : p / 8 = i
  · subst h
    simp only [List.getD, List.getElem?_set_self hi, Option.getD_some, Nat.testBit_or, Nat.testBit_two_pow]
    by_cases h3 : p = 8 * (p / 8) + k
    · have e1 : p % 8 = k := by omega
      rw [if_pos h3, e1]; simp
    · have : ¬ (7 - k = 7 - p % 8) := by omega
      rw [if_neg h3]
      simp [this]
  · have h3 : ¬ p = 8 * i + k := by omega
    rw [if_neg h3]
    simp [List.getD, List.getElem?_set_ne (fun e => h e.symm)]

/-- A further bit, where the last byte has room. -/
theorem Packs.bit_in {zs : List Nat} {s : List Bool} (h : Packs zs s) (b : Bool) (hr : s.length % 8 ≠ 0) :
    Packs (if b then zs.set (s.length / 8) (zs.getD (s.length / 8) 0 ||| 2 ^ (7 - s.length % 8)) else zs) (s ++ [b]) := by
  have hl := h.len
  have hi : s.length / 8 < zs.length := by omega
  cases b with
  | false =>
    refine ⟨h.small, by simp; omega, fun p => ?_⟩
    rw [snoc_getD, if_neg (by decide), h.bit p]
    by_cases e : p = s.length
    · subst e; simp [List.getD]
    · rw [if_neg e]
  | true =>
    refine ⟨?_, by simp; omega, fun p => ?_⟩
    · intro z hz
      rw [if_pos rfl] at hz
      rcases List.mem_or_eq_of_mem_set hz with hz | rfl
      · exact h.small z hz
      · have h1 : zs.getD (s.length / 8) 0 < 2 ^ 8 := by
          simpa [List.getD, hi] using h.small _ (List.getElem_mem hi)
        have h2 : 2 ^ (7 - s.length % 8) < 2 ^ 8 := Nat.pow_lt_pow_right (by decide) (by omega)
        exact Nat.or_lt_two_pow h1 h2
    · rw [if_pos rfl, bitAt_set_or zs _ _ p hi (by omega), snoc_getD, h.bit p]
      have : 8 * (s.length / 8) + s.length % 8 = s.length := by omega
      rw [this]

/-- A further byte of noughts, where the last one is full. -/
theorem Packs.room {zs : List Nat} {s : List Bool} (h : Packs zs s) (b : Bool) (hr : s.length % 8 = 0) :
    Packs (if b then (zs ++ [0]).set (s.length / 8) ((zs ++ [0]).getD (s.length / 8) 0 ||| 2 ^ (7 - s.length % 8)) else zs ++ [0]) (s ++ [b]) := by
  have hl := h.len
  have hi : s.length / 8 = zs.length := by omega
  have hi' : s.length / 8 < (zs ++ [0]).length := by simp; omega
  cases b with
  | false =>
    refine ⟨?_, by simp; omega, fun p => ?_⟩
    · intro z hz
      simp at hz
      rcases hz with hz | rfl
      · exact h.small z hz
      · decide
    rw [snoc_getD, if_neg (by decide), bitAt_snoc0, h.bit p]
    by_cases e : p = s.length
    · subst e; simp [List.getD]
    · rw [if_neg e]
  | true =>
    refine ⟨?_, by simp; omega, fun p => ?_⟩
    · intro z hz
      rw [if_pos rfl] at hz
      rcases List.mem_or_eq_of_mem_set hz with hz | rfl
      · simp at hz
        rcases hz with hz | rfl
        · exact h.small z hz
        · decide
      · have h1 : (zs ++ [0]).getD (s.length / 8) 0 < 2 ^ 8 := by simp [List.getD, hi]
        have h2 : 2 ^ (7 - s.length % 8) < 2 ^ 8 := Nat.pow_lt_pow_right (by decide) (by omega)
        exact Nat.or_lt_two_pow h1 h2
    · rw [if_pos rfl, bitAt_set_or _ _ _ p hi' (by omega), snoc_getD, bitAt_snoc0, h.bit p]
      have : 8 * (s.length / 8) + s.length % 8 = s.length := by omega
      rw [this]

/-- The lowest n bits of v, the greatest first. -/
def bitsOf (v n : Nat) : List Bool := (List.range n).map fun j => v.testBit (n - 1 - j)
theorem bitsOf_length (v n : Nat) : (bitsOf v n).length = n := by simp [bitsOf]
theorem bitsOf_take_succ (v n j : Nat) (h : j < n) : (bitsOf v n).take (j + 1) = (bitsOf v n).take j ++ [v.testBit (n - 1 - j)] := by
  rw [List.take_succ_eq_append_getElem (by simpa [bitsOf] using h)]
  simp [bitsOf]

/-- How many noughts fill a byte. -/
def gap (n : Nat) : Nat := (8 - n % 8) % 8
theorem gap_add (n : Nat) : n + gap n = 8 * ((n + 7) / 8) := by unfold gap; omega

theorem Packs.align {zs : List Nat} {s : List Bool} (h : Packs zs s) : Packs zs (s ++ List.replicate (gap s.length) false) := by
  have hl := h.len
  have hg := gap_add s.length
  refine ⟨h.small, by simp [hl]; omega, fun p => ?_⟩
  rw [h.bit p]
  by_cases hp : p < s.length
  · simp [List.getD, List.getElem?_append_left hp]
  · simp only [List.getD, List.getElem?_eq_none (show s.length ≤ p by omega), List.getElem?_append_right (show s.length ≤ p by omega), List.getElem?_replicate]
    split <;> simp

/-- Bits as a number, the first one the greatest. -/
def valOf (l : List Bool) : Nat := l.foldl (fun a b => 2 * a + b.toNat) 0
theorem valOf_snoc (l : List Bool) (b : Bool) : valOf (l ++ [b]) = 2 * valOf l + b.toNat := by simp [valOf, List.foldl_append]
theorem valOf_lt_from (l : List Bool) : ∀ a, l.foldl (fun a b => 2 * a + b.toNat) a < (a + 1) * 2 ^ l.length := by
  induction l with
  | nil => intro a; simp
  | cons b l ih =>
    intro a
    rw [List.foldl_cons, List.length_cons, Nat.pow_succ, Nat.mul_comm _ 2, ← Nat.mul_assoc]
    refine Nat.lt_of_lt_of_le (ih _) (Nat.mul_le_mul_right _ ?_)
    cases b <;> simp <;> omega
theorem valOf_lt (l : List Bool) : valOf l < 2 ^ l.length := by simpa [valOf] using valOf_lt_from l 0

theorem valOf_bitsOf (v n : Nat) : valOf (bitsOf v n) = v % 2 ^ n := by
  have key : ∀ j, j ≤ n → valOf ((bitsOf v n).take j) = v / 2 ^ (n - j) % 2 ^ j := by
    intro j
    induction j with
    | zero => intro _; simp [valOf, Nat.mod_one]
    | succ j ih =>
      intro hj
      rw [bitsOf_take_succ v n j (by omega), valOf_snoc, ih (by omega)]
      have e : n - j = (n - (j + 1)) + 1 := by omega
      rw [e, Nat.pow_succ, ← Nat.div_div_eq_div_mul]
      have ht : (v.testBit (n - 1 - j)).toNat = v / 2 ^ (n - (j + 1)) % 2 := by
        rw [Nat.testBit_eq_decide_div_mod_eq, show n - 1 - j = n - (j + 1) by omega]
        have := Nat.mod_two_eq_zero_or_one (v / 2 ^ (n - (j + 1)))
        rcases this with h | h <;> simp [h]
      rw [ht]
      generalize v / 2 ^ (n - (j + 1)) = x
      rw [Nat.pow_succ, Nat.mul_comm (2 ^ j) 2, Nat.mod_mul]
      omega
  have := key n (Nat.le_refl n)
  rw [List.take_of_length_le (by simp [bitsOf])] at this
  simpa using this

/-- The n bits from place p on of a source of bits. -/
def readsOf (f : Nat → Bool) (p n : Nat) : List Bool := (List.range n).map fun j => f (p + j)
theorem readsOf_succ (f : Nat → Bool) (p n : Nat) : readsOf f p (n + 1) = readsOf f p n ++ [f (p + n)] := by simp [readsOf, List.range_succ]
theorem readsOf_length (f : Nat → Bool) (p n : Nat) : (readsOf f p n).length = n := by simp [readsOf]
theorem readsOf_congr {f g : Nat → Bool} {p n : Nat} (h : ∀ j, j < n → f (p + j) = g (p + j)) : readsOf f p n = readsOf g p n := by
  unfold readsOf
  exact List.map_congr_left fun j hj => h j (List.mem_range.1 hj)

/-- Bytes with the same bits are the same. -/
theorem bytes_ext {xs ys : List Nat} (hl : xs.length = ys.length) (hx : ∀ z ∈ xs, z < 256) (hy : ∀ z ∈ ys, z < 256) (h : ∀ p, bitAt xs p = bitAt ys p) : xs = ys := by
  refine List.ext_getElem hl fun i h1 h2 => Nat.eq_of_testBit_eq fun k => ?_
  by_cases hk : k < 8
  · have e := h (8 * i + (7 - k))
    unfold bitAt at e
    rw [show (8 * i + (7 - k)) / 8 = i by omega, show 7 - (8 * i + (7 - k)) % 8 = k by omega] at e
    simpa [List.getD, h1, h2] using e
  · have a1 : xs[i] < 2 ^ k := Nat.lt_of_lt_of_le (hx _ (List.getElem_mem h1)) (Nat.pow_le_pow_right (n := 2) (i := 8) (by decide) (by omega))
    have a2 : ys[i] < 2 ^ k := Nat.lt_of_lt_of_le (hy _ (List.getElem_mem h2)) (Nat.pow_le_pow_right (n := 2) (i := 8) (by decide) (by omega))
    rw [Nat.testBit_lt_two_pow a1, Nat.testBit_lt_two_pow a2]

theorem Packs.unique {xs ys : List Nat} {s : List Bool} (h : Packs xs s) (k : Packs ys s) : xs = ys :=
  bytes_ext (h.len.trans k.len.symm) h.small k.small fun p => (h.bit p).trans (k.bit p).symm

end Go.Proofs.Ytkndnibmgohcaaa
