/-
  Layer 5 by plain functions: the encoder's span and what it owes, the decoder's, and that a decoder of an encoder's bits goes the encoder's way: no program in sight.
-/
import Derived.Test.YthabklgeopdlhaaLut
namespace Go.Proofs.Ythabklgeopdlhaa

def bitI (b : Bool) : Int := if b then 1 else 0
theorem bitI_or (b : Bool) : bitI b = 0 ∨ bitI b = 1 := by cases b <;> simp [bitI]
theorem bitI_not (b : Bool) : bitI (!b) = 1 - bitI b := by cases b <;> simp [bitI]

/-- An encoder's low, range, what is owed, the bits that were written. -/
structure ES where
  L : Int
  R : Int
  k : Nat
  S : List Bool

/-- A decoder's low, range, number, how many bits it has read. -/
structure DS where
  L : Int
  R : Int
  C : Int
  pos : Nat

/-- A span that may be. -/
def Span (L R : Int) : Prop := 0 ≤ L ∧ 1 ≤ R ∧ L + R ≤ 65536

/-- Low and high differ in bit 15. -/
def differ (L R : Int) : Prop := L < 32768 ∧ 32768 ≤ L + R - 1
instance (L R : Int) : Decidable (differ L R) := inferInstanceAs (Decidable (_ ∧ _))

/-- Bit 14 of a number, turned. -/
def turn14 (v : Int) : Int := if v / 16384 % 2 = 1 then v - 16384 else v + 16384

def topB (L : Int) : Bool := decide (32768 ≤ L)

/-- A shift of the encoder's. -/
def eshift (e : ES) : ES :=
  if differ e.L e.R then ⟨2 * turn14 e.L % 65536, 2 * e.R, e.k + 1, e.S⟩
  else ⟨2 * e.L % 65536, 2 * e.R, 0, e.S ++ topB e.L :: List.replicate e.k (!topB e.L)⟩

def enorm : Nat → ES → ES
  | 0, e => e
  | n + 1, e => if e.R ≤ 16384 then enorm n (eshift e) else e

/-- A span parted by a chance. -/
def epart (e : ES) (p : Int) (b : Bool) : ES :=
  if b then { e with L := e.L + e.R * p / 65536, R := e.R - e.R * p / 65536 } else { e with R := e.R * p / 65536 }

def eput (e : ES) (p : Int) (b : Bool) : ES := enorm 16 (epart e p b)

def dshift (B : Nat → Bool) (d : DS) : DS :=
  if differ d.L d.R then ⟨2 * turn14 d.L % 65536, 2 * d.R, 2 * turn14 d.C % 65536 + bitI (B d.pos), d.pos + 1⟩
  else ⟨2 * d.L % 65536, 2 * d.R, 2 * d.C % 65536 + bitI (B d.pos), d.pos + 1⟩

def dnorm (B : Nat → Bool) : Nat → DS → DS
  | 0, d => d
  | n + 1, d => if d.R ≤ 16384 then dnorm B n (dshift B d) else d

def dpart (d : DS) (p : Int) (b : Bool) : DS :=
  if b then { d with L := d.L + d.R * p / 65536, R := d.R - d.R * p / 65536 } else { d with R := d.R * p / 65536 }

/-- The decoder's bit. -/
def dbit (d : DS) (p : Int) : Bool := decide (d.R * p / 65536 ≤ d.C - d.L)
def dget (B : Nat → Bool) (d : DS) (p : Int) : DS := dnorm B 16 (dpart d p (dbit d p))

/-- m bits from a place on, as a number. -/
def valI (B : Nat → Bool) (a : Nat) : Nat → Int
  | 0 => 0
  | m + 1 => 2 * valI B a m + bitI (B (a + m))

theorem valI_head (B : Nat → Bool) (a : Nat) : ∀ m, valI B a (m + 1) = bitI (B a) * 2 ^ m + valI B (a + 1) m
  | 0 => by simp [valI]
  | m + 1 => by
    rw [valI, valI_head B a m, valI, Int.pow_succ, show a + 1 + m = a + (m + 1) by omega]
    generalize valI B (a + 1) m = x
    generalize bitI (B (a + (m + 1))) = y
    rcases bitI_or (B a) with h | h <;> rw [h] <;> omega

theorem valI_bounds (B : Nat → Bool) (a : Nat) : ∀ m, 0 ≤ valI B a m ∧ valI B a m < 2 ^ m
  | 0 => by simp [valI]
  | m + 1 => by
    have ih := valI_bounds B a m
    rw [valI, Int.pow_succ]
    rcases bitI_or (B (a + m)) with h | h <;> omega

theorem valI_congr {B B' : Nat → Bool} {a a' : Nat} : ∀ {m : Nat}, (∀ i, i < m → B (a + i) = B' (a' + i)) → valI B a m = valI B' a' m
  | 0, _ => rfl
  | m + 1, h => by
    rw [valI, valI, valI_congr (m := m) (fun i hi => h i (by omega)), h m (by omega)]

/-- What a decoder has in hand at a place where so many bits are owed. -/
def win (B : Nat → Bool) (n k : Nat) : Int := 32768 * bitI (B n) + valI B (n + 1 + k) 15

def decOf (B : Nat → Bool) (e : ES) : DS := ⟨e.L, e.R, win B e.S.length e.k, e.S.length + e.k + 16⟩

/-- The bits go on as the encoder has begun. -/
structure Follows (B : Nat → Bool) (e : ES) : Prop where
  pre : ∀ j, j < e.S.length → B j = e.S.getD j false
  owes : ∀ i, i < e.k → B (e.S.length + 1 + i) = !B e.S.length
  lo : e.L ≤ win B e.S.length e.k
  hi : win B e.S.length e.k < e.L + e.R

theorem win_bounds (B : Nat → Bool) (n k : Nat) : 0 ≤ win B n k ∧ win B n k < 65536 := by
  have := valI_bounds B (n + 1 + k) 15
  unfold win
  rcases bitI_or (B n) with h | h <;> rw [h] <;> simp at this <;> omega

theorem turn_low {L R : Int} (h : differ L R) (hr : R ≤ 16384) : turn14 L = L - 16384 := by
  unfold turn14 differ at *
  rw [if_pos (by omega)]

theorem span_shift {L R : Int} (hs : Span L R) (hr : R ≤ 16384) : Span (if differ L R then 2 * turn14 L % 65536 else 2 * L % 65536) (2 * R) := by
  unfold Span at *
  split
  · rename_i h
    rw [turn_low h hr]
    unfold differ at h
    omega
  · rename_i h
    unfold differ at h
    omega

theorem eshift_LR (e : ES) : (eshift e).L = (if differ e.L e.R then 2 * turn14 e.L % 65536 else 2 * e.L % 65536) ∧ (eshift e).R = 2 * e.R := by
  unfold eshift
  split <;> exact ⟨rfl, rfl⟩

theorem eshift_span {e : ES} (hs : Span e.L e.R) (hr : e.R ≤ 16384) : Span (eshift e).L (eshift e).R := by
  obtain ⟨h1, h2⟩ := eshift_LR e
  rw [h1, h2]
  exact span_shift hs hr

/-- A shift, looked at from behind: the decoder goes the encoder's way. -/
theorem shift_follow {B : Nat → Bool} {e : ES} (hs : Span e.L e.R) (hr : e.R ≤ 16384) (h : Follows B (eshift e)) : Follows B e ∧ dshift B (decOf B e) = decOf B (eshift e) := by
  by_cases hd : differ e.L e.R
  · have he : eshift e = ⟨2 * turn14 e.L % 65536, 2 * e.R, e.k + 1, e.S⟩ := if_pos hd
    rw [he] at h
    obtain ⟨pre, owes, lo, hi⟩ := h
    simp only at pre owes lo hi
    have ho := owes e.k (by omega)
    have w0 : win B e.S.length e.k = 32768 * bitI (B e.S.length) + (bitI (B (e.S.length + 1 + e.k)) * 16384 + valI B (e.S.length + 1 + e.k + 1) 14) := by
      unfold win; rw [valI_head]; rfl
    have w1 : win B e.S.length (e.k + 1) = 32768 * bitI (B e.S.length) + (2 * valI B (e.S.length + 1 + (e.k + 1)) 14 + bitI (B (e.S.length + 1 + (e.k + 1) + 14))) := by
      unfold win; rw [valI]
    rw [show e.S.length + 1 + (e.k + 1) = e.S.length + 1 + e.k + 1 by omega] at w1
    rw [ho, bitI_not] at w0
    have hv := valI_bounds B (e.S.length + 1 + e.k + 1) 14
    have hb := bitI_or (B (e.S.length + 1 + e.k + 1 + 14))
    have hc := bitI_or (B e.S.length)
    rw [turn_low hd hr] at lo hi
    have hd' := hd
    unfold differ at hd'
    unfold Span at hs
    rw [show (2 : Int) ^ 14 = 16384 from rfl] at hv
    generalize hV : valI B (e.S.length + 1 + e.k + 1) 14 = V at w0 w1 hv
    generalize hB1 : bitI (B (e.S.length + 1 + e.k + 1 + 14)) = b1 at w1 hb
    generalize hB0 : bitI (B e.S.length) = b0 at w0 w1 hc
    have hturn : 2 * turn14 (win B e.S.length e.k) % 65536 + b1 = win B e.S.length (e.k + 1) := by
      rw [w0, w1]
      unfold turn14
      rcases hc with rfl | rfl
      · rw [if_pos (by omega)]; omega
      · rw [if_neg (by omega)]; omega
    refine ⟨⟨pre, fun i hi' => owes i (by omega), ?_, ?_⟩, ?_⟩
    · rw [w1] at lo; rw [w0]; omega
    · rw [w1] at hi; rw [w0]; omega
    · unfold dshift
      rw [if_pos (show differ (decOf B e).L (decOf B e).R from hd), he]
      simp only [decOf]
      rw [show e.S.length + e.k + 16 = e.S.length + 1 + e.k + 1 + 14 by omega, hB1, hturn, show e.S.length + (e.k + 1) + 16 = e.S.length + 1 + e.k + 1 + 14 + 1 by omega]
  · have he : eshift e = ⟨2 * e.L % 65536, 2 * e.R, 0, e.S ++ topB e.L :: List.replicate e.k (!topB e.L)⟩ := if_neg hd
    rw [he] at h
    obtain ⟨pre, _, lo, hi⟩ := h
    simp only [List.length_append, List.length_cons, List.length_replicate] at pre lo hi
    have pb : B e.S.length = topB e.L := by
      have := pre e.S.length (by omega)
      simpa [List.getD] using this
    have po : ∀ i, i < e.k → B (e.S.length + 1 + i) = !topB e.L := by
      intro i hi'
      have := pre (e.S.length + 1 + i) (by omega)
      rw [this, List.getD, List.getElem?_append_right (by omega), show e.S.length + 1 + i - e.S.length = i + 1 by omega, List.getElem?_cons_succ, List.getElem?_replicate, if_pos hi']
      rfl
    have w1 : win B (e.S.length + (e.k + 1)) 0 = valI B (e.S.length + 1 + e.k) 16 := by
      rw [valI_head]
      unfold win
      rw [show e.S.length + (e.k + 1) = e.S.length + 1 + e.k by omega, show e.S.length + 1 + e.k + 1 + 0 = e.S.length + 1 + e.k + 1 by omega, show (2 : Int) ^ 15 = 32768 from rfl]
      omega
    rw [valI] at w1
    have w0 : win B e.S.length e.k = 32768 * bitI (topB e.L) + valI B (e.S.length + 1 + e.k) 15 := by unfold win; rw [pb]
    have hv := valI_bounds B (e.S.length + 1 + e.k) 15
    have hb := bitI_or (B (e.S.length + 1 + e.k + 15))
    rw [show (2 : Int) ^ 15 = 32768 from rfl] at hv
    generalize hV : valI B (e.S.length + 1 + e.k) 15 = V at w0 w1 hv
    generalize hB1 : bitI (B (e.S.length + 1 + e.k + 15)) = b1 at w1 hb
    have ht : (bitI (topB e.L) = 0 ∧ e.L < 32768) ∨ (bitI (topB e.L) = 1 ∧ 32768 ≤ e.L) := by
      unfold topB bitI
      by_cases h : 32768 ≤ e.L
      · simp [h]
      · simp [h]; omega
    generalize bitI (topB e.L) = t at w0 ht
    have hd' := hd
    unfold differ at hd'
    unfold Span at hs
    refine ⟨⟨fun j hj => ?_, fun i hi' => ?_, ?_, ?_⟩, ?_⟩
    · rw [pre j (by omega), List.getD, List.getD, List.getElem?_append_left hj]
    · rw [po i hi', pb]
    · rw [w1] at lo; rw [w0]; omega
    · rw [w1] at hi; rw [w0]; omega
    · unfold dshift
      rw [if_neg (show ¬ differ (decOf B e).L (decOf B e).R from hd), he]
      simp only [decOf, List.length_append, List.length_cons, List.length_replicate]
      rw [w1, w0, show e.S.length + e.k + 16 = e.S.length + 1 + e.k + 15 by omega, hB1, show e.S.length + (e.k + 1) + 0 + 16 = e.S.length + 1 + e.k + 15 + 1 by omega]
      congr 1
      omega

theorem norm_follow {B : Nat → Bool} : ∀ (n : Nat) (e : ES), Span e.L e.R → Follows B (enorm n e) → Follows B e ∧ dnorm B n (decOf B e) = decOf B (enorm n e)
  | 0, _, _, h => ⟨h, rfl⟩
  | n + 1, e, hs, h => by
    by_cases hr : e.R ≤ 16384
    · have hn : enorm (n + 1) e = enorm n (eshift e) := by rw [enorm, if_pos hr]
      rw [hn] at h ⊢
      obtain ⟨h1, h2⟩ := norm_follow n (eshift e) (eshift_span hs hr) h
      obtain ⟨h3, h4⟩ := shift_follow hs hr h1
      refine ⟨h3, ?_⟩
      rw [dnorm, if_pos (show (decOf B e).R ≤ 16384 from hr), h4, h2]
    · have hn : enorm (n + 1) e = e := by rw [enorm, if_neg hr]
      rw [hn] at h ⊢
      refine ⟨h, ?_⟩
      rw [dnorm, if_neg (show ¬ (decOf B e).R ≤ 16384 from hr)]

/-- A chance that may be. -/
def Chance (p : Int) : Prop := 252 ≤ p ∧ p ≤ 65283

theorem chance_first : Chance 32768 := by unfold Chance; omega
theorem chance_next {p : Int} (h : Chance p) (b : Bool) : Chance (if b then lessC p else moreC p) := by
  obtain ⟨a, c, d, e⟩ := chances_stay h.1 h.2
  cases b
  · exact ⟨d, e⟩
  · exact ⟨a, c⟩

theorem part_bounds {R p : Int} (hr : 16384 < R) (hr2 : R ≤ 65536) (hp : Chance p) : 63 ≤ R * p / 65536 ∧ 63 ≤ R - R * p / 65536 := by
  unfold Chance at hp
  have h1 : 16385 * 252 ≤ R * p := Int.mul_le_mul (by omega) hp.1 (by omega) (by omega)
  have h2 : R * p ≤ R * 65283 := Int.mul_le_mul_of_nonneg_left hp.2 (by omega)
  omega

/-- An encoder between two bits. -/
structure Ready (e : ES) : Prop where
  span : Span e.L e.R
  wide : 16384 < e.R

theorem Ready.R_le {e : ES} (h : Ready e) : e.R ≤ 65536 := by have := h.span; unfold Span at this; omega

theorem part_span {e : ES} (h : Ready e) {p : Int} (hp : Chance p) (b : Bool) : Span (epart e p b).L (epart e p b).R ∧ 63 ≤ (epart e p b).R := by
  obtain ⟨s1, s2⟩ := part_bounds h.wide h.R_le hp
  have hs := h.span
  unfold Span at *
  cases b
  · simp only [epart]
    simp; omega
  · simp only [epart]
    simp; omega

/-- Shifts: the span stays one, the range comes above 16384, each writes or owes one bit. -/
theorem norm_ready : ∀ (n : Nat) (e : ES), Span e.L e.R → 16384 < e.R * 2 ^ n → Ready (enorm n e)
  | 0, e, hs, hr => ⟨hs, by simpa [enorm] using hr⟩
  | n + 1, e, hs, hr => by
    rw [enorm]
    split
    · rename_i h
      refine norm_ready n (eshift e) (eshift_span hs h) ?_
      rw [(eshift_LR e).2]
      rw [Int.pow_succ] at hr
      rw [show 2 * e.R * 2 ^ n = e.R * (2 ^ n * 2) by rw [Int.mul_comm 2 e.R, Int.mul_assoc, Int.mul_comm 2]]
      exact hr
    · exact ⟨hs, by omega⟩

theorem put_ready {e : ES} (h : Ready e) {p : Int} (hp : Chance p) (b : Bool) : Ready (eput e p b) := by
  obtain ⟨hs, h63⟩ := part_span h hp b
  refine norm_ready 16 _ hs ?_
  have : (63 : Int) * 2 ^ 16 ≤ (epart e p b).R * 2 ^ 16 := Int.mul_le_mul_of_nonneg_right h63 (by decide)
  have e2 : (63 : Int) * 2 ^ 16 = 4128768 := by decide
  omega

/-- A bit, looked at from behind. -/
theorem put_follow {B : Nat → Bool} {e : ES} (h : Ready e) {p : Int} (hp : Chance p) (b : Bool) (hf : Follows B (eput e p b)) :
    Follows B e ∧ dbit (decOf B e) p = b ∧ dget B (decOf B e) p = decOf B (eput e p b) := by
  obtain ⟨hs, h63⟩ := part_span h hp b
  obtain ⟨h1, h2⟩ := norm_follow 16 (epart e p b) hs hf
  obtain ⟨s1, s2⟩ := part_bounds h.wide h.R_le hp
  have hb : dbit (decOf B e) p = b := by
    cases b
    · have := h1.hi
      simp only [epart] at this
      simp at this
      have hx : ¬ e.R * p / 65536 ≤ win B e.S.length e.k - e.L := by omega
      exact decide_eq_false hx
    · have := h1.lo
      simp only [epart] at this
      simp at this
      have hx : e.R * p / 65536 ≤ win B e.S.length e.k - e.L := by omega
      exact decide_eq_true hx
  have hk : (epart e p b).k = e.k ∧ (epart e p b).S = e.S := by cases b <;> exact ⟨rfl, rfl⟩
  have hd : dpart (decOf B e) p b = decOf B (epart e p b) := by cases b <;> rfl
  refine ⟨⟨?_, ?_, ?_, ?_⟩, hb, ?_⟩
  · have := h1.pre; rwa [hk.2] at this
  · have := h1.owes; rwa [hk.1, hk.2] at this
  · have := h1.lo
    rw [hk.1, hk.2] at this
    cases b
    · exact this
    · simp only [epart] at this
      simp at this
      omega
  · have := h1.hi
    rw [hk.1, hk.2] at this
    cases b
    · simp only [epart] at this
      simp at this
      omega
    · simp only [epart] at this
      simp at this
      omega
  · unfold dget
    rw [hb, hd, h2]
    rfl

/-- What is written at the end, noughts behind it. -/
def vend (L : Int) : Int := (L + 16383) / 16384
def eend (e : ES) : List Bool := e.S ++ topB (16384 * vend e.L) :: List.replicate e.k (!topB (16384 * vend e.L)) ++ [decide (vend e.L % 2 = 1)]

theorem eend_length (e : ES) : (eend e).length = e.S.length + e.k + 2 := by simp [eend]; omega

theorem valI_zero {B : Nat → Bool} {a : Nat} : ∀ (m : Nat), (∀ i, i < m → B (a + i) = false) → valI B a m = 0
  | 0, _ => rfl
  | m + 1, h => by rw [valI, valI_zero m (fun i hi => h i (by omega)), h m (by omega)]; rfl

/-- The bits of an encoder's bytes go on as it has begun. -/
theorem end_follow {B : Nat → Bool} {e : ES} (h : Ready e) (hB : ∀ j, B j = (eend e).getD j false) : Follows B e := by
  have hs := h.span
  have hw := h.wide
  unfold Span at hs
  have hv : 0 ≤ vend e.L ∧ vend e.L ≤ 3 ∧ e.L ≤ 16384 * vend e.L ∧ 16384 * vend e.L < e.L + e.R := by unfold vend; omega
  have e1 : ∀ j, j < e.S.length → B j = e.S.getD j false := by
    intro j hj
    rw [hB, eend, List.getD, List.append_assoc, List.getElem?_append_left hj]; rfl
  have e2 : B e.S.length = topB (16384 * vend e.L) := by
    rw [hB, eend, List.getD, List.append_assoc, List.getElem?_append_right (by omega), Nat.sub_self]; rfl
  have e3 : ∀ i, i < e.k → B (e.S.length + 1 + i) = !topB (16384 * vend e.L) := by
    intro i hi
    rw [hB, eend, List.getD, List.append_assoc, List.getElem?_append_right (by omega), show e.S.length + 1 + i - e.S.length = i + 1 by omega, List.cons_append, List.getElem?_cons_succ, List.getElem?_append_left (by simpa using hi), List.getElem?_replicate, if_pos hi]; rfl
  have e4 : B (e.S.length + 1 + e.k) = decide (vend e.L % 2 = 1) := by
    rw [hB, eend, List.getD, List.append_assoc, List.getElem?_append_right (by omega), show e.S.length + 1 + e.k - e.S.length = e.k + 1 by omega, List.cons_append, List.getElem?_cons_succ, List.getElem?_append_right (by simp)]
    simp
  have e5 : ∀ i, B (e.S.length + 1 + e.k + 1 + i) = false := by
    intro i
    rw [hB, List.getD, List.getElem?_eq_none (by rw [eend_length]; omega)]; rfl
  have w : win B e.S.length e.k = 16384 * vend e.L := by
    unfold win
    rw [valI_head, valI_zero 14 (fun i _ => e5 i), e2, e4]
    have h4 : vend e.L = 0 ∨ vend e.L = 1 ∨ vend e.L = 2 ∨ vend e.L = 3 := by omega
    rcases h4 with h | h | h | h <;> rw [h] <;> decide
  refine ⟨e1, fun i hi => ?_, ?_, ?_⟩
  · rw [e3 i hi, e2]
  · rw [w]; exact hv.2.2.1
  · rw [w]; exact hv.2.2.2

/-- How many bits are written or owed: at most nine a bit. -/
theorem shift_count (e : ES) : (eshift e).S.length + (eshift e).k = e.S.length + e.k + 1 := by
  unfold eshift
  split
  · simp; omega
  · simp; omega

theorem norm_count : ∀ (n m : Nat) (e : ES), Span e.L e.R → 16384 < e.R * 2 ^ m → (enorm n e).S.length + (enorm n e).k ≤ e.S.length + e.k + m
  | 0, m, e, _, _ => by simp [enorm]
  | n + 1, 0, e, _, hr => by
    have hr' : ¬ e.R ≤ 16384 := by simp at hr; omega
    rw [enorm, if_neg hr']; omega
  | n + 1, m + 1, e, hs, hr => by
    rw [enorm]
    split
    · rename_i h
      have := norm_count n m (eshift e) (eshift_span hs h) (by
        rw [(eshift_LR e).2]
        rw [Int.pow_succ] at hr
        rw [show 2 * e.R * 2 ^ m = e.R * (2 ^ m * 2) by rw [Int.mul_comm 2 e.R, Int.mul_assoc, Int.mul_comm 2]]
        exact hr)
      rw [shift_count] at this
      omega
    · omega

theorem put_count {e : ES} (h : Ready e) {p : Int} (hp : Chance p) (b : Bool) : (eput e p b).S.length + (eput e p b).k ≤ e.S.length + e.k + 9 := by
  obtain ⟨hs, h63⟩ := part_span h hp b
  have := norm_count 16 9 (epart e p b) hs (by
    have : (63 : Int) * 2 ^ 9 ≤ (epart e p b).R * 2 ^ 9 := Int.mul_le_mul_of_nonneg_right h63 (by decide)
    have e2 : (63 : Int) * 2 ^ 9 = 32256 := by decide
    omega)
  have hk : (epart e p b).k = e.k ∧ (epart e p b).S = e.S := by cases b <;> exact ⟨rfl, rfl⟩
  rw [hk.1, hk.2] at this
  exact this

def estart : ES := ⟨0, 65536, 0, []⟩
theorem ready_start : Ready estart := ⟨⟨by decide, by decide, by decide⟩, by decide⟩

/-- A decoder at its beginning. -/
def dstart (B : Nat → Bool) : DS := ⟨0, 65536, valI B 0 16, 16⟩
theorem decOf_start (B : Nat → Bool) : decOf B estart = dstart B := by
  have : valI B 0 16 = win B 0 0 := by
    rw [valI_head, show (2 : Int) ^ 15 = 32768 from rfl, Int.mul_comm]; rfl
  unfold dstart
  rw [this]
  rfl
end Go.Proofs.Ythabklgeopdlhaa
