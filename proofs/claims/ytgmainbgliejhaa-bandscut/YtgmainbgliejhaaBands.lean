/-
  Layer 10 by plain functions: where the bands of a transform lie: no program in sight.
-/
import Derived.Test.YtgmainbgliejhaaWaveA
namespace Go.Proofs.Ytgmainbgliejhaa
open Go.RowKit

/-- A band: its level and orient, its place and its sides. -/
structure BandN where
  level : Nat
  orient : Nat
  x : Nat
  y : Nat
  w : Nat
  h : Nat
deriving DecidableEq

/-- The three bands of a level whose sides are w by h together. -/
def threeB (l w h : Nat) : List BandN := [⟨l, 1, w / 2, 0, w / 2, h / 2⟩, ⟨l, 2, 0, h / 2, w / 2, h / 2⟩, ⟨l, 3, w / 2, h / 2, w / 2, h / 2⟩]
/-- All bands: the inner ones' of half the sides, then three more. -/
def bandsR : Nat → Nat → Nat → List BandN
  | 0, w, h => [⟨0, 0, 0, 0, w, h⟩]
  | d + 1, w, h => bandsR d (w / 2) (h / 2) ++ threeB (d + 1) w h
theorem bandsR_length (d w h : Nat) : (bandsR d w h).length = 3 * d + 1 := by
  induction d generalizing w h with
  | zero => rfl
  | succ d ih => show (bandsR d (w / 2) (h / 2) ++ threeB (d + 1) w h).length = _; rw [List.length_append, ih]; show 3 * d + 1 + 3 = _; omega

/-- The i-th band, as it can be told at once. -/
def bandAt (d w h i : Nat) : BandN :=
  if i = 0 then ⟨0, 0, 0, 0, w / 2 ^ d, h / 2 ^ d⟩
  else
    let l := (i - 1) / 3 + 1
    let o := (i - 1) % 3 + 1
    let bw := w / 2 ^ (d - l + 1)
    let bh := h / 2 ^ (d - l + 1)
    ⟨l, o, if o = 2 then 0 else bw, if o = 1 then 0 else bh, bw, bh⟩
theorem half_pow (w d : Nat) : w / 2 / 2 ^ d = w / 2 ^ (d + 1) := by rw [Nat.div_div_eq_div_mul, Nat.mul_comm, ← Nat.pow_succ]
theorem bandAt_half {d w h i : Nat} (hi : i < 3 * d + 1) : bandAt d (w / 2) (h / 2) i = bandAt (d + 1) w h i := by
  unfold bandAt
  by_cases h0 : i = 0
  · rw [if_pos h0, if_pos h0, half_pow, half_pow]
  · rw [if_neg h0, if_neg h0]
    have hl : (i - 1) / 3 + 1 ≤ d := by omega
    have e : d + 1 - ((i - 1) / 3 + 1) + 1 = d - ((i - 1) / 3 + 1) + 1 + 1 := by omega
    simp only [half_pow, e]
theorem bandAt_last {d w h k : Nat} (hk : k < 3) : (threeB (d + 1) w h)[k]? = some (bandAt (d + 1) w h (3 * d + 1 + k)) := by
  have e1 : (3 * d + 1 + k - 1) / 3 = d := by omega
  have e2 : (3 * d + 1 + k - 1) % 3 = k := by omega
  unfold bandAt
  rw [if_neg (by omega)]
  simp only [e1, e2, Nat.sub_self, Nat.zero_add, Nat.pow_one]
  have : k = 0 ∨ k = 1 ∨ k = 2 := by omega
  rcases this with rfl | rfl | rfl <;> rfl
theorem bandsR_get (d w h i : Nat) (hi : i < 3 * d + 1) : (bandsR d w h)[i]? = some (bandAt d w h i) := by
  induction d generalizing w h with
  | zero =>
    obtain rfl : i = 0 := by omega
    simp [bandsR, bandAt]
  | succ d ih =>
    show (bandsR d (w / 2) (h / 2) ++ threeB (d + 1) w h)[i]? = _
    by_cases hl : i < 3 * d + 1
    · rw [List.getElem?_append_left (by rw [bandsR_length]; exact hl), ih _ _ hl, bandAt_half hl]
    · rw [List.getElem?_append_right (by rw [bandsR_length]; omega), bandsR_length, bandAt_last (by omega)]
      congr 2; omega

/-- Does a place lie in a band? -/
def inB (b : BandN) (y x : Nat) : Bool := decide (b.x ≤ x) && decide (x < b.x + b.w) && decide (b.y ≤ y) && decide (y < b.y + b.h)
theorem inB_iff {b : BandN} {y x : Nat} : inB b y x = true ↔ (b.x ≤ x ∧ x < b.x + b.w) ∧ (b.y ≤ y ∧ y < b.y + b.h) := by
  simp [inB, and_assoc]
/-- In how many bands of a list it lies. -/
def cntB (l : List BandN) (y x : Nat) : Nat := l.countP fun b => inB b y x
theorem cntB_append (l l' : List BandN) (y x : Nat) : cntB (l ++ l') y x = cntB l y x + cntB l' y x := List.countP_append
/-- Every band lies within. -/
theorem bandsR_within {d w h : Nat} (hw : FitsN d w) (hh : FitsN d h) {b : BandN} (hb : b ∈ bandsR d w h) : b.x + b.w ≤ w ∧ b.y + b.h ≤ h ∧ 1 ≤ b.w ∧ 1 ≤ b.h := by
  induction d generalizing w h with
  | zero =>
    simp only [bandsR, List.mem_singleton] at hb
    subst hb
    exact ⟨by simp, by simp, hw.1, hh.1⟩
  | succ d ih =>
    have ew := hw.even
    have eh := hh.even
    have e1 := ew.1; have e2 := ew.2; have e3 := eh.1; have e4 := eh.2
    simp only [bandsR, List.mem_append, threeB, List.mem_cons, List.not_mem_nil, or_false] at hb
    rcases hb with hb | rfl | rfl | rfl
    · have := ih hw.half hh.half hb
      omega
    · dsimp only; omega
    · dsimp only; omega
    · dsimp only; omega
theorem cntB_none {l : List BandN} {y x : Nat} (h : ∀ b ∈ l, inB b y x = false) : cntB l y x = 0 := by
  unfold cntB
  rw [List.countP_eq_zero]
  intro b hb
  rw [h b hb]; decide
/-- The bands cover the plane, each place once. -/
theorem bands_cover {d w h : Nat} (hw : FitsN d w) (hh : FitsN d h) {y x : Nat} (hy : y < h) (hx : x < w) : cntB (bandsR d w h) y x = 1 := by
  induction d generalizing w h with
  | zero =>
    unfold cntB bandsR
    rw [List.countP_cons, List.countP_nil]
    have : inB ⟨0, 0, 0, 0, w, h⟩ y x = true := inB_iff.2 ⟨⟨Nat.zero_le _, by dsimp only; omega⟩, Nat.zero_le _, by dsimp only; omega⟩
    rw [if_pos this]
  | succ d ih =>
    have ew := hw.even
    have eh := hh.even
    have e1 := ew.1; have e2 := ew.2; have e3 := eh.1; have e4 := eh.2
    show cntB (bandsR d (w / 2) (h / 2) ++ threeB (d + 1) w h) y x = 1
    rw [cntB_append]
    by_cases hp : x < w / 2 ∧ y < h / 2
    · rw [ih hw.half hh.half hp.2 hp.1]
      have : cntB (threeB (d + 1) w h) y x = 0 := cntB_none fun b hb => by
        rw [← Bool.not_eq_true, inB_iff]
        simp only [threeB, List.mem_cons, List.not_mem_nil, or_false] at hb
        rcases hb with rfl | rfl | rfl <;> dsimp only <;> omega
      omega
    · have : cntB (bandsR d (w / 2) (h / 2)) y x = 0 := cntB_none fun b hb => by
        rw [← Bool.not_eq_true, inB_iff]
        have := bandsR_within hw.half hh.half hb
        omega
      rw [this]
      have c1 : inB ⟨d + 1, 1, w / 2, 0, w / 2, h / 2⟩ y x = decide (w / 2 ≤ x ∧ y < h / 2) := by
        rw [Bool.eq_iff_iff, inB_iff, decide_eq_true_iff]; dsimp only; omega
      have c2 : inB ⟨d + 1, 2, 0, h / 2, w / 2, h / 2⟩ y x = decide (x < w / 2 ∧ h / 2 ≤ y) := by
        rw [Bool.eq_iff_iff, inB_iff, decide_eq_true_iff]; dsimp only; omega
      have c3 : inB ⟨d + 1, 3, w / 2, h / 2, w / 2, h / 2⟩ y x = decide (w / 2 ≤ x ∧ h / 2 ≤ y) := by
        rw [Bool.eq_iff_iff, inB_iff, decide_eq_true_iff]; dsimp only; omega
      unfold cntB threeB
      rw [List.countP_cons, List.countP_cons, List.countP_cons, List.countP_nil, c1, c2, c3]
      simp only [decide_eq_true_eq]
      by_cases a1 : w / 2 ≤ x <;> by_cases a2 : h / 2 ≤ y
      · rw [if_pos ⟨a1, a2⟩, if_neg (by omega), if_neg (by omega)]
      · rw [if_neg (by omega), if_neg (by omega), if_pos ⟨a1, by omega⟩]
      · rw [if_neg (by omega), if_pos ⟨by omega, a2⟩, if_neg (by omega)]
      · exact absurd ⟨by omega, by omega⟩ hp

/-- A band's parent: its number. -/
def parentB (i : Nat) : Int := if i < 4 then -1 else (i : Int) - 3
theorem bandAt_level {d w h i : Nat} : (bandAt d w h i).level = if i = 0 then 0 else (i - 1) / 3 + 1 := by
  unfold bandAt; split <;> rfl
theorem bandAt_orient {d w h i : Nat} : (bandAt d w h i).orient = if i = 0 then 0 else (i - 1) % 3 + 1 := by
  unfold bandAt; split <;> rfl
/-- Which one has one level less and the same orient. -/
theorem parent_iff {d w h i k : Nat} (hi : 4 ≤ i) : ((bandAt d w h k).level = (bandAt d w h i).level - 1 ∧ (bandAt d w h k).orient = (bandAt d w h i).orient) ↔ k = i - 3 := by
  rw [bandAt_level, bandAt_level, bandAt_orient, bandAt_orient]
  by_cases hk : k = 0
  · rw [if_pos hk, if_pos hk, if_neg (by omega), if_neg (by omega)]
    omega
  · rw [if_neg hk, if_neg hk, if_neg (by omega), if_neg (by omega)]
    omega
theorem level_two {d w h i : Nat} : 2 ≤ (bandAt d w h i).level ↔ 4 ≤ i := by
  rw [bandAt_level]; split <;> omega
/-- A parent is half as wide and high, and its place is half. -/
theorem parent_half {d w h i : Nat} (hw : FitsN d w) (hh : FitsN d h) (hi : 4 ≤ i) (hid : i < 3 * d + 1) :
    2 * (bandAt d w h (i - 3)).w = (bandAt d w h i).w ∧ 2 * (bandAt d w h (i - 3)).h = (bandAt d w h i).h ∧ 2 * (bandAt d w h (i - 3)).x = (bandAt d w h i).x ∧ 2 * (bandAt d w h (i - 3)).y = (bandAt d w h i).y := by
  have e1 : (i - 3 - 1) / 3 + 1 = (i - 1) / 3 := by omega
  have e2 : (i - 3 - 1) % 3 = (i - 1) % 3 := by omega
  have hl1 : 1 ≤ (i - 1) / 3 := by omega
  have hl2 : (i - 1) / 3 + 1 ≤ d := by omega
  unfold bandAt
  rw [if_neg (show ¬ i - 3 = 0 by omega), if_neg (show ¬ i = 0 by omega)]
  simp only [e1, e2]
  generalize hl : (i - 1) / 3 = l at *
  generalize (i - 1) % 3 = o at *
  obtain ⟨q, hq⟩ : ∃ q, d = l + q + 1 := ⟨d - l - 1, by omega⟩
  have hp1 : d - l + 1 = q + 1 + 1 := by omega
  have hp2 : d - (l + 1) + 1 = q + 1 := by omega
  rw [hp1, hp2]
  have half : ∀ n, FitsN d n → 2 * (n / 2 ^ (q + 1 + 1)) = n / 2 ^ (q + 1) := by
    intro n hn
    have hn2 : FitsN (q + 2) n := by
      refine ⟨hn.1, ?_⟩
      have hd := hn.2
      have : 2 ^ (q + 2) ∣ 2 ^ d := Nat.pow_dvd_pow 2 (by omega)
      exact Nat.mod_eq_zero_of_dvd (Nat.dvd_trans this (Nat.dvd_of_mod_eq_zero hd))
    have ev := hn2.part
    have : n / 2 ^ (q + 1 + 1) = n / 2 ^ (q + 1) / 2 := by rw [Nat.div_div_eq_div_mul, ← Nat.pow_succ]
    rw [this]
    have := ev.2
    omega
  rw [← half w hw, ← half h hh]
  refine ⟨rfl, rfl, ?_, ?_⟩
  · split <;> rfl
  · split <;> rfl
end Go.Proofs.Ytgmainbgliejhaa
