/-
  Layer 11 by plain functions: numbers made coarse, and back.
-/
import Derived.Test.YtemfepnmihclkaaDoorLut
namespace Go.Proofs.YtemfepnmihclkaaDoor
open Go.RowKit

/-- A number without its sign, no greater than may be; a quantiser's factor and offset. -/
def sizeN (v : Int) : Nat := min v.natAbs 2199023255550
def facN (q : Int) : Nat := (fac q).toNat
def offN (q : Int) (inter : Bool) : Nat := (offs q inter).toNat
/-- With the sign of v. -/
def sgn (v : Int) (x : Nat) : Int := if v < 0 then -(x : Int) else (x : Int)
def thereQ (v q : Int) : Int := if isQ q = true then sgn v (sizeN v * 4 / facN q) else 0
def backQ (c q : Int) (inter : Bool) : Int := if isQ q = true ∧ c ≠ 0 then sgn c (min ((sizeN c * facN q + offN q inter + 2) / 4) 4398046511104) else 0
def nearQ (v least most : Int) : Int := if v < least then least else if most < v then most else v

theorem facN_all : ∀ n : Nat, n ≤ 60 → ∀ i, 4 ≤ facN n ∧ facN n ≤ 131072 ∧ (n < 60 → facN n < facN ((n : Int) + 1)) ∧ 1 ≤ offN n i ∧ offN n i + 2 < facN n := by
  intro n hn
  have : ∀ m : Fin 61, ∀ i, 4 ≤ facN (m.val : Int) ∧ facN (m.val : Int) ≤ 131072 ∧ (m.val < 60 → facN (m.val : Int) < facN ((m.val : Int) + 1)) ∧ 1 ≤ offN (m.val : Int) i ∧ offN (m.val : Int) i + 2 < facN (m.val : Int) := by decide +kernel
  exact this ⟨n, by omega⟩
theorem facN_zero : facN 0 = 4 ∧ ∀ i, offN 0 i = 1 := by decide +kernel
theorem facN_of {q : Int} (h : isQ q = true) (i : Bool) : 4 ≤ facN q ∧ facN q ≤ 131072 ∧ 1 ≤ offN q i ∧ offN q i + 2 < facN q := by
  obtain ⟨n, hn, rfl⟩ := isQ_cases h
  obtain ⟨a, b, _, d, e⟩ := facN_all n hn i
  exact ⟨a, b, d, e⟩
theorem fac_facN {q : Int} (h : isQ q = true) : fac q = (facN q : Int) := by
  obtain ⟨n, hn, rfl⟩ := isQ_cases h
  have := fac_all n hn
  unfold facN; omega
theorem sizeN_of {v : Int} (h : v.natAbs ≤ 2199023255550) : sizeN v = v.natAbs := Nat.min_eq_left h
theorem sgn_abs (v : Int) (x : Nat) : (sgn v x).natAbs = x := by unfold sgn; split <;> omega

/-- There: its number, and what it leaves over. -/
theorem there_parts {v q : Int} (hq : isQ q = true) : ∃ c p : Nat, thereQ v q = sgn v c ∧ c * facN q = p ∧ p ≤ sizeN v * 4 ∧ sizeN v * 4 < p + facN q ∧ c ≤ sizeN v := by
  obtain ⟨h4, _, _, _⟩ := facN_of hq false
  refine ⟨sizeN v * 4 / facN q, _, by rw [thereQ, if_pos hq], rfl, Nat.div_mul_le_self _ _, Nat.lt_div_mul_add (by omega), ?_⟩
  exact Nat.le_trans (Nat.div_le_div_left h4 (by omega)) (by omega)
/-- There and back. -/
theorem back_parts {v q : Int} (hq : isQ q = true) (i : Bool) (hv : v.natAbs ≤ 2199023255550) :
    ∃ c p b : Nat, thereQ v q = sgn v c ∧ c * facN q = p ∧ p ≤ v.natAbs * 4 ∧ v.natAbs * 4 < p + facN q ∧ backQ (thereQ v q) q i = sgn v b ∧ (c = 0 ∧ b = 0 ∨ 0 < c ∧ b = (p + offN q i + 2) / 4) := by
  obtain ⟨c, p, h1, h2, h3, h4, h5⟩ := there_parts (v := v) hq
  rw [sizeN_of hv] at h3 h4 h5
  obtain ⟨f4, f5, o1, o2⟩ := facN_of hq i
  by_cases h0 : c = 0
  · refine ⟨c, p, 0, h1, h2, h3, h4, ?_, .inl ⟨h0, rfl⟩⟩
    rw [h1, h0]
    unfold backQ sgn
    split <;> simp
  · refine ⟨c, p, (p + offN q i + 2) / 4, h1, h2, h3, h4, ?_, .inr ⟨by omega, rfl⟩⟩
    have hs : sizeN (sgn v c) = c := by rw [sizeN_of (by rw [sgn_abs]; omega), sgn_abs]
    rw [h1, backQ, if_pos ⟨hq, fun e => by have := sgn_abs v c; rw [e] at this; exact h0 this.symm⟩, hs, h2, Nat.min_eq_left (by omega)]
    unfold sgn
    by_cases hn : v < 0
    · rw [if_pos hn, if_pos hn, if_pos (by omega)]
    · rw [if_neg hn, if_neg hn, if_neg (by omega)]
/-- Near to what it was; the sign never turns; the least quantiser is exact. -/
theorem quant_near {v q : Int} (hq : isQ q = true) (i : Bool) (hv : v.natAbs ≤ 2199023255550) :
    max (backQ (thereQ v q) q i - v) (v - backQ (thereQ v q) q i) ≤ fac q / 4 + 1 ∧ (0 ≤ v → 0 ≤ backQ (thereQ v q) q i) ∧ (v ≤ 0 → backQ (thereQ v q) q i ≤ 0) ∧ (q = 0 → backQ (thereQ v q) q i = v) := by
  obtain ⟨c, p, b, _, h2, h3, h4, h5, h6⟩ := back_parts hq i hv
  obtain ⟨f4, f5, o1, o2⟩ := facN_of hq i
  have hf := fac_facN hq
  have hz : q = 0 → facN q = 4 ∧ offN q i = 1 := fun e => by subst e; exact ⟨facN_zero.1, facN_zero.2 i⟩
  have hc : c = 0 → p = 0 := fun e => by rw [← h2, e, Nat.zero_mul]
  have hz2 : q = 0 → c * 4 = p := fun e => by rw [← h2, (hz e).1]
  have hp : 0 < c → facN q ≤ p := fun e => by rw [← h2]; exact Nat.le_mul_of_pos_left _ e
  rw [h5, hf]
  unfold sgn
  refine ⟨?_, ?_, ?_, ?_⟩
  · split <;> omega
  · split <;> omega
  · split <;> omega
  · intro e
    have := hz e
    have := hz2 e
    split <;> omega
/-- Lesser numbers don't come to greater ones. -/
theorem there_mono {v w q : Int} (h : v ≤ w) : thereQ v q ≤ thereQ w q := by
  unfold thereQ
  by_cases hq : isQ q = true
  · rw [if_pos hq, if_pos hq]
    have h1 : v < 0 → w < 0 → sizeN w * 4 / facN q ≤ sizeN v * 4 / facN q := fun _ _ => Nat.div_le_div_right (by unfold sizeN; omega)
    have h2 : 0 ≤ v → sizeN v * 4 / facN q ≤ sizeN w * 4 / facN q := fun _ => Nat.div_le_div_right (by unfold sizeN; omega)
    generalize sizeN v * 4 / facN q = c at *
    generalize sizeN w * 4 / facN q = d at *
    unfold sgn
    by_cases hv : v < 0
    · rw [if_pos hv]
      by_cases hw : w < 0
      · rw [if_pos hw]; have := h1 hv hw; omega
      · rw [if_neg hw]; omega
    · rw [if_neg hv, if_neg (by omega)]
      have := h2 (by omega)
      omega
  · rw [if_neg hq, if_neg hq]; omega
theorem back_mono {c d q : Int} (i : Bool) (h : c ≤ d) : backQ c q i ≤ backQ d q i := by
  unfold backQ
  by_cases hq : isQ q = true
  · have hm : ∀ s t : Nat, s ≤ t → min ((s * facN q + offN q i + 2) / 4) 4398046511104 ≤ min ((t * facN q + offN q i + 2) / 4) 4398046511104 := fun s t hst => by
      have := Nat.mul_le_mul_right (facN q) hst
      omega
    by_cases h1 : c = 0 <;> by_cases h2 : d = 0
    · rw [if_neg (fun h => h.2 h1), if_neg (fun h => h.2 h2)]; omega
    · rw [if_neg (fun h => h.2 h1), if_pos ⟨hq, h2⟩]
      unfold sgn
      rw [if_neg (by omega)]; omega
    · rw [if_pos ⟨hq, h1⟩, if_neg (fun h => h.2 h2)]
      unfold sgn
      rw [if_pos (by omega)]; omega
    · rw [if_pos ⟨hq, h1⟩, if_pos ⟨hq, h2⟩]
      unfold sgn
      by_cases hc : c < 0
      · rw [if_pos hc]
        by_cases hd : d < 0
        · rw [if_pos hd]
          have := hm (sizeN d) (sizeN c) (by unfold sizeN; omega)
          omega
        · rw [if_neg hd]; omega
      · rw [if_neg hc, if_neg (by omega)]
        have := hm (sizeN c) (sizeN d) (by unfold sizeN; omega)
        omega
  · rw [if_neg (fun h => hq h.1), if_neg (fun h => hq h.1)]; omega
/-- A greater quantiser makes no greater number. -/
theorem there_coarser {v q : Int} (h0 : 0 ≤ q) (h1 : q ≤ 59) : (thereQ v (q + 1)).natAbs ≤ (thereQ v q).natAbs := by
  have hq : isQ q = true := by simp [isQ]; omega
  have hq1 : isQ (q + 1) = true := by simp [isQ]; omega
  obtain ⟨n, hn, rfl⟩ := isQ_cases hq
  have hf := (facN_all n hn false).2.2.1 (by omega)
  have h4 := (facN_of hq false).1
  rw [thereQ, thereQ, if_pos hq, if_pos hq1, sgn_abs, sgn_abs]
  exact Nat.div_le_div_left (Nat.le_of_lt hf) (by omega)
/-- What came back goes there as it was. -/
theorem there_again {v q : Int} (hq : isQ q = true) (i : Bool) (hv : v.natAbs ≤ 1099511627776) : thereQ (backQ (thereQ v q) q i) q = thereQ v q := by
  obtain ⟨c, p, b, h1, h2, h3, h4, h5, h6⟩ := back_parts hq i (by omega : v.natAbs ≤ 2199023255550)
  obtain ⟨f4, f5, o1, o2⟩ := facN_of hq i
  have hs : sizeN (sgn v b) = b := by rw [sizeN_of (by rw [sgn_abs]; rcases h6 with ⟨_, rfl⟩ | ⟨_, rfl⟩ <;> omega), sgn_abs]
  have hb : b * 4 / facN q = c := by
    rcases h6 with ⟨rfl, rfl⟩ | ⟨h0, rfl⟩
    · simp
    · refine Nat.div_eq_of_lt_le ?_ ?_
      · rw [h2]; omega
      · rw [Nat.succ_mul, h2]; omega
  rw [h5, thereQ, if_pos hq, hs, hb, h1]
  rcases h6 with ⟨rfl, rfl⟩ | ⟨h0, rfl⟩
  · unfold sgn; split <;> split <;> simp
  · have hp : facN q ≤ p := by rw [← h2]; exact Nat.le_mul_of_pos_left _ h0
    have hb0 : 0 < (p + offN q i + 2) / 4 := by omega
    generalize (p + offN q i + 2) / 4 = b at hb0
    unfold sgn
    by_cases hn : v < 0
    · rw [if_pos hn, if_pos hn, if_pos (by omega)]
    · rw [if_neg hn, if_neg hn, if_neg (by omega)]
end Go.Proofs.YtemfepnmihclkaaDoor
