/-
  Law 12, SplitCovers, by plain functions: which places were told, of parts told in their order.
-/
import Derived.Test.YtfnacnelmkemeaaSplitM
namespace Go.Proofs.Ytfnacnelmkemeaa
open Go.RowKit

/-- The place's number within a part. -/
def rankP (r : RectN) (px py : Nat) : Nat := (py - r.y) * r.w + (px - r.x)
/-- Was place j told, when the first k parts and N places of part k were? -/
def covP (x y d c k N j : Nat) : Nat := if ofK x y d c (j % x) (j / x) < k then 1 else if ofK x y d c (j % x) (j / x) = k ∧ rankP (partK x y d c k) (j % x) (j / x) < N then 1 else 0
/-- Place N of a part. -/
def atP12 (r : RectN) (x N : Nat) : Nat := (r.y + N / r.w) * x + (r.x + N % r.w)
theorem covP_zero (x y d c j : Nat) : covP x y d c 0 0 j = 0 := by
  unfold covP
  rw [if_neg (by omega), if_neg (by omega)]
theorem place_in {x y d c k N : Nat} (h1 : 1 ≤ x) (h3 : 1 ≤ y) (h5 : 1 ≤ d) (h7 : 1 ≤ c) (hk : k < d * c) (hN : N < (partK x y d c k).w * (partK x y d c k).h) :
    ((partK x y d c k).x + N % (partK x y d c k).w < x ∧ (partK x y d c k).y + N / (partK x y d c k).w < y) ∧ ofK x y d c ((partK x y d c k).x + N % (partK x y d c k).w) ((partK x y d c k).y + N / (partK x y d c k).w) = k := by
  have hw := partK_within (w := x) (h := y) h5 h7 hk
  generalize hR : partK x y d c k = R at *
  have hw0 : 0 < R.w := by
    rcases Nat.eq_zero_or_pos R.w with h | h
    · rw [h, Nat.zero_mul] at hN; omega
    · exact h
  have hm := Nat.mod_lt N hw0
  have hd : N / R.w < R.h := by rw [Nat.div_lt_iff_lt_mul hw0, Nat.mul_comm]; exact hN
  generalize N / R.w = t at *
  generalize N % R.w = u at *
  refine ⟨by omega, ?_⟩
  have := (inK_iff (k := k) (w := x) (h := y) (m := d) (n := c) (x := R.x + u) (y := R.y + t) h1 h3 h5 h7 (by omega)).1 (by rw [hR]; unfold inR; omega)
  exact this.symm
theorem flat_of {x px py : Nat} (h : px < x) : (py * x + px) % x = px ∧ (py * x + px) / x = py := by
  constructor
  · rw [Nat.mul_comm, Nat.mul_add_mod, Nat.mod_eq_of_lt h]
  · rw [Nat.mul_comm, Nat.mul_add_div (show 0 < x by omega), Nat.div_eq_of_lt h, Nat.add_zero]
theorem covP_here {x y d c k N : Nat} (h1 : 1 ≤ x) (h3 : 1 ≤ y) (h5 : 1 ≤ d) (h7 : 1 ≤ c) (hk : k < d * c) (hN : N < (partK x y d c k).w * (partK x y d c k).h) : covP x y d c k N (atP12 (partK x y d c k) x N) = 0 := by
  obtain ⟨⟨a1, a2⟩, a3⟩ := place_in h1 h3 h5 h7 hk hN
  unfold covP atP12
  rw [(flat_of a1).1, (flat_of a1).2, a3, if_neg (by omega), if_neg]
  rintro ⟨_, h⟩
  unfold rankP at h
  rw [Nat.add_sub_cancel_left, Nat.add_sub_cancel_left, Nat.mul_comm, Nat.div_add_mod] at h
  omega
theorem covP_step {x y d c k N : Nat} (h1 : 1 ≤ x) (h3 : 1 ≤ y) (h5 : 1 ≤ d) (h7 : 1 ≤ c) (hk : k < d * c) (hN : N < (partK x y d c k).w * (partK x y d c k).h) (j : Nat) :
    covP x y d c k (N + 1) j = if j = atP12 (partK x y d c k) x N then 1 else covP x y d c k N j := by
  obtain ⟨⟨a1, a2⟩, a3⟩ := place_in h1 h3 h5 h7 hk hN
  by_cases e : j = atP12 (partK x y d c k) x N
  · rw [if_pos e, e]
    unfold covP atP12
    rw [(flat_of a1).1, (flat_of a1).2, a3, if_neg (by omega), if_pos]
    refine ⟨rfl, ?_⟩
    unfold rankP
    rw [Nat.add_sub_cancel_left, Nat.add_sub_cancel_left, Nat.mul_comm, Nat.div_add_mod]
    omega
  · rw [if_neg e]
    unfold covP
    by_cases e1 : ofK x y d c (j % x) (j / x) < k
    · rw [if_pos e1, if_pos e1]
    · rw [if_neg e1, if_neg e1]
      by_cases e2 : ofK x y d c (j % x) (j / x) = k
      · have hin := (inK_iff (k := k) (w := x) (h := y) (m := d) (n := c) (x := j % x) (y := j / x) h1 h3 h5 h7 (Nat.mod_lt _ (by omega))).2 e2.symm
        have hne : rankP (partK x y d c k) (j % x) (j / x) ≠ N := by
          intro hr
          refine e ?_
          unfold inR at hin
          unfold rankP at hr
          unfold atP12
          generalize partK x y d c k = R at *
          have f1 : N % R.w = j % x - R.x := by rw [← hr, Nat.mul_comm, Nat.mul_add_mod, Nat.mod_eq_of_lt (by omega)]
          have f2 : N / R.w = j / x - R.y := by rw [← hr, Nat.mul_comm, Nat.mul_add_div (show 0 < R.w by omega), Nat.div_eq_of_lt (show j % x - R.x < R.w by omega), Nat.add_zero]
          rw [f1, f2, show R.y + (j / x - R.y) = j / x by omega, show R.x + (j % x - R.x) = j % x by omega, Nat.mul_comm, Nat.div_add_mod]
        by_cases e3 : rankP (partK x y d c k) (j % x) (j / x) < N
        · rw [if_pos ⟨e2, by omega⟩, if_pos ⟨e2, e3⟩]
        · rw [if_neg (by omega), if_neg (by omega)]
      · rw [if_neg (fun h => e2 h.1), if_neg (fun h => e2 h.1)]
/-- A part told whole. -/
theorem covP_next {x y d c k : Nat} (h1 : 1 ≤ x) (h3 : 1 ≤ y) (h5 : 1 ≤ d) (h7 : 1 ≤ c) (j : Nat) :
    covP x y d c k ((partK x y d c k).w * (partK x y d c k).h) j = covP x y d c (k + 1) 0 j := by
  unfold covP
  by_cases e1 : ofK x y d c (j % x) (j / x) < k
  · rw [if_pos e1, if_pos (by omega)]
  · rw [if_neg e1]
    by_cases e2 : ofK x y d c (j % x) (j / x) = k
    · rw [if_pos (show _ < k + 1 by omega), if_pos]
      refine ⟨e2, ?_⟩
      have hin := (inK_iff (k := k) (w := x) (h := y) (m := d) (n := c) (x := j % x) (y := j / x) h1 h3 h5 h7 (Nat.mod_lt _ (by omega))).2 e2.symm
      unfold inR at hin
      unfold rankP
      generalize partK x y d c k = R at *
      have : (j / x - R.y) * R.w + R.w ≤ R.h * R.w := by rw [← Nat.succ_mul]; exact Nat.mul_le_mul_right _ (by omega)
      rw [Nat.mul_comm R.h] at this
      omega
    · rw [if_neg (fun h => e2 h.1), if_neg (by omega), if_neg (by omega)]
theorem covP_all {x y d c j : Nat} (h1 : 1 ≤ x) (h5 : 1 ≤ d) (h7 : 1 ≤ c) (hj : j < x * y) : covP x y d c (d * c) 0 j = 1 := by
  have hx := Nat.mod_lt j (show 0 < x by omega)
  have hy : j / x < y := by rw [Nat.div_lt_iff_lt_mul (by omega), Nat.mul_comm]; exact hj
  unfold covP
  rw [if_pos (ofK_lt h5 h7 hx hy)]
theorem atP12_lt {x y d c k N : Nat} (h1 : 1 ≤ x) (h3 : 1 ≤ y) (h5 : 1 ≤ d) (h7 : 1 ≤ c) (hk : k < d * c) (hN : N < (partK x y d c k).w * (partK x y d c k).h) : atP12 (partK x y d c k) x N < x * y := by
  obtain ⟨⟨a1, a2⟩, _⟩ := place_in h1 h3 h5 h7 hk hN
  unfold atP12
  have : ((partK x y d c k).y + N / (partK x y d c k).w) * x + x ≤ y * x := by rw [← Nat.succ_mul]; exact Nat.mul_le_mul_right _ (by omega)
  rw [Nat.mul_comm y] at this
  omega
theorem wide_near {x y d c k : Nat} (h5 : 1 ≤ d) : x / d ≤ (partK x y d c k).w ∧ (partK x y d c k).w ≤ x / d + 1 := sideP_near h5
end Go.Proofs.Ytfnacnelmkemeaa
