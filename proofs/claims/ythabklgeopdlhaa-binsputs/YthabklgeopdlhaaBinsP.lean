/-
  Package bins: a set in memory, and the small functions.
-/
import Derived.Test.YthabklgeopdlhaaBinsQ
import Derived.Test.YthabklgeopdlhaaLen64
import Derived.Test.YthabklgeopdlhaaArgs
import Derived.Lib.BitFns
import Derived.BigQuiet
namespace Go.Proofs.Ythabklgeopdlhaa
open Go.RowKit

/-- The Follow of a set: its n numbers are V, and they lie in block b. -/
structure SetV (w : World) (a : Option Addr) (n cap : Nat) (V : Nat → Int) (b : Nat) : Prop where
  le : n ≤ cap
  most : cap ≤ maxLen
  at' : 0 < n → ∃ off, a = some ⟨b, off, none⟩ ∧ ∀ j, j < n → w.cell? ⟨b, off + j, none⟩ = some (.int .i64 (V j))

theorem SetV.fr {w w' : World} {a : Option Addr} {n cap : Nat} {V : Nat → Int} {b : Nat} {S : Nat → Prop} (h : SetV w a n cap V b) (f : Fr S w w') (hb : 0 < n → ¬ S b) : SetV w' a n cap V b := by
  refine ⟨h.le, h.most, fun hn => ?_⟩
  obtain ⟨off, e, hc⟩ := h.at' hn
  exact ⟨off, e, fun j hj => (f.cell (p := ⟨b, off + j, none⟩) (cell_lt (hc j hj)) (hb hn)).trans (hc j hj)⟩
theorem SetV.quiet {w w' : World} {a : Option Addr} {n cap : Nat} {V : Nat → Int} {b : Nat} (h : SetV w a n cap V b) (f : Fr (fun _ => False) w w') : SetV w' a n cap V b := h.fr f (fun _ h => h)
theorem SetV.lt {w : World} {a : Option Addr} {n cap : Nat} {V : Nat → Int} {b : Nat} (h : SetV w a n cap V b) (hn : 0 < n) : b < w.heap.size := by
  obtain ⟨off, _, hc⟩ := h.at' hn
  exact cell_lt (hc 0 hn)
theorem SetV.of_in {w : World} {a : Option Addr} {n cap : Nat} {V : Nat → Int} (h : CellsIn w a n cap (fun i => .int .i64 (V i))) : ∃ b, SetV w a n cap V b ∧ (0 < n → b < w.heap.size) := by
  by_cases hn : 0 < n
  · obtain ⟨b, off, rfl, hc⟩ := h.at hn
    exact ⟨b, ⟨h.1, h.2.1, fun _ => ⟨off, rfl, hc⟩⟩, fun _ => cell_lt (hc 0 hn)⟩
  · exact ⟨0, ⟨h.1, h.2.1, fun h => absurd h hn⟩, fun h => absurd h hn⟩

theorem mayBe_any (z : Int) (w : World) :
    Calls Try.prog 34 #[.int .i64 z] w fun e w' => e = .returned (.bool (okN z)) ∧ w' = w := by
  have HC : Hid (okN z = decide (0 ≤ z ∧ z ≤ 2199023255550)) := (Eq.refl (okN z))
  by_cases h0 : 0 ≤ z
  · by_cases h1 : z ≤ 2199023255550
    · go_enter Try.func34, Try.ntmps34
      go_wp2
      go_ret
      exact ⟨ret_bool (by rw [HC.out]; simp; omega), rfl⟩
    · go_enter Try.func34, Try.ntmps34
      go_wp2
      go_ret
      exact ⟨ret_bool (by rw [HC.out]; simp; omega), rfl⟩
  · have h0' : decide (0 ≤ z) = false := by simp; omega
    go_enter Try.func34, Try.ntmps34
    go_wp2
    go_ret
    exact ⟨ret_bool (by rw [HC.out]; simp; omega), rfl⟩

theorem bunsigned_any (z : Int) (w : World) (h0 : -9223372036854775808 ≤ z) (h1 : z ≤ 9223372036854775807) :
    Calls Try.prog 39 #[.int .i64 z] w fun e w' => e = .returned (.int .i64 (unsN z)) ∧ w' = w := by
  by_cases hz : z < 0
  · have HU : Hid (unsN z = IntKind.i64.wrap (-z)) := by
      show _ = _
      rw [IntKind.wrap_i64]
      unfold unsN
      rw [if_pos hz]
      split <;> omega
    go_enter Try.func39, Try.ntmps39
    go_wp2
    go_ret
    exact ⟨ret_int (by rw [HU.out, IntKind.wrap_i64, wrap64]), rfl⟩
  · have HU : Hid (unsN z = z) := by
      show _ = _
      unfold unsN
      rw [if_neg hz]
    go_enter Try.func39, Try.ntmps39
    go_wp2
    go_ret
    exact ⟨ret_int HU.out.symm, rfl⟩

theorem bitLen_ndig (v : Nat) (h : v < 2 ^ 63) : Lib.bitLen (v + 1) = ndig v + 1 := by
  obtain ⟨h1, h2⟩ := ndig_bounds v
  rw [Lib.bitLen_shift (ndig v) (v + 1) h1 (by omega)]
  have : (v + 1) / 2 ^ ndig v = 1 := by
    rw [Nat.pow_succ] at h2
    have hp : 0 < 2 ^ ndig v := Nat.pow_pos (by decide)
    have a : 1 ≤ (v + 1) / 2 ^ ndig v := (Nat.le_div_iff_mul_le hp).2 (by omega)
    have b : (v + 1) / 2 ^ ndig v < 2 := (Nat.div_lt_iff_lt_mul hp).2 (by omega)
    omega
  rw [this]
  rfl

theorem bdigits_any (v : Nat) (w : World) (h1 : v ≤ 2199023255550) :
    Calls Try.prog 36 #[.int .i64 (v : Int)] w fun e w' => e = .returned (.int .i64 ((ndig v : Nat) : Int)) ∧ w' = w := by
  have hb := bitLen_ndig v (by omega)
  have he : ((v : Int) + 1).toNat = v + 1 := by omega
  rw [← he] at hb
  have hl := ndig_le v (by omega)
  have HB : Hid (Lib.bitLen ((v : Int) + 1).toNat = ndig v + 1) := hb
  clear hb he
  generalize ndig v = n at hl HB ⊢
  go_enter Try.func36, Try.ntmps36
  go_wp2_with fail
  refine (len64_any _ _ (by omega) (by omega)).mono ?_
  rintro e w1 ⟨rfl, rfl⟩
  rw [HB.out]
  go_wp2
  go_ret
  exact ⟨ret_int (by omega), rfl⟩

/-- The least of the first k + 1 numbers. -/
def minV (V : Nat → Int) : Nat → Int
  | 0 => V 0
  | k + 1 => min (minV V k) (V (k + 1))
def maxV (V : Nat → Int) : Nat → Int
  | 0 => V 0
  | k + 1 => max (maxV V k) (V (k + 1))
theorem minV_le (V : Nat → Int) : ∀ k i, i ≤ k → minV V k ≤ V i
  | 0, i, h => by obtain rfl : i = 0 := by omega
                  exact Int.le_refl _
  | k + 1, i, h => by
    rw [minV]
    by_cases e : i = k + 1
    · subst e; omega
    · have := minV_le V k i (by omega); omega
theorem minV_mem (V : Nat → Int) : ∀ k, ∃ i, i ≤ k ∧ minV V k = V i
  | 0 => ⟨0, Nat.le_refl _, rfl⟩
  | k + 1 => by
    obtain ⟨i, hi, e⟩ := minV_mem V k
    rw [minV]
    by_cases h : minV V k ≤ V (k + 1)
    · exact ⟨i, by omega, by omega⟩
    · exact ⟨k + 1, by omega, by omega⟩
theorem maxV_le (V : Nat → Int) : ∀ k i, i ≤ k → V i ≤ maxV V k
  | 0, i, h => by obtain rfl : i = 0 := by omega
                  exact Int.le_refl _
  | k + 1, i, h => by
    rw [maxV]
    by_cases e : i = k + 1
    · subst e; omega
    · have := maxV_le V k i (by omega); omega
theorem maxV_mem (V : Nat → Int) : ∀ k, ∃ i, i ≤ k ∧ maxV V k = V i
  | 0 => ⟨0, Nat.le_refl _, rfl⟩
  | k + 1 => by
    obtain ⟨i, hi, e⟩ := maxV_mem V k
    rw [maxV]
    by_cases h : V (k + 1) ≤ maxV V k
    · exact ⟨i, by omega, by omega⟩
    · exact ⟨k + 1, by omega, by omega⟩

theorem smin_any (w : World) (a : Option Addr) (n cap : Nat) (V : Nat → Int) (b : Nat) (h : SetV w a n cap V b) (hn : 0 < n) :
    Calls Try.prog 58 #[.slice a n cap] w fun e w' => e = .returned (.int .i64 (minV V (n - 1))) ∧ w' = w := by
  obtain ⟨off, rfl, hc⟩ := h.at' hn
  have hm : (n : Int) ≤ 9223372036854775807 := by have := h.le; have := h.most; unfold maxLen at *; omega
  have hn1 : ¬ (n : Int) < 1 := by omega
  have hn0 : (0 : Int) < (n : Int) := by omega
  have c0 := hc 0 hn
  rw [Nat.add_zero] at c0
  go_enter Try.func58, Try.ntmps58
  go_wp2
  go_loopw [3, 4] (fun m i wr => ∃ k : Nat, k < n ∧ i = .int .i64 ((k : Int) + 1) ∧ m = .int .i64 (minV V k) ∧ SameW wr w) (fun _ i _ => n + 1 - (intOf i).toNat)
  case atStart => exact ⟨0, hn, rfl, rfl, SameW.rfl⟩
  case round =>
    obtain ⟨k, hk, rfl, rfl, hw⟩ := hrel
    obtain rfl : w = wr := Eq.symm hw
    by_cases hlt : k + 1 < n
    · have hki : (k : Int) + 1 < (n : Int) := by omega
      have ck := hc (k + 1) hlt
      obtain ⟨m0, hm0⟩ : ∃ m0, m0 = minV V k := ⟨_, rfl⟩
      obtain ⟨vk, hvk⟩ : ∃ vk, vk = V (k + 1) := ⟨_, rfl⟩
      rw [← hvk] at ck
      rw [← hm0]
      have H0 := hid hm0
      have H1 := hid hvk
      clear hm0 hvk
      go_wp2
      all_goals
        go_roundw
        case rel => exact ⟨k + 1, by omega, by go_num, by rw [minV, ← H0.out, ← H1.out], SameW.rfl⟩
        case measure => simp [intOf]; omega
    · have hki : ¬ (k : Int) + 1 < (n : Int) := by omega
      have e1 : n - 1 = k := by omega
      go_wp2
      go_ret
      exact ⟨rfl, rfl⟩

theorem smax_any (w : World) (a : Option Addr) (n cap : Nat) (V : Nat → Int) (b : Nat) (h : SetV w a n cap V b) (hn : 0 < n) :
    Calls Try.prog 59 #[.slice a n cap] w fun e w' => e = .returned (.int .i64 (maxV V (n - 1))) ∧ w' = w := by
  obtain ⟨off, rfl, hc⟩ := h.at' hn
  have hm : (n : Int) ≤ 9223372036854775807 := by have := h.le; have := h.most; unfold maxLen at *; omega
  have hn1 : ¬ (n : Int) < 1 := by omega
  have hn0 : (0 : Int) < (n : Int) := by omega
  have c0 := hc 0 hn
  rw [Nat.add_zero] at c0
  go_enter Try.func59, Try.ntmps59
  go_wp2
  go_loopw [3, 4] (fun m i wr => ∃ k : Nat, k < n ∧ i = .int .i64 ((k : Int) + 1) ∧ m = .int .i64 (maxV V k) ∧ SameW wr w) (fun _ i _ => n + 1 - (intOf i).toNat)
  case atStart => exact ⟨0, hn, rfl, rfl, SameW.rfl⟩
  case round =>
    obtain ⟨k, hk, rfl, rfl, hw⟩ := hrel
    obtain rfl : w = wr := Eq.symm hw
    by_cases hlt : k + 1 < n
    · have hki : (k : Int) + 1 < (n : Int) := by omega
      have ck := hc (k + 1) hlt
      obtain ⟨m0, hm0⟩ : ∃ m0, m0 = maxV V k := ⟨_, rfl⟩
      obtain ⟨vk, hvk⟩ : ∃ vk, vk = V (k + 1) := ⟨_, rfl⟩
      rw [← hvk] at ck
      rw [← hm0]
      have H0 := hid hm0
      have H1 := hid hvk
      clear hm0 hvk
      go_wp2
      all_goals
        go_roundw
        case rel => exact ⟨k + 1, by omega, by go_num, by rw [maxV, ← H0.out, ← H1.out], SameW.rfl⟩
        case measure => simp [intOf]; omega
    · have hki : ¬ (k : Int) + 1 < (n : Int) := by omega
      have e1 : n - 1 = k := by omega
      go_wp2
      go_ret
      exact ⟨rfl, rfl⟩

theorem bfollow_any (w : World) (a : Option Addr) (n cap : Nat) (V : Nat → Int) (b : Nat) (D S : Int) (i : Nat) (h : SetV w a n cap V b) (hn : 0 < n) :
    Calls Try.prog 38 #[.agg #[.slice a n cap, .int .i64 D, .int .i64 S], .int .i64 (i : Int)] w fun e w' => e = .returned (.int .i64 (fol V n i)) ∧ Fr (fun _ => False) w w' := by
  obtain ⟨off, rfl, hc⟩ := h.at' hn
  have hm : (n : Int) ≤ 9223372036854775807 := by have := h.le; have := h.most; unfold maxLen at *; omega
  have hb := h.lt hn
  have hn0 : (0 : Int) < (n : Int) := by omega
  obtain ⟨k, hk⟩ : ∃ k, k = min i (n - 1) := ⟨_, rfl⟩
  have ck := hc k (by omega)
  have HV : Hid (fol V n i = V k) := by show _ = _; unfold fol; rw [hk]
  have ck' := ((Fr.refl (fun _ => False) w).alloc (.cells #[.slice (some ⟨b, off, none⟩) n cap, .int .i64 D, .int .i64 S] 24)).cell (p := ⟨b, off + k, none⟩) (cell_lt ck) (fun h => h)
  rw [ck] at ck'
  have hmin : min (i : Int) ((n : Int) - 1) = (k : Int) := by omega
  have hki : (k : Int) < (n : Int) := by omega
  clear hk
  go_enter Try.func38, Try.ntmps38
  go_wp2
  go_ret
  exact ⟨ret_int HV.out.symm, (Fr.refl _ w).alloc _⟩

/-- right. -/
theorem bright_any (w : World) (a : Option Addr) (n cap : Nat) (V : Nat → Int) (b : Nat) (D S : Int) (x : Option Addr) (c cap2 : Nat) (h : SetV w a n cap V b) :
    Calls Try.prog 35 #[.agg #[.slice a n cap, .int .i64 D, .int .i64 S], .slice x c cap2] w fun e w' => e = .returned (.bool (rightS V n D S c)) ∧ Fr (fun _ => False) w w' := by
  have hm : (n : Int) ≤ 9223372036854775807 := by have := h.le; have := h.most; unfold maxLen at *; omega
  by_cases hn : 0 < n
  · have hn0 : (0 : Int) < (n : Int) := by omega
    have hnd : decide ((0 : Int) < (n : Int)) = true := by simpa using hn0
    obtain ⟨w1, hw1⟩ : ∃ w1, w1 = w.alloc (.cells #[.slice a n cap, .int .i64 D, .int .i64 S] 24) := ⟨_, rfl⟩
    have h1 : SetV w1 a n cap V b := by rw [hw1]; exact h.quiet ((Fr.refl (fun _ => False) w).alloc _)
    have HMi : Hid (∀ m, Calls Try.prog 58 #[.slice a n cap] (w1.drewN m) fun e w' => e = .returned (.int .i64 (minV V (n - 1))) ∧ w' = w1.drewN m) := fun m => smin_any _ a n cap V b (h1.quiet ((Fr.refl (fun _ => False) w1).drewN m)) hn
    have HMa : Hid (∀ m, Calls Try.prog 59 #[.slice a n cap] (w1.drewN m) fun e w' => e = .returned (.int .i64 (maxV V (n - 1))) ∧ w' = w1.drewN m) := fun m => smax_any _ a n cap V b (h1.quiet ((Fr.refl (fun _ => False) w1).drewN m)) hn
    have HR : Hid (rightS V n D S c = (decide (0 ≤ min (min D S) (minV V (n - 1))) && decide (max (max D S) (maxV V (n - 1)) < (c : Int)))) := by
      show _ = _
      have a1 := minV_le V (n - 1)
      have a2 := maxV_le V (n - 1)
      obtain ⟨i1, b1, e1⟩ := minV_mem V (n - 1)
      obtain ⟨i2, b2, e2⟩ := maxV_mem V (n - 1)
      rw [← Bool.decide_and]
      unfold rightS
      apply decide_eq_decide.2
      constructor
      · rintro ⟨_, q1, q2, q3⟩
        have := q3 i1 (by omega)
        have := q3 i2 (by omega)
        omega
      · intro hq
        refine ⟨hn, by omega, by omega, fun i hi => ?_⟩
        have := a1 i (by omega)
        have := a2 i (by omega)
        omega
    have k0 : w1.cell? ⟨w.heap.size, 0, none⟩ = some (.slice a n cap) := by rw [hw1, (Blk.new w _ _).cell]; rfl
    have k1 : w1.cell? ⟨w.heap.size, 1, none⟩ = some (.int .i64 D) := by rw [hw1, (Blk.new w _ _).cell]; rfl
    have k2 : w1.cell? ⟨w.heap.size, 2, none⟩ = some (.int .i64 S) := by rw [hw1, (Blk.new w _ _).cell]; rfl
    have F1 : Fr (fun _ => False) w w1 := by rw [hw1]; exact (Fr.refl _ w).alloc _
    have HW := hid hw1
    clear hw1
    generalize minV V (n - 1) = mi at *
    generalize maxV V (n - 1) = ma at *
    obtain ⟨mm, hM⟩ : ∃ mm, (if mi < if S < D then S else D then mi else if S < D then S else D) = mm := ⟨_, rfl⟩
    have hmm : min (min D S) mi = mm := by rw [← hM]; split <;> split <;> omega
    rw [hmm] at HR
    clear hmm
    obtain ⟨mx, hX⟩ : ∃ mx, (if D < S then S else D) = mx := ⟨_, rfl⟩
    have HX : Hid (max D S = mx) := by show _ = _; rw [← hX]; split <;> omega
    by_cases hq : 0 ≤ mm
    · have hqd : decide (0 ≤ mm) = true := by simpa using hq
      rw [hqd, Bool.true_and] at HR
      go_enter Try.func35, Try.ntmps35
      go_wp2
      rw [← HW.out]
      go_quiet (first | (go_at_call 58; exact Calls.quiet_of_same (HMi.out _)) | (go_at_call 59; exact Calls.quiet_of_same (HMa.out _)))
      go_wp2
      all_goals go_ret
      all_goals refine ⟨ret_bool ?_, F1.drewN _⟩
      all_goals rw [HR.out, HX.out]
      all_goals apply decide_eq_decide.2
      all_goals omega
    · have hqd : decide (0 ≤ mm) = false := by simpa using hq
      rw [hqd, Bool.false_and] at HR
      go_enter Try.func35, Try.ntmps35
      go_wp2
      rw [← HW.out]
      go_quiet (first | (go_at_call 58; exact Calls.quiet_of_same (HMi.out _)) | (go_at_call 59; exact Calls.quiet_of_same (HMa.out _)))
      go_wp2
      go_ret
      exact ⟨ret_bool HR.out.symm, F1.drewN _⟩
  · obtain rfl : n = 0 := by omega
    rw [rightS_zero]
    have hnd : decide ((0 : Int) < ((0 : Nat) : Int)) = false := by decide
    go_enter Try.func35, Try.ntmps35
    go_wp2
    go_quiet (fail)
    go_wp2
    go_ret
    exact ⟨rfl, ((Fr.refl _ w).alloc _).drewN _⟩

end Go.Proofs.Ythabklgeopdlhaa
