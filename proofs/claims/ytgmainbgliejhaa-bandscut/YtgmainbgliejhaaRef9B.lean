/-
  The document's answer for layer 9: powers of two, planes that fit, sides that are padded.
-/
import Derived.Test.YtgmainbgliejhaaRef7A
import Derived.Test.YtgmainbgliejhaaWaveF
namespace Go.Proofs.Ytgmainbgliejhaa
open Go.RowKit

/-- Two to a power. -/
theorem rpow_any (n : Nat) (hn : n ≤ 6) (w : World) :
    Calls Try.prog 36 #[.int .i64 (n : Int)] w fun e w' => e = .returned (.int .i64 ((2 ^ n : Nat) : Int)) ∧ w' = w := by
  go_enter Try.func36, Try.ntmps36
  go_wp2
  go_loopw [3, 4] (fun p i wr => ∃ k : Nat, k ≤ n ∧ p = .int .i64 ((2 ^ k : Nat) : Int) ∧ i = .int .i64 (k : Int) ∧ SameW wr w) (fun _ i _ => n - (intOf i).toNat)
  case atStart => exact ⟨0, Nat.zero_le _, rfl, rfl, SameW.rfl⟩
  case round =>
    obtain ⟨k, hk, rfl, rfl, hw⟩ := hrel
    obtain rfl : w = wr := Eq.symm hw
    have hp := (pow_small (k := k) (by omega)).2
    by_cases hlt : k < n
    · have hki : (k : Int) < (n : Int) := by omega
      have HU : Hid (2 ^ (k + 1) = 2 ^ k * 2) := hid (Nat.pow_succ 2 k)
      obtain ⟨u, hu⟩ : ∃ u, u = 2 ^ k := ⟨_, rfl⟩
      rw [← hu] at hp HU ⊢
      clear hu hw
      go_wp2
      go_roundw
      case rel => exact ⟨k + 1, by omega, by rw [HU.out]; go_num, by go_num, SameW.rfl⟩
      case measure => simp [intOf]; omega
    · have hki : ¬ (k : Int) < (n : Int) := by omega
      obtain rfl : k = n := by omega
      obtain ⟨u, hu⟩ : ∃ u, u = 2 ^ k := ⟨_, rfl⟩
      rw [← hu] at hp ⊢
      have HUU := hid hu
      clear hu hw
      go_wp2
      go_ret
      exact ⟨ret_int (by rw [HUU.out]; simp), rfl⟩

theorem padU_lo {n u : Nat} (hu : 1 ≤ u) : n ≤ padU n u ∧ padU n u < n + u ∧ padU n u % u = 0 := by
  unfold padU
  have h1 := Nat.div_add_mod (n + u - 1) u
  have h2 := Nat.mod_lt (n + u - 1) (show u > 0 by omega)
  rw [Nat.mul_comm] at h1
  exact ⟨by omega, by omega, Nat.mul_mod_left _ _⟩
theorem padU_least {n u z : Nat} (hu : 1 ≤ u) (h1 : n ≤ z) (h2 : z ≤ padU n u) (h3 : z % u = 0) : z = padU n u := by
  obtain ⟨a, b, c⟩ := padU_lo (n := n) hu
  have e1 := Nat.div_add_mod z u
  have e2 := Nat.div_add_mod (padU n u) u
  rw [h3] at e1
  rw [c] at e2
  generalize z / u = p at *
  generalize padU n u = P at *
  generalize P / u = q at *
  have : p = q := by
    rcases Nat.lt_trichotomy p q with h | h | h
    · have := Nat.mul_le_mul_left u (show p + 1 ≤ q from h)
      rw [Nat.mul_add, Nat.mul_one] at this
      omega
    · exact h
    · have := Nat.mul_le_mul_left u (show q + 1 ≤ p from h)
      rw [Nat.mul_add, Nat.mul_one] at this
      omega
  rw [this] at e1
  omega
theorem rpadded_any (z d : Int) (w : World) :
    Calls Try.prog 23 #[.int .i64 z, .int .i64 d] w fun e w' => e = .returned (.int .i64 (padN z d)) ∧ w' = w := by
  by_cases h1 : z < 1
  · have HR := hid (padN_out (z := z) (d := d) (by omega))
    have g1 : decide (z < 1) = true := decide_eq_true h1
    go_enter Try.func23, Try.ntmps23
    go_wp2
    go_ret
    exact ⟨ret_int HR.out.symm, rfl⟩
  have g1 : decide (z < 1) = false := decide_eq_false h1
  by_cases h2 : 1024 < z
  · have HR := hid (padN_out (z := z) (d := d) (by omega))
    have g2 : decide (1024 < z) = true := decide_eq_true h2
    go_enter Try.func23, Try.ntmps23
    go_wp2
    go_ret
    exact ⟨ret_int HR.out.symm, rfl⟩
  have g2 : decide (1024 < z) = false := decide_eq_false h2
  by_cases h3 : d < 0
  · have HR := hid (padN_out (z := z) (d := d) (by omega))
    have g3 : decide (d < 0) = true := decide_eq_true h3
    go_enter Try.func23, Try.ntmps23
    go_wp2
    go_ret
    exact ⟨ret_int HR.out.symm, rfl⟩
  have g3 : decide (d < 0) = false := decide_eq_false h3
  by_cases h4 : 6 < d
  · have HR := hid (padN_out (z := z) (d := d) (by omega))
    have g4 : decide (6 < d) = true := decide_eq_true h4
    go_enter Try.func23, Try.ntmps23
    go_wp2
    go_ret
    exact ⟨ret_int HR.out.symm, rfl⟩
  have g4 : decide (6 < d) = false := decide_eq_false h4
  obtain ⟨k, rfl⟩ := Int.eq_ofNat_of_zero_le (show 0 ≤ d by omega)
  obtain ⟨n, rfl⟩ := Int.eq_ofNat_of_zero_le (show 0 ≤ z by omega)
  have hk : k ≤ 6 := by omega
  have HR := hid (padN_in (n := n) (k := k) (by omega) (by omega) hk)
  obtain ⟨hu1, hu2⟩ := pow_small hk
  have HPow := hid (fun w => rpow_any k hk w)
  obtain ⟨u, hu⟩ : ∃ u, u = 2 ^ k := ⟨_, rfl⟩
  rw [← hu] at hu1 hu2 HR HPow
  have HLo := hid (padU_lo (n := n) (u := u) hu1)
  have HLeast := hid (fun z h1 h2 h3 => padU_least (n := n) (u := u) (z := z) hu1 h1 h2 h3)
  obtain ⟨p, hp⟩ : ∃ p, p = padU n u := ⟨_, rfl⟩
  rw [← hp] at HLo HLeast HR
  have hpm : p ≤ 2000 := by have := HLo.out; omega
  have hu0 : ¬ (u : Int) = 0 := by omega
  clear hu hp
  go_enter Try.func23, Try.ntmps23
  go_wp2
  go_loopw [0] (fun i wr => ∃ q : Nat, n ≤ q ∧ q ≤ p ∧ i = .int .i64 (q : Int) ∧ SameW wr w) (fun i _ => p - (intOf i).toNat)
  case atStart => exact ⟨n, Nat.le_refl _, HLo.out.1, rfl, SameW.rfl⟩
  case round =>
    obtain ⟨q, hnq, hqp, rfl, hw⟩ := hrel
    obtain rfl : w = wr := Eq.symm hw
    obtain ⟨c, hc⟩ : ∃ c, c = q % u := ⟨_, rfl⟩
    have hC : (q : Int) % (u : Int) = (c : Int) := by rw [hc, Int.natCast_emod]
    by_cases h0 : c = 0
    · have HQ : Hid (q = p) := HLeast.out q hnq hqp (by omega)
      subst h0
      clear hc hw
      go_wp2_with fail
      refine (HPow.out _).mono ?_
      rintro e w1 ⟨rfl, rfl⟩
      go_wp2
      go_ret
      exact ⟨ret_int (by rw [HR.out, HQ.out]), rfl⟩
    · have hb : ((c : Int) == 0) = false := by rw [nat_beq0]; simpa using h0
      have hb' : ((c : Int) != 0) = true := by rw [bne, hb]; rfl
      have hne : q ≠ p := fun e => h0 (by rw [hc, e]; exact HLo.out.2.2)
      have hlt : q < p := by omega
      clear hc hw hne h0
      go_wp2_with fail
      refine (HPow.out _).mono ?_
      rintro e w1 ⟨rfl, rfl⟩
      go_wp2
      go_roundw
      case rel => exact ⟨q + 1, by omega, by omega, by go_num, SameW.rfl⟩
      case measure => simp [intOf]; omega
end Go.Proofs.Ytgmainbgliejhaa
