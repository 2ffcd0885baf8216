/-
  The document's own answers for layer 4.
-/
import Derived.Test.YtemfepnmihclkaaDoorLut
namespace Go.Proofs.YtemfepnmihclkaaDoor
open Go.RowKit

theorem facr_walk (n : Nat) (hn : n ≤ 60) : ∀ b : Int, b = 2 ^ (n / 4) → b ≤ 32768 ∧ 1 ≤ b ∧
    (n % 4 = 0 → 4 * b = fac (n : Int)) ∧ (n % 4 = 1 → (503829 * b + 52958) / 105917 = fac (n : Int)) ∧ (n % 4 = 2 → (665857 * b + 58854) / 117708 = fac (n : Int)) ∧ (n % 4 = 3 → (440253 * b + 32722) / 65444 = fac (n : Int)) := by
  have : ∀ m : Fin 61, (2 : Int) ^ (m.val / 4) ≤ 32768 ∧ 1 ≤ (2 : Int) ^ (m.val / 4) ∧ (m.val % 4 = 0 → 4 * (2 : Int) ^ (m.val / 4) = fac (m.val : Int)) ∧ (m.val % 4 = 1 → (503829 * (2 : Int) ^ (m.val / 4) + 52958) / 105917 = fac (m.val : Int)) ∧ (m.val % 4 = 2 → (665857 * (2 : Int) ^ (m.val / 4) + 58854) / 117708 = fac (m.val : Int)) ∧ (m.val % 4 = 3 → (440253 * (2 : Int) ^ (m.val / 4) + 32722) / 65444 = fac (m.val : Int)) := by decide +kernel
  rintro b rfl
  exact this ⟨n, by omega⟩

theorem pow2_le {j k : Nat} (h : j ≤ k) : (2 : Int) ^ j ≤ 2 ^ k := by
  have := Nat.pow_le_pow_right (n := 2) (by omega) h
  exact_mod_cast this

theorem rfac_any (q : Int) (w : World) :
    Calls Tryd.prog 14 #[.int .i64 q] w fun e w' => e = .returned (.int .i64 (fac q)) ∧ w' = w := by
  by_cases h0 : q < 0
  · have H : Hid (fac q = 0) := by show _ = _; simp [fac, isQ]; omega
    go_enter Tryd.func14, Tryd.ntmps14
    go_wp2
    go_ret
    exact ⟨ret_int H.out.symm, rfl⟩
  by_cases h1 : 60 < q
  · have H : Hid (fac q = 0) := by show _ = _; simp [fac, isQ]; omega
    have h0' : decide (q < 0) = false := by simp; omega
    go_enter Tryd.func14, Tryd.ntmps14
    go_wp2
    go_ret
    exact ⟨ret_int H.out.symm, rfl⟩
  obtain ⟨n, rfl⟩ := Int.eq_ofNat_of_zero_le (show 0 ≤ q by omega)
  have h0' : decide ((n : Int) < 0) = false := by simp
  have hn : n ≤ 60 := by omega
  go_enter Tryd.func14, Tryd.ntmps14
  go_wp2_with fail
  go_loopw [3, 4] (fun b i wr => ∃ j : Nat, j ≤ n / 4 ∧ i = .int .i64 (j : Int) ∧ b = .int .i64 (2 ^ j) ∧ SameW wr w) (fun _ i _ => n - (intOf i).toNat)
  case atStart => exact ⟨0, Nat.zero_le _, rfl, rfl, SameW.rfl⟩
  case round =>
    obtain ⟨j, hj, rfl, rfl, hw⟩ := hrel
    obtain rfl : wr = w := hw
    by_cases hlt : j < n / 4
    · have hlt' : (j : Int) < (n : Int) / 4 := by omega
      have hP := pow2_le (show j ≤ 14 by omega)
      have HP : Hid ((2 : Int) ^ (j + 1) = 2 ^ j * 2) := Int.pow_succ 2 j
      have hP0 : 0 < (2 : Int) ^ j := Int.pow_pos (by omega)
      rw [show (2 : Int) ^ 14 = 16384 from rfl] at hP
      generalize (2 : Int) ^ j = b at hP HP hP0
      go_wp2
      go_roundw
      case rel => exact ⟨j + 1, by omega, by go_num, by rw [HP.out], SameW.rfl⟩
      case measure => simp [intOf]; omega
    · obtain rfl : j = n / 4 := by omega
      have hlt' : ¬ ((n / 4 : Nat) : Int) < (n : Int) / 4 := by omega
      obtain ⟨b, hb⟩ : ∃ b : Int, b = 2 ^ (n / 4) := ⟨_, rfl⟩
      obtain ⟨b0, b1, f0, f1, f2, f3⟩ := facr_walk n hn b hb
      rw [← hb]
      have HF0 := hid f0
      have HF1 := hid f1
      have HF2 := hid f2
      have HF3 := hid f3
      clear hb f0 f1 f2 f3
      have hm : (n : Int).tmod 4 = (n : Int) % 4 := Int.tmod_eq_emod_of_nonneg (by omega)
      have h4 : n % 4 = 0 ∨ n % 4 = 1 ∨ n % 4 = 2 ∨ n % 4 = 3 := by omega
      rcases h4 with h | h | h | h
      · have e : (n : Int) % 4 = 0 := by omega
        go_wp2
        go_ret
        exact ⟨ret_int (HF0.out h), rfl⟩
      · have e : (n : Int) % 4 = 1 := by omega
        go_wp2
        go_ret
        exact ⟨ret_int (HF1.out h), rfl⟩
      · have e : (n : Int) % 4 = 2 := by omega
        go_wp2
        go_ret
        exact ⟨ret_int (HF2.out h), rfl⟩
      · have e : (n : Int) % 4 = 3 := by omega
        go_wp2
        go_ret
        exact ⟨ret_int (HF3.out h), rfl⟩

theorem fac_zero {q : Int} : fac q = 0 ↔ isQ q = false := by
  constructor
  · intro h
    cases hq : isQ q with
    | false => rfl
    | true =>
      obtain ⟨n, hn, rfl⟩ := isQ_cases hq
      have := fac_all n hn
      omega
  · intro h; simp [fac, h]

theorem roffs_any (q : Int) (inter : Bool) (w : World) :
    Calls Tryd.prog 19 #[.int .i64 q, .bool inter] w fun e w' => e = .returned (.int .i64 (offs q inter)) ∧ w' = w := by
  have hb := fac_bounds q
  cases hq : isQ q with
  | false =>
    have H : Hid (offs q inter = 0) := by show _ = _; simp [offs, hq]
    have hf := fac_zero.2 hq
    go_enter Tryd.func19, Tryd.ntmps19
    go_wp2_with fail
    refine (rfac_any _ _).mono ?_
    rintro e w1 ⟨rfl, rfl⟩
    rw [hf]
    go_wp2
    go_ret
    exact ⟨ret_int H.out.symm, rfl⟩
  | true =>
    have hf : (fac q == 0) = false := by
      have : ¬ fac q = 0 := fun h => by rw [fac_zero.1 h] at hq; cases hq
      simpa using this
    by_cases q0 : q = 0
    · have H : Hid (offs q inter = 1) := by show _ = _; simp [offs, q0]; decide
      have q0' : (q == 0) = true := by simp [q0]
      have HQ0 := hid q0
      clear q0
      go_enter Tryd.func19, Tryd.ntmps19
      go_wp2_with fail
      refine (rfac_any _ _).mono ?_
      rintro e w1 ⟨rfl, rfl⟩
      go_wp2
      go_ret
      exact ⟨ret_int H.out.symm, rfl⟩
    · have q0' : (q == 0) = false := by simp [q0]
      cases inter with
      | true =>
        have H : Hid (offs q true = (3 * fac q + 4) / 8) := by show _ = _; simp [offs, q0, hq]
        go_enter Tryd.func19, Tryd.ntmps19
        go_wp2_with fail
        refine (rfac_any _ _).mono ?_
        rintro e w2 ⟨rfl, rfl⟩
        generalize fac q = x at hb H hf
        go_wp2
        go_ret
        exact ⟨ret_int H.out.symm, rfl⟩
      | false =>
        by_cases q1 : q = 1
        · have H : Hid (offs q false = 2) := by show _ = _; simp [offs, q1]; decide
          have q1' : (q == 1) = true := by simp [q1]
          have HQ1 := hid q1
          clear q1 q0
          go_enter Tryd.func19, Tryd.ntmps19
          go_wp2_with fail
          refine (rfac_any _ _).mono ?_
          rintro e w1 ⟨rfl, rfl⟩
          generalize fac q = x at hb hf
          go_wp2
          go_ret
          exact ⟨ret_int H.out.symm, rfl⟩
        · have q1' : (q == 1) = false := by simp [q1]
          have H : Hid (offs q false = (fac q + 1) / 2) := by show _ = _; simp [offs, q0, q1, hq]
          go_enter Tryd.func19, Tryd.ntmps19
          go_wp2_with fail
          refine (rfac_any _ _).mono ?_
          rintro e w2 ⟨rfl, rfl⟩
          generalize fac q = x at hb H hf
          go_wp2
          go_ret
          exact ⟨ret_int H.out.symm, rfl⟩
end Go.Proofs.YtemfepnmihclkaaDoor
