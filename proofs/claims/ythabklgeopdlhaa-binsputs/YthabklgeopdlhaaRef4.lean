/-
  The document's own answers for layer 4.
-/
import Derived.Test.YthabklgeopdlhaaLut
namespace Go.Proofs.Ythabklgeopdlhaa
open Go.RowKit

theorem rstep_any (i : Int) (w : World) :
    Calls Try.prog 83 #[.int .i64 i] w fun e w' => e = .returned (.int .i64 (stp i)) ∧ w' = w := by
  by_cases h0 : i < 0
  · have H := hid (stp_out (i := i) (by omega))
    go_enter Try.func83, Try.ntmps83
    go_wp2
    go_ret
    exact ⟨ret_int H.out.symm, rfl⟩
  by_cases h1 : 255 < i
  · have H := hid (stp_out (i := i) (by omega))
    have h0' : decide (i < 0) = false := by simp; omega
    go_enter Try.func83, Try.ntmps83
    go_wp2
    go_ret
    exact ⟨ret_int H.out.symm, rfl⟩
  have H := hid (stp_in (i := i) (by omega) (by omega))
  have hp := stp_prod (i := i) (by omega) (by omega)
  rw [Int.add_comm i 384] at H hp
  generalize hX : i * (384 + i) = X at H hp
  have HX := hid hX
  have h0' : decide (i < 0) = false := by simp; omega
  clear hX
  go_enter Try.func83, Try.ntmps83
  go_wp2_with fail
  rw [HX.out]
  go_loopw [3, 4] (fun n x wr => ∃ m : Nat, n = .int .i64 (m : Int) ∧ x = .int .i64 (X - 96 * (m : Int)) ∧ 0 ≤ X - 96 * (m : Int) ∧ SameW wr w) (fun _ x _ => (intOf x).toNat)
  case atStart => exact ⟨0, rfl, by simp; unfold wrap64; omega, by omega, SameW.rfl⟩
  case round =>
    obtain ⟨m, rfl, rfl, hm, hw⟩ := hrel
    obtain rfl : wr = w := hw
    by_cases hlt : 96 ≤ X - 96 * (m : Int)
    · go_wp2
      go_roundw
      case rel => exact ⟨m + 1, by go_num, by congr 1; omega, by omega, SameW.rfl⟩
      case measure => simp [intOf]; omega
    · go_wp2
      go_ret
      exact ⟨ret_int (by rw [H.out]; omega), rfl⟩

theorem rnear_any (p : Int) (w : World) :
    Calls Try.prog 82 #[.int .i64 p] w fun e w' => e = .returned (.int .i64 (nearC p)) ∧ w' = w := by
  by_cases h0 : p < 0
  · have H : Hid (nearC p = 0) := if_pos h0
    go_enter Try.func82, Try.ntmps82
    go_wp2
    go_ret
    exact ⟨ret_int H.out.symm, rfl⟩
  by_cases h1 : 65535 < p
  · have H : Hid (nearC p = 65535) := by show _ = _; unfold nearC; rw [if_neg h0, if_pos h1]
    go_enter Try.func82, Try.ntmps82
    go_wp2
    go_ret
    exact ⟨ret_int H.out.symm, rfl⟩
  have H : Hid (nearC p = p) := by show _ = _; unfold nearC; rw [if_neg h0, if_neg h1]
  go_enter Try.func82, Try.ntmps82
  go_wp2
  go_ret
  exact ⟨ret_int H.out.symm, rfl⟩

theorem rless_any (p : Int) (w : World) :
    Calls Try.prog 66 #[.int .i64 p] w fun e w' => e = .returned (.int .i64 (lessC p)) ∧ w' = w := by
  have hb := nearC_bounds p
  have H : Hid (lessC p = nearC p - stp (nearC p / 256)) := Eq.refl (lessC p)
  have hs := stp_bounds (nearC p / 256)
  go_enter Try.func66, Try.ntmps66
  go_wp2_with fail
  refine (rnear_any _ _).mono ?_
  rintro e w1 ⟨rfl, rfl⟩
  generalize nearC p = x at hb H hs
  go_wp2_with fail
  refine (rstep_any _ _).mono ?_
  rintro e w1 ⟨rfl, rfl⟩
  go_wp2
  go_ret
  exact ⟨ret_int H.out.symm, rfl⟩

theorem rmore_any (p : Int) (w : World) :
    Calls Try.prog 67 #[.int .i64 p] w fun e w' => e = .returned (.int .i64 (moreC p)) ∧ w' = w := by
  have hb := nearC_bounds p
  have H : Hid (moreC p = nearC p + stp (255 - nearC p / 256)) := Eq.refl (moreC p)
  have hs := stp_bounds (255 - nearC p / 256)
  go_enter Try.func67, Try.ntmps67
  go_wp2_with fail
  refine (rnear_any _ _).mono ?_
  rintro e w1 ⟨rfl, rfl⟩
  generalize nearC p = x at hb H hs
  go_wp2_with fail
  refine (rstep_any _ _).mono ?_
  rintro e w1 ⟨rfl, rfl⟩
  go_wp2
  go_ret
  exact ⟨ret_int H.out.symm, rfl⟩

theorem facr_walk (n : Nat) (hn : n ≤ 60) : ∀ b : Int, b = 2 ^ (n / 4) → b ≤ 32768 ∧ 1 ≤ b ∧
    (n % 4 = 0 → 4 * b = fac (n : Int)) ∧ (n % 4 = 1 → (503829 * b + 52958) / 105917 = fac (n : Int)) ∧ (n % 4 = 2 → (665857 * b + 58854) / 117708 = fac (n : Int)) ∧ (n % 4 = 3 → (440253 * b + 32722) / 65444 = fac (n : Int)) := by
  have : ∀ m : Fin 61, (2 : Int) ^ (m.val / 4) ≤ 32768 ∧ 1 ≤ (2 : Int) ^ (m.val / 4) ∧ (m.val % 4 = 0 → 4 * (2 : Int) ^ (m.val / 4) = fac (m.val : Int)) ∧ (m.val % 4 = 1 → (503829 * (2 : Int) ^ (m.val / 4) + 52958) / 105917 = fac (m.val : Int)) ∧ (m.val % 4 = 2 → (665857 * (2 : Int) ^ (m.val / 4) + 58854) / 117708 = fac (m.val : Int)) ∧ (m.val % 4 = 3 → (440253 * (2 : Int) ^ (m.val / 4) + 32722) / 65444 = fac (m.val : Int)) := by decide +kernel
  rintro b rfl
  exact this ⟨n, by omega⟩

theorem pow2_le {j k : Nat} (h : j ≤ k) : (2 : Int) ^ j ≤ 2 ^ k := by
  have := Nat.pow_le_pow_right (n := 2) (by omega) h
  exact_mod_cast this

theorem fac_zero {q : Int} : fac q = 0 ↔ isQ q = false := by
  constructor
  · intro h
    cases hq : isQ q with
    | false => rfl
    | true =>
      obtain ⟨n, hn, rfl⟩ := isQ_cases hq
      have := fac_all n hn
      omega
  · intro h; simp [fac, h]

end Go.Proofs.Ythabklgeopdlhaa
