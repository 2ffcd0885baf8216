/-
  Package bands: counts, parents, orients, where a band lies, which sides fit.
-/
import Derived.BigQuiet
import Derived.Test.YtgmainbgliejhaaBandsM
namespace Go.Proofs.Ytgmainbgliejhaa
open Go.RowKit

/-- How many bands a depth has; a band's parent, of any number. -/
def countB (d : Int) : Int := if 0 ≤ d ∧ d ≤ 6 then 3 * d + 1 else 0
def parentZ (i : Int) : Int := if i < 4 ∨ 19 ≤ i then -1 else i - 3
theorem bcount_any (d : Int) (w : World) :
    Calls Try.prog 15 #[.int .i64 d] w fun e w' => e = .returned (.int .i64 (countB d)) ∧ w' = w := by
  by_cases h0 : d < 0
  · have HR : Hid (countB d = 0) := if_neg (by omega)
    go_enter Try.func15, Try.ntmps15
    go_wp2
    go_ret
    exact ⟨ret_int HR.out.symm, rfl⟩
  · by_cases h1 : 6 < d
    · have HR : Hid (countB d = 0) := if_neg (by omega)
      go_enter Try.func15, Try.ntmps15
      go_wp2
      go_ret
      exact ⟨ret_int HR.out.symm, rfl⟩
    · have HR : Hid (countB d = 3 * d + 1) := if_pos (by omega)
      go_enter Try.func15, Try.ntmps15
      go_wp2
      go_ret
      exact ⟨ret_int HR.out.symm, rfl⟩
theorem bparent_any (i : Int) (w : World) :
    Calls Try.prog 13 #[.int .i64 i] w fun e w' => e = .returned (.int .i64 (parentZ i)) ∧ w' = w := by
  have e1 : countB 1 = 4 := by decide
  have e6 : countB 6 = 19 := by decide
  by_cases h0 : i < 4
  · have HR : Hid (parentZ i = -1) := if_pos (by omega)
    go_enter Try.func13, Try.ntmps13
    go_wp2_with fail
    refine (bcount_any _ _).mono ?_
    rintro e w1 ⟨rfl, rfl⟩
    rw [e1]
    go_wp2
    go_ret
    exact ⟨ret_int HR.out.symm, rfl⟩
  · by_cases h1 : 19 ≤ i
    · have HR : Hid (parentZ i = -1) := if_pos (by omega)
      go_enter Try.func13, Try.ntmps13
      go_wp2_with fail
      refine (bcount_any _ _).mono ?_
      rintro e w1 ⟨rfl, rfl⟩
      rw [e1]
      go_wp2_with fail
      refine (bcount_any _ _).mono ?_
      rintro e w1 ⟨rfl, rfl⟩
      rw [e6]
      go_wp2
      go_ret
      exact ⟨ret_int HR.out.symm, rfl⟩
    · have HR : Hid (parentZ i = i - 3) := if_neg (by omega)
      go_enter Try.func13, Try.ntmps13
      go_wp2_with fail
      refine (bcount_any _ _).mono ?_
      rintro e w1 ⟨rfl, rfl⟩
      rw [e1]
      go_wp2_with fail
      refine (bcount_any _ _).mono ?_
      rintro e w1 ⟨rfl, rfl⟩
      rw [e6]
      go_wp2
      go_ret
      exact ⟨ret_int HR.out.symm, rfl⟩

def fstO (l : Nat) : Nat := if l = 0 then 0 else 1
def lstO (l : Nat) : Nat := if l = 0 then 0 else 3
theorem borients_any (l : Nat) (w : World) (hl : l ≤ 6) :
    Calls Try.prog 26 #[.int .i64 (l : Int)] w fun e w' => e = .returned (.tuple #[.int .i64 (fstO l : Int), .int .i64 (lstO l : Int)]) ∧ w' = w := by
  by_cases h0 : l = 0
  · subst h0
    go_enter Try.func26, Try.ntmps26
    go_wp2
    go_ret2
    exact ⟨rfl, rfl⟩
  · have e1 : fstO l = 1 := if_neg h0
    have e2 : lstO l = 3 := if_neg h0
    have hne : ¬ (l : Int) = 0 := by omega
    rw [e1, e2]
    go_enter Try.func26, Try.ntmps26
    go_wp2
    go_ret2
    exact ⟨rfl, rfl⟩

/-- Fits a side a depth? -/
def fitsS (z d : Int) : Bool := decide (0 < z) && decide (padN z d = z)
theorem bfits_any (z d : Int) (w : World) :
    Calls Try.prog 24 #[.int .i64 z, .int .i64 d] w fun e w' => e = .returned (.bool (fitsS z d)) ∧ w' = w := by
  have HC : Hid (fitsS z d = (decide (0 < z) && decide (padN z d = z))) := (Eq.refl (fitsS z d))
  by_cases h0 : 0 < z
  · go_enter Try.func24, Try.ntmps24
    go_wp2_with fail
    refine (wpadded_any _ _ _).mono ?_
    rintro e w1 ⟨rfl, rfl⟩
    obtain ⟨q, hq⟩ : ∃ q, padN z d = q := ⟨_, rfl⟩
    rw [hq] at HC ⊢
    go_wp2
    go_ret
    exact ⟨ret_bool (by rw [HC.out, decide_eq_true h0]; rfl), rfl⟩
  · have h0' : decide (0 < z) = false := by simp; omega
    go_enter Try.func24, Try.ntmps24
    go_wp2
    go_ret
    exact ⟨ret_bool (by rw [HC.out, h0']; rfl), rfl⟩
theorem bandsOk_fits (X Y D : Int) : bandsOk X Y D = (fitsS X D && fitsS Y D) := by
  rw [Bool.eq_iff_iff]
  simp only [bandsOk, fitsS, Bool.and_eq_true, decide_eq_true_eq]
  omega
end Go.Proofs.Ytgmainbgliejhaa
