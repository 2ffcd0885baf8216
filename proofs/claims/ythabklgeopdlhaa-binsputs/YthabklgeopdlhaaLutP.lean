/-
  Package lut: steps and chances.
-/
import Derived.Test.YthabklgeopdlhaaLut
import Derived.Deep.WholeRow
namespace Go.Proofs.Ythabklgeopdlhaa
open Go.RowKit

theorem lstep_any (i : Int) (w : World) :
    Calls Try.prog 85 #[.int .i64 i] w fun e w' => e = .returned (.int .i64 (stp i)) ∧ w' = w := by
  by_cases h0 : i < 0
  · have H := hid (stp_out (i := i) (by omega))
    go_enter Try.func85, Try.ntmps85
    go_wp2
    go_ret
    exact ⟨ret_int H.out.symm, rfl⟩
  by_cases h1 : 255 < i
  · have H := hid (stp_out (i := i) (by omega))
    have h0' : decide (i < 0) = false := by simp; omega
    go_enter Try.func85, Try.ntmps85
    go_wp2
    go_ret
    exact ⟨ret_int H.out.symm, rfl⟩
  have H := hid (stp_in (i := i) (by omega) (by omega))
  have hp := stp_prod (i := i) (by omega) (by omega)
  have h0' : decide (i < 0) = false := by simp; omega
  go_enter Try.func85, Try.ntmps85
  go_wp2
  go_ret
  exact ⟨ret_int H.out.symm, rfl⟩

theorem chance_any (p : Int) (w : World) :
    Calls Try.prog 84 #[.int .i64 p] w fun e w' => e = .returned (.int .i64 (nearC p)) ∧ w' = w := by
  by_cases h0 : p < 0
  · have H : Hid (nearC p = 0) := if_pos h0
    go_enter Try.func84, Try.ntmps84
    go_wp2
    go_ret
    exact ⟨ret_int H.out.symm, rfl⟩
  by_cases h1 : 65535 < p
  · have H : Hid (nearC p = 65535) := by show _ = _; unfold nearC; rw [if_neg h0, if_pos h1]
    go_enter Try.func84, Try.ntmps84
    go_wp2
    go_ret
    exact ⟨ret_int H.out.symm, rfl⟩
  by_cases h2 : p = 0
  · subst h2
    go_enter Try.func84, Try.ntmps84
    go_wp2
    go_ret
    exact ⟨rfl, rfl⟩
  have H : Hid (nearC p = p) := by show _ = _; unfold nearC; rw [if_neg h0, if_neg h1]
  have h3 : 0 < p := by omega
  go_enter Try.func84, Try.ntmps84
  go_wp2
  go_ret
  exact ⟨ret_int H.out.symm, rfl⟩

theorem lless_any (p : Int) (w : World) :
    Calls Try.prog 78 #[.int .i64 p] w fun e w' => e = .returned (.int .i64 (lessC p)) ∧ w' = w := by
  have hb := nearC_bounds p
  have H : Hid (lessC p = nearC p - stp (nearC p / 256)) := Eq.refl (lessC p)
  have hs := stp_bounds (nearC p / 256)
  go_enter Try.func78, Try.ntmps78
  go_wp2_with fail
  refine (chance_any _ _).mono ?_
  rintro e w1 ⟨rfl, rfl⟩
  generalize nearC p = x at hb H hs
  go_wp2_with fail
  refine (lstep_any _ _).mono ?_
  rintro e w1 ⟨rfl, rfl⟩
  go_wp2
  go_ret
  exact ⟨ret_int H.out.symm, rfl⟩

theorem lmore_any (p : Int) (w : World) :
    Calls Try.prog 79 #[.int .i64 p] w fun e w' => e = .returned (.int .i64 (moreC p)) ∧ w' = w := by
  have hb := nearC_bounds p
  have H : Hid (moreC p = nearC p + stp (255 - nearC p / 256)) := Eq.refl (moreC p)
  have hs := stp_bounds (255 - nearC p / 256)
  go_enter Try.func79, Try.ntmps79
  go_wp2_with fail
  refine (chance_any _ _).mono ?_
  rintro e w1 ⟨rfl, rfl⟩
  generalize nearC p = x at hb H hs
  go_wp2_with fail
  refine (lstep_any _ _).mono ?_
  rintro e w1 ⟨rfl, rfl⟩
  go_wp2
  go_ret
  exact ⟨ret_int H.out.symm, rfl⟩

/-- Steps: all. -/
def stepsTo (n : Nat) : List Value := (List.range n).map (fun i => .int .i64 (stp (i : Nat)))
def allSteps : List Value := stepsTo 256
theorem stepsTo_get (n i : Nat) : (stepsTo n).toArray[i]? = if i < n then some (.int .i64 (stp (i : Int))) else none := by
  simp only [stepsTo, List.getElem?_toArray, List.getElem?_map]
  split
  · rw [List.getElem?_range (by assumption)]; rfl
  · rw [List.getElem?_eq_none (by simp; omega)]; rfl

end Go.Proofs.Ythabklgeopdlhaa
