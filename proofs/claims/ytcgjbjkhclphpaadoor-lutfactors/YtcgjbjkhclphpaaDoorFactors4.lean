/-
  Law package 4: the factors and offsets of all quantisers (LutFactors): the walk.
-/
import Derived.Test.YtcgjbjkhclphpaaDoorFirst4
namespace Go.Proofs.YtcgjbjkhclphpaaDoor
open Go.RowKit

set_option maxHeartbeats 1000000 in
theorem factors_walk (q : Int) (w : World) (hQ : Quarters w) :
    Calls Tryd.prog 4 #[.int .i64 q] w fun e w' => e = .returned (.bool true) ∧ Below w.heap.size w w' := by
  go_enter Tryd.func4, Tryd.ntmps4
  go_wp2_with fail
  refine (first_any _ hQ).mono ?_
  rintro e w0 ⟨rfl, F0⟩
  go_wp2_with fail
  refine (lfacs_any _ (hQ.fr F0)).mono ?_
  rintro e w1 ⟨g, rfl, hg, ⟨cs, hb, hcs, hc⟩, F1⟩
  have F2 := F0.trans' F1
  have HQ2 := hid (hQ.fr F2)
  clear F0 F1 hQ
  go_wp2_with fail
  go_loopw [11] (fun i wr => ∃ j : Nat, j ≤ 61 ∧ i = .int .i64 (j : Int) ∧ SameW wr w1) (fun i _ => 61 - (intOf i).toNat)
  case atStart => exact ⟨0, Nat.zero_le _, rfl, SameW.rfl⟩
  case round =>
    obtain ⟨j, hj, rfl, hw⟩ := hrel
    obtain rfl : wr = w1 := hw
    by_cases hlt : j < 61
    · have hlt' : (j : Int) < 61 := by omega
      have hcell : wr.cell? ⟨g, j, none⟩ = some (.int .i64 (fac (j : Int))) := by rw [hb.cell, hc j hlt]
      go_wp2_with fail
      refine (rfac_any _ _).mono ?_
      rintro e w3 ⟨rfl, rfl⟩
      go_wp2
      go_roundw
      case rel => exact ⟨j + 1, by omega, by go_num, SameW.rfl⟩
      case measure => simp [intOf]; omega
    · have hlt' : ¬ (j : Int) < 61 := by omega
      clear hb hc hcs
      go_wp2_with fail
      refine (lfac_any _ _ HQ2.out).mono ?_
      rintro e w3 ⟨rfl, F3⟩
      go_wp2_with fail
      refine (rfac_any _ _).mono ?_
      rintro e w4 ⟨rfl, rfl⟩
      go_wp2_with fail
      refine (loffs_any _ _ _ (HQ2.out.fr F3)).mono ?_
      rintro e w5 ⟨rfl, F5⟩
      go_wp2_with fail
      refine (roffs_any _ _ _).mono ?_
      rintro e w6 ⟨rfl, rfl⟩
      go_wp2_with fail
      refine (loffs_any _ _ _ ((HQ2.out.fr F3).fr F5)).mono ?_
      rintro e w7 ⟨rfl, F7⟩
      go_wp2_with fail
      refine (roffs_any _ _ _).mono ?_
      rintro e w8 ⟨rfl, rfl⟩
      go_wp2
      go_ret
      exact ⟨rfl, (((F2.trans' F3).trans' F5).trans' F7).below (Nat.le_refl _) (fun _ _ h => h)⟩
end Go.Proofs.YtcgjbjkhclphpaaDoor
