/-
  Law package 11: a greater quantiser makes no greater number, and what came back goes there as it was (QuantCoarser): the walk.
-/
import Derived.Test.YtemfepnmihclkaaDoorFirst11
namespace Go.Proofs.YtemfepnmihclkaaDoor
open Go.RowKit

theorem abs_max (z : Int) : max z (-z) = (z.natAbs : Int) := by omega
theorem there_bounds (v q : Int) : -2199023255550 ≤ thereQ v q ∧ thereQ v q ≤ 2199023255550 := by
  cases hq : isQ q with
  | false => rw [thereQ, if_neg (by rw [hq]; decide)]; omega
  | true =>
    obtain ⟨c, p, h1, _, _, _, h5⟩ := there_parts (v := v) hq
    have := sizeN_le v
    rw [h1]; unfold sgn; split <;> omega

set_option maxHeartbeats 1000000 in
theorem coarser_walk (v q : Int) (inter : Bool) (w : World) (hQ : Quarters w) :
    Calls Tryd.prog 5 #[.int .i64 v, .int .i64 q, .bool inter] w fun e w' => e = .returned (.bool true) ∧ Below w.heap.size w w' := by
  by_cases h : -1099511627776 ≤ v ∧ v ≤ 1099511627776 ∧ 0 ≤ q ∧ q ≤ 59
  · obtain ⟨v0, v1, q0, q1⟩ := h
    have g0 : decide (v < -1099511627776) = false := by simp; omega
    have g1 : decide (1099511627776 < v) = false := by simp; omega
    have g2 : decide (q < 0) = false := by simp; omega
    have g3 : decide (59 < q) = false := by simp; omega
    have hq : isQ q = true := by simp [isQ]; omega
    have HA := hid (there_again hq inter (v := v) (by omega))
    have HC := hid (there_coarser (v := v) q0 q1)
    obtain ⟨a0, a1⟩ := there_bounds v q
    obtain ⟨b0, b1⟩ := there_bounds v (q + 1)
    clear hq
    go_enter Tryd.func5, Tryd.ntmps5
    go_wp2_with fail
    refine (first_any _ hQ).mono ?_
    rintro e w1 ⟨rfl, F1⟩
    go_wp2_with fail
    refine (qthere_any _ _ _ (hQ.fr F1)).mono ?_
    rintro e w2 ⟨rfl, F2'⟩
    have F2 := F1.trans' F2'
    clear F1 F2'
    go_wp2_with fail
    refine (qthere_any _ _ _ (hQ.fr F2)).mono ?_
    rintro e w3 ⟨rfl, F3'⟩
    have F3 := F2.trans' F3'
    clear F2 F3'
    generalize thereQ v (q + 1) = b at *
    generalize hA : thereQ v q = a at *
    have HAA := hid hA
    clear hA
    have hab : (0 ≤ a ∧ 0 ≤ b ∧ b ≤ a) ∨ (0 ≤ a ∧ b < 0 ∧ -b ≤ a) ∨ (a < 0 ∧ 0 ≤ b ∧ b ≤ -a) ∨ (a < 0 ∧ b < 0 ∧ -b ≤ -a) := by have := HC.out; omega
    rcases hab with ⟨x0, x1, x2⟩ | ⟨x0, x1, x2⟩ | ⟨x0, x1, x2⟩ | ⟨x0, x1, x2⟩
    · go_wp2_with fail
      refine (qback_any _ _ _ _ (hQ.fr F3)).mono ?_
      rintro e w4 ⟨rfl, F4'⟩
      have F4 := F3.trans' F4'
      clear F3 F4'
      go_wp2_with fail
      refine (qthere_any _ _ _ (hQ.fr F4)).mono ?_
      rintro e w5 ⟨rfl, F5'⟩
      have F5 := F4.trans' F5'
      clear F4 F5'
      rw [HA.out]
      go_wp2
      go_ret
      exact ⟨rfl, F5.below (Nat.le_refl _) (fun _ _ h => h)⟩
    · go_wp2_with fail
      refine (qback_any _ _ _ _ (hQ.fr F3)).mono ?_
      rintro e w4 ⟨rfl, F4'⟩
      have F4 := F3.trans' F4'
      clear F3 F4'
      go_wp2_with fail
      refine (qthere_any _ _ _ (hQ.fr F4)).mono ?_
      rintro e w5 ⟨rfl, F5'⟩
      have F5 := F4.trans' F5'
      clear F4 F5'
      rw [HA.out]
      go_wp2
      go_ret
      exact ⟨rfl, F5.below (Nat.le_refl _) (fun _ _ h => h)⟩
    · go_wp2_with fail
      refine (qback_any _ _ _ _ (hQ.fr F3)).mono ?_
      rintro e w4 ⟨rfl, F4'⟩
      have F4 := F3.trans' F4'
      clear F3 F4'
      go_wp2_with fail
      refine (qthere_any _ _ _ (hQ.fr F4)).mono ?_
      rintro e w5 ⟨rfl, F5'⟩
      have F5 := F4.trans' F5'
      clear F4 F5'
      rw [HA.out]
      go_wp2
      go_ret
      exact ⟨rfl, F5.below (Nat.le_refl _) (fun _ _ h => h)⟩
    · go_wp2_with fail
      refine (qback_any _ _ _ _ (hQ.fr F3)).mono ?_
      rintro e w4 ⟨rfl, F4'⟩
      have F4 := F3.trans' F4'
      clear F3 F4'
      go_wp2_with fail
      refine (qthere_any _ _ _ (hQ.fr F4)).mono ?_
      rintro e w5 ⟨rfl, F5'⟩
      have F5 := F4.trans' F5'
      clear F4 F5'
      rw [HA.out]
      go_wp2
      go_ret
      exact ⟨rfl, F5.below (Nat.le_refl _) (fun _ _ h => h)⟩
  · have hw : v < -1099511627776 ∨ (¬ v < -1099511627776 ∧ 1099511627776 < v) ∨ (¬ v < -1099511627776 ∧ ¬ 1099511627776 < v ∧ q < 0) ∨ (¬ v < -1099511627776 ∧ ¬ 1099511627776 < v ∧ ¬ q < 0 ∧ 59 < q) := by omega
    rcases hw with h0 | ⟨h0, h1⟩ | ⟨h0, h1, h2⟩ | ⟨h0, h1, h2, h3⟩
    · have h0' : decide (v < -1099511627776) = true := by simp; omega
      go_enter Tryd.func5, Tryd.ntmps5
      go_wp2_with fail
      refine (first_any _ hQ).mono ?_
      rintro e w1 ⟨rfl, F1⟩
      go_wp2
      go_ret
      exact ⟨rfl, F1.below (Nat.le_refl _) (fun _ _ h => h)⟩
    · have h0' : decide (v < -1099511627776) = false := by simp; omega
      have h1' : decide (1099511627776 < v) = true := by simp; omega
      go_enter Tryd.func5, Tryd.ntmps5
      go_wp2_with fail
      refine (first_any _ hQ).mono ?_
      rintro e w1 ⟨rfl, F1⟩
      go_wp2
      go_ret
      exact ⟨rfl, F1.below (Nat.le_refl _) (fun _ _ h => h)⟩
    · have h0' : decide (v < -1099511627776) = false := by simp; omega
      have h1' : decide (1099511627776 < v) = false := by simp; omega
      have h2' : decide (q < 0) = true := by simp; omega
      go_enter Tryd.func5, Tryd.ntmps5
      go_wp2_with fail
      refine (first_any _ hQ).mono ?_
      rintro e w1 ⟨rfl, F1⟩
      go_wp2
      go_ret
      exact ⟨rfl, F1.below (Nat.le_refl _) (fun _ _ h => h)⟩
    · have h0' : decide (v < -1099511627776) = false := by simp; omega
      have h1' : decide (1099511627776 < v) = false := by simp; omega
      have h2' : decide (q < 0) = false := by simp; omega
      have h3' : decide (59 < q) = true := by simp; omega
      go_enter Tryd.func5, Tryd.ntmps5
      go_wp2_with fail
      refine (first_any _ hQ).mono ?_
      rintro e w1 ⟨rfl, F1⟩
      go_wp2
      go_ret
      exact ⟨rfl, F1.below (Nat.le_refl _) (fun _ _ h => h)⟩
end Go.Proofs.YtemfepnmihclkaaDoor
