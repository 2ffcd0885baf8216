/-
  Law 12: what must be answered, ahead of everything else (first).
-/
import Derived.Test.YtfnacnelmkemeaaSplitS
namespace Go.Proofs.Ytfnacnelmkemeaa
open Go.RowKit

theorem ok3121 : splitOk 3 1 2 1 = true := by decide

set_option maxRecDepth 100000 in
set_option maxHeartbeats 2000000 in
theorem first12_any (w : World) : Calls Try.prog 6 #[] w fun e w' => e = .returned (.bool true) ∧ Fr (fun _ => False) w w' := by
  have HLi : Hid (∀ w1, Calls Try.prog 7 #[.int .i64 3, .int .i64 1, .int .i64 2, .int .i64 1] w1 fun e w' => ∃ cap b, e = .returned (.slice (some ⟨b, 0, none⟩) 2 cap) ∧ (w'.cell? ⟨b, 0, none⟩ = some (.int .i64 0) ∧ w'.cell? ⟨b, 1, none⟩ = some (.int .i64 0) ∧ w'.cell? ⟨b, 2, none⟩ = some (.int .i64 1) ∧ w'.cell? ⟨b, 3, none⟩ = some (.int .i64 1)) ∧ (w'.cell? ⟨b, 4, none⟩ = some (.int .i64 1) ∧ w'.cell? ⟨b, 5, none⟩ = some (.int .i64 0) ∧ w'.cell? ⟨b, 6, none⟩ = some (.int .i64 2) ∧ w'.cell? ⟨b, 7, none⟩ = some (.int .i64 1)) ∧ Fr (fun _ => False) w1 w') := by
    intro w1
    refine (slist_any 3 1 2 1 w1).mono ?_
    rintro e w' ⟨a, cap, b, rfl, hB, _, f⟩
    have hN : partsN 3 1 2 1 = 2 := by decide
    rw [hN] at hB ⊢
    obtain rfl := hB.addr (by decide)
    have h1 := hB.cells (i := 0) (by decide)
    have h3 := hB.cells (i := 1) (by decide)
    rw [show partsL 3 1 2 1 0 = ⟨0, 0, 1, 1⟩ by decide] at h1
    rw [show partsL 3 1 2 1 1 = ⟨1, 0, 2, 1⟩ by decide] at h3
    exact ⟨cap, b, rfl, h1, h3, f⟩
  have HO1 : Hid (∀ w1, Calls Try.prog 11 #[.int .i64 3, .int .i64 1, .int .i64 2, .int .i64 1, .int .i64 2, .int .i64 0] w1 fun e w' => e = .returned (.int .i64 1) ∧ w' = w1) := fun w1 => by
    have := sof_any 3 1 2 1 2 0 w1
    rwa [show ofZ 3 1 2 1 2 0 = 1 by decide] at this
  have HO2 : Hid (∀ w1, Calls Try.prog 11 #[.int .i64 3, .int .i64 1, .int .i64 2, .int .i64 1, .int .i64 3, .int .i64 0] w1 fun e w' => e = .returned (.int .i64 (-1)) ∧ w' = w1) := fun w1 => by
    have := sof_any 3 1 2 1 3 0 w1
    rwa [show ofZ 3 1 2 1 3 0 = -1 by decide] at this
  have HR1 : Hid (∀ w1, Calls Try.prog 9 #[.int .i64 3, .int .i64 1, .int .i64 2, .int .i64 1] w1 fun e w' => e = .returned (.bool true) ∧ w' = w1) := fun w1 => by
    have := sright_any 3 1 2 1 w1
    rwa [show splitOk 3 1 2 1 = true by decide] at this
  have HR2 : Hid (∀ w1, Calls Try.prog 9 #[.int .i64 3, .int .i64 1, .int .i64 65, .int .i64 1] w1 fun e w' => e = .returned (.bool false) ∧ w' = w1) := fun w1 => by
    have := sright_any 3 1 65 1 w1
    rwa [show splitOk 3 1 65 1 = false by decide] at this
  go_enter Try.func6, Try.ntmps6
  go_wp2_with fail
  refine (HLi.out w).mono ?_
  rintro e w1 ⟨cap, bl, rfl, ⟨x0, x1, x2, x3⟩, ⟨y0, y1, y2, y3⟩, f1⟩
  have HF := hid f1
  clear f1
  go_wp2_with fail
  refine (HO1.out _).mono ?_
  rintro e w2 ⟨rfl, hw2⟩
  rw [hw2]
  clear hw2
  go_wp2_with fail
  refine (HO2.out _).mono ?_
  rintro e w2 ⟨rfl, hw2⟩
  rw [hw2]
  clear hw2
  go_wp2_with fail
  refine (HR1.out _).mono ?_
  rintro e w2 ⟨rfl, hw2⟩
  rw [hw2]
  clear hw2
  go_wp2_with fail
  refine (HR2.out _).mono ?_
  rintro e w2 ⟨rfl, hw2⟩
  rw [hw2]
  clear hw2
  go_wp2
  go_ret
  exact ⟨rfl, HF.out⟩
end Go.Proofs.Ytfnacnelmkemeaa
