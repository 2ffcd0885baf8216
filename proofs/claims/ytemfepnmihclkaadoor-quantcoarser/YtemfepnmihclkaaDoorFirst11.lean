/-
  Law package 11: what must be answered ahead of everything else.
-/
import Derived.Test.YtemfepnmihclkaaDoorQuantP
namespace Go.Proofs.YtemfepnmihclkaaDoor
open Go.RowKit

set_option maxHeartbeats 1000000 in
theorem first_any (w : World) (hQ : Quarters w) :
    Calls Tryd.prog 6 #[] w fun e w' => e = .returned (.bool true) ∧ Fr (fun _ => False) w w' := by
  go_enter Tryd.func6, Tryd.ntmps6
  go_wp2_with fail
  refine (qthere_any _ _ _ hQ).mono ?_
  rintro e w1 ⟨rfl, F1⟩
  rw [show thereQ 21 4 = 10 by decide +kernel]
  go_wp2_with fail
  refine (qback_any _ _ _ _ (hQ.fr F1)).mono ?_
  rintro e w2 ⟨rfl, F2'⟩
  have F2 := F1.trans' F2'
  clear F1 F2'
  rw [show backQ 10 4 false = 21 by decide +kernel]
  go_wp2_with fail
  refine (qthere_any _ _ _ (hQ.fr F2)).mono ?_
  rintro e w3 ⟨rfl, F3'⟩
  have F3 := F2.trans' F3'
  clear F2 F3'
  rw [show thereQ (-21) 0 = -21 by decide +kernel]
  go_wp2_with fail
  refine (qback_any _ _ _ _ (hQ.fr F3)).mono ?_
  rintro e w4 ⟨rfl, F4'⟩
  have F4 := F3.trans' F4'
  clear F3 F4'
  rw [show backQ (-21) 0 true = -21 by decide +kernel]
  go_wp2_with fail
  refine (qclamp_any _ _).mono ?_
  rintro e w5 ⟨rfl, rfl⟩
  rw [show nearQ 99 0 60 = 60 by decide +kernel]
  go_wp2_with fail
  refine (qclip_any _ _).mono ?_
  rintro e w6 ⟨rfl, rfl⟩
  rw [show nearQ (-1125899906842624) (-4398046511104) 4398046511104 = -4398046511104 by decide +kernel]
  go_wp2_with fail
  refine (qback_any _ _ _ _ (hQ.fr F4)).mono ?_
  rintro e w7 ⟨rfl, F7'⟩
  have F7 := F4.trans' F7'
  clear F4 F7'
  rw [show backQ 0 9 true = 0 by decide +kernel]
  go_wp2
  go_ret
  exact ⟨rfl, F7⟩
end Go.Proofs.YtemfepnmihclkaaDoor
