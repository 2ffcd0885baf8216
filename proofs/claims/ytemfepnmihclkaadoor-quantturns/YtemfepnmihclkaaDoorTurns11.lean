/-
  Law package 11: numbers made coarse, and back, by any quantiser (QuantTurns): the walk.
-/
import Derived.Test.YtemfepnmihclkaaDoorFirst11
import Derived.Test.YtemfepnmihclkaaDoorRef11
namespace Go.Proofs.YtemfepnmihclkaaDoor
open Go.RowKit

set_option maxHeartbeats 1000000 in
theorem turns_walk (v q : Int) (inter : Bool) (w : World) (hQ : Quarters w) :
    Calls Tryd.prog 3 #[.int .i64 v, .int .i64 q, .bool inter] w fun e w' => e = .returned (.bool true) ∧ Below w.heap.size w w' := by
  go_enter Tryd.func3, Tryd.ntmps3
  go_wp2_with fail
  refine (first_any _ hQ).mono ?_
  rintro e w1 ⟨rfl, F1⟩
  go_wp2_with fail
  refine (qthere_any _ _ _ (hQ.fr F1)).mono ?_
  rintro e w2 ⟨rfl, F2'⟩
  have F2 := F1.trans' F2'
  clear F1 F2'
  go_wp2_with fail
  refine (rthere_any _ _ _).mono ?_
  rintro e w3 ⟨rfl, rfl⟩
  generalize thereQ v q = x
  go_wp2_with fail
  refine (qback_any _ _ _ _ (hQ.fr F2)).mono ?_
  rintro e w4 ⟨rfl, F4'⟩
  have F4 := F2.trans' F4'
  clear F2 F4'
  go_wp2_with fail
  refine (rback_any _ _ _ _).mono ?_
  rintro e w5 ⟨rfl, rfl⟩
  generalize backQ v q inter = y
  go_wp2_with fail
  refine (qclamp_any _ _).mono ?_
  rintro e w6 ⟨rfl, rfl⟩
  go_wp2_with fail
  refine (rnearq_any _ _ _ _).mono ?_
  rintro e w7 ⟨rfl, rfl⟩
  generalize nearQ v 0 60 = z
  go_wp2_with fail
  refine (qclamp_any _ _).mono ?_
  rintro e w8 ⟨rfl, rfl⟩
  go_wp2_with fail
  refine (rnearq_any _ _ _ _).mono ?_
  rintro e w9 ⟨rfl, rfl⟩
  generalize nearQ q 0 60 = z2
  go_wp2_with fail
  refine (qclip_any _ _).mono ?_
  rintro e w10 ⟨rfl, rfl⟩
  go_wp2_with fail
  refine (rnearq_any _ _ _ _).mono ?_
  rintro e w11 ⟨rfl, rfl⟩
  generalize nearQ v (-4398046511104) 4398046511104 = z3
  go_wp2
  go_ret
  exact ⟨rfl, F4.below (Nat.le_refl _) (fun _ _ h => h)⟩
end Go.Proofs.YtemfepnmihclkaaDoor
