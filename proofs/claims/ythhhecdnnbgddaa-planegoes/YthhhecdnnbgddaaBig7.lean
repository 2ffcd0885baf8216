/-
  Law 7: is a plane too great to be asked (big).
-/
import Derived.Test.YthhhecdnnbgddaaPlaneP
namespace Go.Proofs.Ythhhecdnnbgddaa
open Go.RowKit

theorem big7_any (X Y : Int) (a : Option Addr) (n cap : Nat) (w : World) (hn : (n : Int) ≤ 9223372036854775807) :
    Calls Try.prog 7 #[.agg #[.int .i64 X, .int .i64 Y, .slice a n cap]] w fun e w' => e = .returned (.bool (decide (2000 < n))) ∧ Fr (fun _ => False) w w' := by
  have HC : Hid (decide (2000 < n) = decide ((2000 : Int) < (n : Int))) := by show _ = _; apply decide_eq_decide.2; omega
  go_enter Try.func7, Try.ntmps7
  go_wp2
  go_ret
  exact ⟨ret_bool HC.out.symm, (Fr.refl _ w).alloc _⟩
end Go.Proofs.Ythhhecdnnbgddaa
