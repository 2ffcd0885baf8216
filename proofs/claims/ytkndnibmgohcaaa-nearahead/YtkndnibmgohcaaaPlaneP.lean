/-
  Package plane: the small functions.
-/
import Derived.Test.YtkndnibmgohcaaaPlaneM
import Derived.BigQuiet
import Derived.Lib.MinMax
namespace Go.Proofs.Ytkndnibmgohcaaa
open Go.RowKit

theorem pside_any (z : Int) (w : World) :
    Calls Try.prog 23 #[.int .i64 z] w fun e w' => e = .returned (.bool (sideB z)) ∧ w' = w := by
  have HC : Hid (sideB z = (decide (1 ≤ z) && decide (z ≤ 1024))) := (Eq.refl (sideB z))
  by_cases h0 : 1 ≤ z
  · go_enter Try.func23, Try.ntmps23
    go_wp2
    go_ret
    exact ⟨ret_bool (by rw [HC.out]; simp; omega), rfl⟩
  · have h0' : decide (1 ≤ z) = false := by simp; omega
    go_enter Try.func23, Try.ntmps23
    go_wp2
    go_ret
    exact ⟨ret_bool (by rw [HC.out]; simp; omega), rfl⟩

theorem pright_any (X Y : Int) (a : Option Addr) (n cap : Nat) (w : World) :
    Calls Try.prog 22 #[.agg #[.int .i64 X, .int .i64 Y, .slice a n cap]] w fun e w' => e = .returned (.bool (rightP X Y n)) ∧ Fr (fun _ => False) w w' := by
  cases hX : sideB X with
  | false =>
    have HR : Hid (rightP X Y n = false) := by show _ = _; simp [rightP, hX]
    go_enter Try.func22, Try.ntmps22
    go_wp2_with fail
    refine (pside_any X _).mono ?_
    rintro e w' ⟨rfl, rfl⟩
    rw [hX]
    go_wp2
    go_ret
    exact ⟨ret_bool HR.out.symm, (Fr.refl _ w).alloc _⟩
  | true =>
    cases hY : sideB Y with
    | false =>
      have HR : Hid (rightP X Y n = false) := by show _ = _; simp [rightP, hX, hY]
      go_enter Try.func22, Try.ntmps22
      go_wp2_with fail
      refine (pside_any X _).mono ?_
      rintro e w' ⟨rfl, rfl⟩
      rw [hX]
      go_wp2_with fail
      refine (pside_any Y _).mono ?_
      rintro e w' ⟨rfl, rfl⟩
      rw [hY]
      go_wp2
      go_ret
      exact ⟨ret_bool HR.out.symm, (Fr.refl _ w).alloc _⟩
    | true =>
      obtain ⟨x, y, rfl, rfl, b⟩ : ∃ x y : Nat, X = (x : Int) ∧ Y = (y : Int) ∧ x ≤ 1024 ∧ y ≤ 1024 := by
        have h1 := sideB_iff.1 hX
        have h2 := sideB_iff.1 hY
        exact ⟨X.toNat, Y.toNat, by omega, by omega, by omega, by omega⟩
      have HR : Hid (rightP x y n = decide ((n : Int) = ((x * y : Nat) : Int))) := by show _ = _; simp [rightP, hX, hY]
      have hm := mul_most b.1 b.2
      obtain ⟨m, hxy⟩ : ∃ m : Nat, x * y = m := ⟨_, rfl⟩
      rw [hxy] at HR hm
      have hI : (x : Int) * (y : Int) = (m : Int) := by rw [← hxy, Int.natCast_mul]
      clear hxy b
      go_enter Try.func22, Try.ntmps22
      go_wp2_with fail
      refine (pside_any x _).mono ?_
      rintro e w' ⟨rfl, rfl⟩
      rw [hX]
      go_wp2_with fail
      refine (pside_any y _).mono ?_
      rintro e w' ⟨rfl, rfl⟩
      rw [hY]
      go_wp2
      go_ret
      exact ⟨ret_bool (by rw [HR.out]; first | rfl | simp | (apply decide_eq_decide.2; omega)), (Fr.refl _ w).alloc _⟩

theorem Try.info_plane : (Try.prog.info? 31).map (·.size) = some 3 := by kernel_rfl

end Go.Proofs.Ytkndnibmgohcaaa
