/-
  The document's answer for layer 7: right planes, noughts.
-/
import Derived.Test.YtkndnibmgohcaaaPlaneP
namespace Go.Proofs.Ytkndnibmgohcaaa
open Go.RowKit

theorem rright_any (X Y : Int) (a : Option Addr) (n cap : Nat) (w : World) :
    Calls Try.prog 10 #[.agg #[.int .i64 X, .int .i64 Y, .slice a n cap]] w fun e w' => e = .returned (.bool (rightP X Y n)) ∧ Fr (fun _ => False) w w' := by
  by_cases h0 : 1 ≤ X
  rotate_left
  · have g0 : decide (1 ≤ X) = false := decide_eq_false h0
    have HR : Hid (rightP X Y n = false) := by show _ = _; rw [← Bool.not_eq_true, rightP_iff]; omega
    go_enter Try.func10, Try.ntmps10
    go_wp2
    go_ret
    exact ⟨ret_bool HR.out.symm, (Fr.refl _ w).alloc _⟩
  by_cases h1 : X ≤ 1024
  rotate_left
  · have g1 : decide (X ≤ 1024) = false := decide_eq_false h1
    have g0 : decide (1 ≤ X) = true := decide_eq_true h0
    have HR : Hid (rightP X Y n = false) := by show _ = _; rw [← Bool.not_eq_true, rightP_iff]; omega
    go_enter Try.func10, Try.ntmps10
    go_wp2
    go_ret
    exact ⟨ret_bool HR.out.symm, (Fr.refl _ w).alloc _⟩
  by_cases h2 : 1 ≤ Y
  rotate_left
  · have g2 : decide (1 ≤ Y) = false := decide_eq_false h2
    have g0 : decide (1 ≤ X) = true := decide_eq_true h0
    have g1 : decide (X ≤ 1024) = true := decide_eq_true h1
    have HR : Hid (rightP X Y n = false) := by show _ = _; rw [← Bool.not_eq_true, rightP_iff]; omega
    go_enter Try.func10, Try.ntmps10
    go_wp2
    go_ret
    exact ⟨ret_bool HR.out.symm, (Fr.refl _ w).alloc _⟩
  by_cases h3 : Y ≤ 1024
  rotate_left
  · have g3 : decide (Y ≤ 1024) = false := decide_eq_false h3
    have g0 : decide (1 ≤ X) = true := decide_eq_true h0
    have g1 : decide (X ≤ 1024) = true := decide_eq_true h1
    have g2 : decide (1 ≤ Y) = true := decide_eq_true h2
    have HR : Hid (rightP X Y n = false) := by show _ = _; rw [← Bool.not_eq_true, rightP_iff]; omega
    go_enter Try.func10, Try.ntmps10
    go_wp2
    go_ret
    exact ⟨ret_bool HR.out.symm, (Fr.refl _ w).alloc _⟩
  obtain ⟨x, y, rfl, rfl⟩ : ∃ x y : Nat, X = (x : Int) ∧ Y = (y : Int) := ⟨X.toNat, Y.toNat, by omega, by omega⟩
  have HR : Hid (rightP x y n = decide ((n : Int) = ((x * y : Nat) : Int))) := by
    show _ = _
    rw [Bool.eq_iff_iff, rightP_iff, decide_eq_true_iff, Int.natCast_mul]
    exact ⟨fun h => h.2.2, fun h => ⟨⟨h0, h1⟩, ⟨h2, h3⟩, h⟩⟩
  have hm := mul_most (x := x) (y := y) (by omega) (by omega)
  obtain ⟨m, hxy⟩ : ∃ m : Nat, x * y = m := ⟨_, rfl⟩
  rw [hxy] at HR hm
  have hI : (x : Int) * (y : Int) = (m : Int) := by rw [← hxy, Int.natCast_mul]
  clear hxy
  go_enter Try.func10, Try.ntmps10
  go_wp2
  go_ret
  exact ⟨ret_bool (by rw [HR.out]; first | rfl | simp | (apply decide_eq_decide.2; omega)), (Fr.refl _ w).alloc _⟩

end Go.Proofs.Ytkndnibmgohcaaa
