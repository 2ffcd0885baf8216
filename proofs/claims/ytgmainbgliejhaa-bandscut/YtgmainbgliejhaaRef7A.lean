/-
  The document's answer for layer 7: right planes, noughts.
-/
import Derived.Test.YtgmainbgliejhaaPlaneP
namespace Go.Proofs.Ytgmainbgliejhaa
open Go.RowKit

theorem rright_any (X Y : Int) (a : Option Addr) (n cap : Nat) (w : World) :
    Calls Try.prog 21 #[.agg #[.int .i64 X, .int .i64 Y, .slice a n cap]] w fun e w' => e = .returned (.bool (rightP X Y n)) ∧ Fr (fun _ => False) w w' := by
  by_cases h0 : 1 ≤ X
  rotate_left
  · have g0 : decide (1 ≤ X) = false := decide_eq_false h0
    have HR : Hid (rightP X Y n = false) := by show _ = _; rw [← Bool.not_eq_true, rightP_iff]; omega
    go_enter Try.func21, Try.ntmps21
    go_wp2
    go_ret
    exact ⟨ret_bool HR.out.symm, (Fr.refl _ w).alloc _⟩
  by_cases h1 : X ≤ 1024
  rotate_left
  · have g1 : decide (X ≤ 1024) = false := decide_eq_false h1
    have g0 : decide (1 ≤ X) = true := decide_eq_true h0
    have HR : Hid (rightP X Y n = false) := by show _ = _; rw [← Bool.not_eq_true, rightP_iff]; omega
    go_enter Try.func21, Try.ntmps21
    go_wp2
    go_ret
    exact ⟨ret_bool HR.out.symm, (Fr.refl _ w).alloc _⟩
  by_cases h2 : 1 ≤ Y
  rotate_left
  · have g2 : decide (1 ≤ Y) = false := decide_eq_false h2
    have g0 : decide (1 ≤ X) = true := decide_eq_true h0
    have g1 : decide (X ≤ 1024) = true := decide_eq_true h1
    have HR : Hid (rightP X Y n = false) := by show _ = _; rw [← Bool.not_eq_true, rightP_iff]; omega
    go_enter Try.func21, Try.ntmps21
    go_wp2
    go_ret
    exact ⟨ret_bool HR.out.symm, (Fr.refl _ w).alloc _⟩
  by_cases h3 : Y ≤ 1024
  rotate_left
  · have g3 : decide (Y ≤ 1024) = false := decide_eq_false h3
    have g0 : decide (1 ≤ X) = true := decide_eq_true h0
    have g1 : decide (X ≤ 1024) = true := decide_eq_true h1
    have g2 : decide (1 ≤ Y) = true := decide_eq_true h2
    have HR : Hid (rightP X Y n = false) := by show _ = _; rw [← Bool.not_eq_true, rightP_iff]; omega
    go_enter Try.func21, Try.ntmps21
    go_wp2
    go_ret
    exact ⟨ret_bool HR.out.symm, (Fr.refl _ w).alloc _⟩
  obtain ⟨x, y, rfl, rfl⟩ : ∃ x y : Nat, X = (x : Int) ∧ Y = (y : Int) := ⟨X.toNat, Y.toNat, by omega, by omega⟩
  have HR : Hid (rightP x y n = decide ((n : Int) = ((x * y : Nat) : Int))) := by
    show _ = _
    rw [Bool.eq_iff_iff, rightP_iff, decide_eq_true_iff, Int.natCast_mul]
    exact ⟨fun h => h.2.2, fun h => ⟨⟨h0, h1⟩, ⟨h2, h3⟩, h⟩⟩
  have hm := mul_most (x := x) (y := y) (by omega) (by omega)
  obtain ⟨m, hxy⟩ : ∃ m : Nat, x * y = m := ⟨_, rfl⟩
  rw [hxy] at HR hm
  have hI : (x : Int) * (y : Int) = (m : Int) := by rw [← hxy, Int.natCast_mul]
  clear hxy
  go_enter Try.func21, Try.ntmps21
  go_wp2
  go_ret
  exact ⟨ret_bool (by rw [HR.out]; first | rfl | simp | (apply decide_eq_decide.2; omega)), (Fr.refl _ w).alloc _⟩

theorem rnew_go (x y : Nat) (hx : 1 ≤ x) (hx' : x ≤ 1024) (hy : 1 ≤ y) (hy' : y ≤ 1024) (w : World) :
    Calls Try.prog 22 #[.int .i64 (x : Int), .int .i64 (y : Int)] w fun e w' => ∃ g, e = .returned (.agg #[.int .i64 (x : Int), .int .i64 (y : Int), .slice (some ⟨g, 0, none⟩) (x * y) (x * y)]) ∧ Row w' g (x * y) (fun _ => 0) ∧ w.heap.size ≤ g ∧ Fr (fun _ => False) w w' := by
  have hm := mul_most hx' hy'
  have e0 : decide ((x : Int) < 1) = false := decide_eq_false (by omega)
  have e1 : decide ((1024 : Int) < (x : Int)) = false := decide_eq_false (by omega)
  have e2 : decide ((y : Int) < 1) = false := decide_eq_false (by omega)
  have e3 : decide ((1024 : Int) < (y : Int)) = false := decide_eq_false (by omega)
  obtain ⟨m, hxy⟩ : ∃ m : Nat, x * y = m := ⟨_, rfl⟩
  rw [hxy] at hm ⊢
  have hI : (x : Int) * (y : Int) = (m : Int) := by rw [← hxy, Int.natCast_mul]
  clear hxy
  have hmk : ∀ w : World, (Instr.makeSlice 36 (.int .i64 (m : Int)) (.int .i64 (m : Int))).run Try.prog w = .ok (.slice (some ⟨w.heap.size, 0, none⟩) m m) (w.alloc (.cells (madeCells #[.int .i64 0] m) 3)) := run_make_row' (P := Try.prog) 36 3 (.int .i64 0) 8 Try.underlying36 Try.info_int rfl .i64 .i64 m (by omega) (by omega)
  go_enter Try.func22, Try.ntmps22
  go_wp2
  refine bodyPost_ret (v := .agg #[.int .i64 (x : Int), .int .i64 (y : Int), .slice (some ⟨w.heap.size + 1, 0, none⟩) m m]) ?_ rfl ⟨w.heap.size + 1, rfl, ?_, by omega, ?_⟩
  · exact results_cell_row rfl _ _ w.heap.size 38 _ (0, 0) _ rfl (show Blk _ _ _ _ from (Blk.new w _ _).alloc _) Try.underlying38 rfl Try.info_plane
  · simpa using Row.made (w.alloc (Obj.cells #[.int .i64 (x : Int), .int .i64 (y : Int), .slice (some ⟨w.heap.size + 1, 0, none⟩) m m] 38)) m
  · exact ((Fr.refl _ w).alloc _).alloc _
end Go.Proofs.Ytgmainbgliejhaa
