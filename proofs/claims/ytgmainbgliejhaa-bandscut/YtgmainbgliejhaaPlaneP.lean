/-
  Package plane: the small functions.
-/
import Derived.Test.YtgmainbgliejhaaPlaneM
import Derived.BigQuiet
import Derived.Lib.MinMax
namespace Go.Proofs.Ytgmainbgliejhaa
open Go.RowKit

theorem pside_any (z : Int) (w : World) :
    Calls Try.prog 38 #[.int .i64 z] w fun e w' => e = .returned (.bool (sideB z)) ∧ w' = w := by
  have HC : Hid (sideB z = (decide (1 ≤ z) && decide (z ≤ 1024))) := (Eq.refl (sideB z))
  by_cases h0 : 1 ≤ z
  · go_enter Try.func38, Try.ntmps38
    go_wp2
    go_ret
    exact ⟨ret_bool (by rw [HC.out]; simp; omega), rfl⟩
  · have h0' : decide (1 ≤ z) = false := by simp; omega
    go_enter Try.func38, Try.ntmps38
    go_wp2
    go_ret
    exact ⟨ret_bool (by rw [HC.out]; simp; omega), rfl⟩

theorem pright_any (X Y : Int) (a : Option Addr) (n cap : Nat) (w : World) :
    Calls Try.prog 33 #[.agg #[.int .i64 X, .int .i64 Y, .slice a n cap]] w fun e w' => e = .returned (.bool (rightP X Y n)) ∧ Fr (fun _ => False) w w' := by
  cases hX : sideB X with
  | false =>
    have HR : Hid (rightP X Y n = false) := by show _ = _; simp [rightP, hX]
    go_enter Try.func33, Try.ntmps33
    go_wp2_with fail
    refine (pside_any X _).mono ?_
    rintro e w' ⟨rfl, rfl⟩
    rw [hX]
    go_wp2
    go_ret
    exact ⟨ret_bool HR.out.symm, (Fr.refl _ w).alloc _⟩
  | true =>
    cases hY : sideB Y with
    | false =>
      have HR : Hid (rightP X Y n = false) := by show _ = _; simp [rightP, hX, hY]
      go_enter Try.func33, Try.ntmps33
      go_wp2_with fail
      refine (pside_any X _).mono ?_
      rintro e w' ⟨rfl, rfl⟩
      rw [hX]
      go_wp2_with fail
      refine (pside_any Y _).mono ?_
      rintro e w' ⟨rfl, rfl⟩
      rw [hY]
      go_wp2
      go_ret
      exact ⟨ret_bool HR.out.symm, (Fr.refl _ w).alloc _⟩
    | true =>
      obtain ⟨x, y, rfl, rfl, b⟩ : ∃ x y : Nat, X = (x : Int) ∧ Y = (y : Int) ∧ x ≤ 1024 ∧ y ≤ 1024 := by
        have h1 := sideB_iff.1 hX
        have h2 := sideB_iff.1 hY
        exact ⟨X.toNat, Y.toNat, by omega, by omega, by omega, by omega⟩
      have HR : Hid (rightP x y n = decide ((n : Int) = ((x * y : Nat) : Int))) := by show _ = _; simp [rightP, hX, hY]
      have hm := mul_most b.1 b.2
      obtain ⟨m, hxy⟩ : ∃ m : Nat, x * y = m := ⟨_, rfl⟩
      rw [hxy] at HR hm
      have hI : (x : Int) * (y : Int) = (m : Int) := by rw [← hxy, Int.natCast_mul]
      clear hxy b
      go_enter Try.func33, Try.ntmps33
      go_wp2_with fail
      refine (pside_any x _).mono ?_
      rintro e w' ⟨rfl, rfl⟩
      rw [hX]
      go_wp2_with fail
      refine (pside_any y _).mono ?_
      rintro e w' ⟨rfl, rfl⟩
      rw [hY]
      go_wp2
      go_ret
      exact ⟨ret_bool (by rw [HR.out]; first | rfl | simp | (apply decide_eq_decide.2; omega)), (Fr.refl _ w).alloc _⟩

theorem Try.info_plane : (Try.prog.info? 38).map (·.size) = some 3 := by kernel_rfl

theorem pnew_go (x y : Nat) (hx : 1 ≤ x) (hx' : x ≤ 1024) (hy : 1 ≤ y) (hy' : y ≤ 1024) (w : World) :
    Calls Try.prog 29 #[.int .i64 (x : Int), .int .i64 (y : Int)] w fun e w' => ∃ g, e = .returned (.agg #[.int .i64 (x : Int), .int .i64 (y : Int), .slice (some ⟨g, 0, none⟩) (x * y) (x * y)]) ∧ Row w' g (x * y) (fun _ => 0) ∧ w.heap.size ≤ g ∧ Fr (fun _ => False) w w' := by
  have hX : sideB (x : Int) = true := sideB_iff.2 ⟨by omega, by omega⟩
  have hY : sideB (y : Int) = true := sideB_iff.2 ⟨by omega, by omega⟩
  have hm := mul_most hx' hy'
  obtain ⟨m, hxy⟩ : ∃ m : Nat, x * y = m := ⟨_, rfl⟩
  rw [hxy] at hm ⊢
  have hI : (x : Int) * (y : Int) = (m : Int) := by rw [← hxy, Int.natCast_mul]
  clear hxy
  have hmk : ∀ w : World, (Instr.makeSlice 36 (.int .i64 (m : Int)) (.int .i64 (m : Int))).run Try.prog w = .ok (.slice (some ⟨w.heap.size, 0, none⟩) m m) (w.alloc (.cells (madeCells #[.int .i64 0] m) 3)) := run_make_row' (P := Try.prog) 36 3 (.int .i64 0) 8 Try.underlying36 Try.info_int rfl .i64 .i64 m (by omega) (by omega)
  go_enter Try.func29, Try.ntmps29
  go_wp2_with fail
  refine (pside_any x _).mono ?_
  rintro e w' ⟨rfl, rfl⟩
  rw [hX]
  go_wp2_with fail
  refine (pside_any y _).mono ?_
  rintro e w' ⟨rfl, rfl⟩
  rw [hY]
  go_wp2
  refine bodyPost_ret (v := .agg #[.int .i64 (x : Int), .int .i64 (y : Int), .slice (some ⟨w.heap.size + 1, 0, none⟩) m m]) ?_ rfl ⟨w.heap.size + 1, rfl, ?_, by omega, ?_⟩
  · exact results_cell_row rfl _ _ w.heap.size 38 _ (0, 0) _ rfl (show Blk _ _ _ _ from (Blk.new w _ _).alloc _) Try.underlying38 rfl Try.info_plane
  · simpa using Row.made (w.alloc (Obj.cells #[.int .i64 (x : Int), .int .i64 (y : Int), .slice (some ⟨w.heap.size + 1, 0, none⟩) m m] 38)) m
  · exact ((Fr.refl _ w).alloc _).alloc _

theorem pnew_bad (X Y : Int) (h : (sideB X && sideB Y) = false) (w : World) :
    Calls Try.prog 29 #[.int .i64 X, .int .i64 Y] w fun e w' => e = .returned (.agg #[.int .i64 0, .int .i64 0, .slice none 0 0]) ∧ Fr (fun _ => False) w w' := by
  cases hX : sideB X with
  | false =>
    go_enter Try.func29, Try.ntmps29
    go_wp2_with fail
    refine (pside_any X _).mono ?_
    rintro e w' ⟨rfl, rfl⟩
    rw [hX]
    go_wp2
    refine bodyPost_ret (v := .agg #[.int .i64 0, .int .i64 0, .slice none 0 0]) ?_ rfl ⟨rfl, (Fr.refl _ w).alloc _⟩
    exact results_cell_row rfl _ _ w.heap.size 38 _ (0, 0) _ rfl (show Blk _ _ _ _ from Blk.new w _ _) Try.underlying38 rfl Try.info_plane
  | true =>
    have hY : sideB Y = false := by rw [hX, Bool.true_and] at h; exact h
    go_enter Try.func29, Try.ntmps29
    go_wp2_with fail
    refine (pside_any X _).mono ?_
    rintro e w' ⟨rfl, rfl⟩
    rw [hX]
    go_wp2_with fail
    refine (pside_any Y _).mono ?_
    rintro e w' ⟨rfl, rfl⟩
    rw [hY]
    go_wp2
    refine bodyPost_ret (v := .agg #[.int .i64 0, .int .i64 0, .slice none 0 0]) ?_ rfl ⟨rfl, (Fr.refl _ w).alloc _⟩
    exact results_cell_row rfl _ _ w.heap.size 38 _ (0, 0) _ rfl (show Blk _ _ _ _ from Blk.new w _ _) Try.underlying38 rfl Try.info_plane

end Go.Proofs.Ytgmainbgliejhaa
