/-
  Package bands: does a band lie in a plane?
-/
import Derived.Test.YtgmainbgliejhaaBandsB
namespace Go.Proofs.Ytgmainbgliejhaa
open Go.RowKit

set_option maxHeartbeats 1000000 in
theorem bwithin_any (X Y : Int) (a : Option Addr) (n cap : Nat) (lv o bx by' bw bh : Int) (w : World) (ux : bx ≤ 9223372036854775807) (uw : bw ≤ 9223372036854775807) (uh : bh ≤ 9223372036854775807) :
    Calls Try.prog 28 #[.agg #[.int .i64 X, .int .i64 Y, .slice a n cap], .agg #[.int .i64 lv, .int .i64 o, .int .i64 bx, .int .i64 by', .int .i64 bw, .int .i64 bh]] w fun e w' => e = .returned (.bool (withinB X Y n bx by' bw bh)) ∧ Fr (fun _ => False) w w' := by
  obtain ⟨W, hW⟩ : ∃ W, W = (w.alloc (.cells #[.int .i64 X, .int .i64 Y, .slice a n cap] 38)).alloc (.cells #[.int .i64 lv, .int .i64 o, .int .i64 bx, .int .i64 by', .int .i64 bw, .int .i64 bh] 31) := ⟨_, rfl⟩
  have F0 : Fr (fun _ => False) w W := by rw [hW]; exact ((Fr.refl _ w).alloc _).alloc _
  have O0 : Blk W w.heap.size #[.int .i64 X, .int .i64 Y, .slice a n cap] 38 := by rw [hW]; exact (Blk.new _ _ _).alloc _
  have O1 : Blk W (w.heap.size + 1) #[.int .i64 lv, .int .i64 o, .int .i64 bx, .int .i64 by', .int .i64 bw, .int .i64 bh] 31 := by
    rw [hW]
    have := Blk.new (w.alloc (.cells #[.int .i64 X, .int .i64 Y, .slice a n cap] 38)) #[.int .i64 lv, .int .i64 o, .int .i64 bx, .int .i64 by', .int .i64 bw, .int .i64 bh] 31
    simpa using this
  have HW := hid hW
  clear hW
  cases hR : rightP X Y n with
  | false =>
    have HR := hid (withinB_no (X := X) (Y := Y) (n := n) (bx := bx) (by' := by') (bw := bw) (bh := bh) (fun h => by rw [hR] at h; exact absurd h.1 (by decide)))
    go_enter Try.func28, Try.ntmps28
    go_wp2_with fail
    rw [← HW.out]
    refine (pright_any X Y a n cap W).mono ?_
    rintro e w1 ⟨rfl, f1⟩
    rw [hR]
    have P0 := O0.fr f1 (fun h => h)
    have P1 := O1.fr f1 (fun h => h)
    have HF1 := hid (F0.trans' f1)
    have c0 : w1.cell? ⟨w.heap.size, 0, none⟩ = some (.int .i64 X) := by rw [P0.cell]; rfl
    have c1 : w1.cell? ⟨w.heap.size, 1, none⟩ = some (.int .i64 Y) := by rw [P0.cell]; rfl
    have d0 : w1.cell? ⟨w.heap.size + 1, 0, none⟩ = some (.int .i64 lv) := by rw [P1.cell]; rfl
    have d1 : w1.cell? ⟨w.heap.size + 1, 1, none⟩ = some (.int .i64 o) := by rw [P1.cell]; rfl
    have d2 : w1.cell? ⟨w.heap.size + 1, 2, none⟩ = some (.int .i64 bx) := by rw [P1.cell]; rfl
    have d3 : w1.cell? ⟨w.heap.size + 1, 3, none⟩ = some (.int .i64 by') := by rw [P1.cell]; rfl
    have d4 : w1.cell? ⟨w.heap.size + 1, 4, none⟩ = some (.int .i64 bw) := by rw [P1.cell]; rfl
    have d5 : w1.cell? ⟨w.heap.size + 1, 5, none⟩ = some (.int .i64 bh) := by rw [P1.cell]; rfl
    clear P0 P1 O0 O1 F0 f1 HW hR
    go_wp2
    go_ret
    exact ⟨ret_bool (HR.out.symm), HF1.out⟩
  | true =>
    have hXY := rightP_iff.1 hR
    have x1 := hXY.1.1
    have x2 := hXY.1.2
    have y1 := hXY.2.1.1
    have y2 := hXY.2.1.2
    clear hXY
    by_cases k0 : 1 ≤ bw
    rotate_left
    · have HR := hid (withinB_no (X := X) (Y := Y) (n := n) (bx := bx) (by' := by') (bw := bw) (bh := bh) (fun h => by omega))
      go_enter Try.func28, Try.ntmps28
      go_wp2_with fail
      rw [← HW.out]
      refine (pright_any X Y a n cap W).mono ?_
      rintro e w1 ⟨rfl, f1⟩
      rw [hR]
      have P0 := O0.fr f1 (fun h => h)
      have P1 := O1.fr f1 (fun h => h)
      have HF1 := hid (F0.trans' f1)
      have c0 : w1.cell? ⟨w.heap.size, 0, none⟩ = some (.int .i64 X) := by rw [P0.cell]; rfl
      have c1 : w1.cell? ⟨w.heap.size, 1, none⟩ = some (.int .i64 Y) := by rw [P0.cell]; rfl
      have d0 : w1.cell? ⟨w.heap.size + 1, 0, none⟩ = some (.int .i64 lv) := by rw [P1.cell]; rfl
      have d1 : w1.cell? ⟨w.heap.size + 1, 1, none⟩ = some (.int .i64 o) := by rw [P1.cell]; rfl
      have d2 : w1.cell? ⟨w.heap.size + 1, 2, none⟩ = some (.int .i64 bx) := by rw [P1.cell]; rfl
      have d3 : w1.cell? ⟨w.heap.size + 1, 3, none⟩ = some (.int .i64 by') := by rw [P1.cell]; rfl
      have d4 : w1.cell? ⟨w.heap.size + 1, 4, none⟩ = some (.int .i64 bw) := by rw [P1.cell]; rfl
      have d5 : w1.cell? ⟨w.heap.size + 1, 5, none⟩ = some (.int .i64 bh) := by rw [P1.cell]; rfl
      clear P0 P1 O0 O1 F0 f1 HW hR
      go_wp2
      go_ret
      exact ⟨ret_bool (HR.out.symm), HF1.out⟩
    by_cases k1 : 1 ≤ bh
    rotate_left
    · have HR := hid (withinB_no (X := X) (Y := Y) (n := n) (bx := bx) (by' := by') (bw := bw) (bh := bh) (fun h => by omega))
      go_enter Try.func28, Try.ntmps28
      go_wp2_with fail
      rw [← HW.out]
      refine (pright_any X Y a n cap W).mono ?_
      rintro e w1 ⟨rfl, f1⟩
      rw [hR]
      have P0 := O0.fr f1 (fun h => h)
      have P1 := O1.fr f1 (fun h => h)
      have HF1 := hid (F0.trans' f1)
      have c0 : w1.cell? ⟨w.heap.size, 0, none⟩ = some (.int .i64 X) := by rw [P0.cell]; rfl
      have c1 : w1.cell? ⟨w.heap.size, 1, none⟩ = some (.int .i64 Y) := by rw [P0.cell]; rfl
      have d0 : w1.cell? ⟨w.heap.size + 1, 0, none⟩ = some (.int .i64 lv) := by rw [P1.cell]; rfl
      have d1 : w1.cell? ⟨w.heap.size + 1, 1, none⟩ = some (.int .i64 o) := by rw [P1.cell]; rfl
      have d2 : w1.cell? ⟨w.heap.size + 1, 2, none⟩ = some (.int .i64 bx) := by rw [P1.cell]; rfl
      have d3 : w1.cell? ⟨w.heap.size + 1, 3, none⟩ = some (.int .i64 by') := by rw [P1.cell]; rfl
      have d4 : w1.cell? ⟨w.heap.size + 1, 4, none⟩ = some (.int .i64 bw) := by rw [P1.cell]; rfl
      have d5 : w1.cell? ⟨w.heap.size + 1, 5, none⟩ = some (.int .i64 bh) := by rw [P1.cell]; rfl
      clear P0 P1 O0 O1 F0 f1 HW hR
      go_wp2
      go_ret
      exact ⟨ret_bool (HR.out.symm), HF1.out⟩
    by_cases k2 : 0 ≤ bx
    rotate_left
    · have HR := hid (withinB_no (X := X) (Y := Y) (n := n) (bx := bx) (by' := by') (bw := bw) (bh := bh) (fun h => by omega))
      have k2' : decide (0 ≤ bx) = false := decide_eq_false k2
      go_enter Try.func28, Try.ntmps28
      go_wp2_with fail
      rw [← HW.out]
      refine (pright_any X Y a n cap W).mono ?_
      rintro e w1 ⟨rfl, f1⟩
      rw [hR]
      have P0 := O0.fr f1 (fun h => h)
      have P1 := O1.fr f1 (fun h => h)
      have HF1 := hid (F0.trans' f1)
      have c0 : w1.cell? ⟨w.heap.size, 0, none⟩ = some (.int .i64 X) := by rw [P0.cell]; rfl
      have c1 : w1.cell? ⟨w.heap.size, 1, none⟩ = some (.int .i64 Y) := by rw [P0.cell]; rfl
      have d0 : w1.cell? ⟨w.heap.size + 1, 0, none⟩ = some (.int .i64 lv) := by rw [P1.cell]; rfl
      have d1 : w1.cell? ⟨w.heap.size + 1, 1, none⟩ = some (.int .i64 o) := by rw [P1.cell]; rfl
      have d2 : w1.cell? ⟨w.heap.size + 1, 2, none⟩ = some (.int .i64 bx) := by rw [P1.cell]; rfl
      have d3 : w1.cell? ⟨w.heap.size + 1, 3, none⟩ = some (.int .i64 by') := by rw [P1.cell]; rfl
      have d4 : w1.cell? ⟨w.heap.size + 1, 4, none⟩ = some (.int .i64 bw) := by rw [P1.cell]; rfl
      have d5 : w1.cell? ⟨w.heap.size + 1, 5, none⟩ = some (.int .i64 bh) := by rw [P1.cell]; rfl
      clear P0 P1 O0 O1 F0 f1 HW hR
      go_wp2
      go_ret
      exact ⟨ret_bool (HR.out.symm), HF1.out⟩
    by_cases k3 : bx ≤ X - bw
    rotate_left
    · have HR := hid (withinB_no (X := X) (Y := Y) (n := n) (bx := bx) (by' := by') (bw := bw) (bh := bh) (fun h => by omega))
      have k3' : decide (bx ≤ X - bw) = false := decide_eq_false k3
      go_enter Try.func28, Try.ntmps28
      go_wp2_with fail
      rw [← HW.out]
      refine (pright_any X Y a n cap W).mono ?_
      rintro e w1 ⟨rfl, f1⟩
      rw [hR]
      have P0 := O0.fr f1 (fun h => h)
      have P1 := O1.fr f1 (fun h => h)
      have HF1 := hid (F0.trans' f1)
      have c0 : w1.cell? ⟨w.heap.size, 0, none⟩ = some (.int .i64 X) := by rw [P0.cell]; rfl
      have c1 : w1.cell? ⟨w.heap.size, 1, none⟩ = some (.int .i64 Y) := by rw [P0.cell]; rfl
      have d0 : w1.cell? ⟨w.heap.size + 1, 0, none⟩ = some (.int .i64 lv) := by rw [P1.cell]; rfl
      have d1 : w1.cell? ⟨w.heap.size + 1, 1, none⟩ = some (.int .i64 o) := by rw [P1.cell]; rfl
      have d2 : w1.cell? ⟨w.heap.size + 1, 2, none⟩ = some (.int .i64 bx) := by rw [P1.cell]; rfl
      have d3 : w1.cell? ⟨w.heap.size + 1, 3, none⟩ = some (.int .i64 by') := by rw [P1.cell]; rfl
      have d4 : w1.cell? ⟨w.heap.size + 1, 4, none⟩ = some (.int .i64 bw) := by rw [P1.cell]; rfl
      have d5 : w1.cell? ⟨w.heap.size + 1, 5, none⟩ = some (.int .i64 bh) := by rw [P1.cell]; rfl
      clear P0 P1 O0 O1 F0 f1 HW hR
      go_wp2
      go_ret
      exact ⟨ret_bool (HR.out.symm), HF1.out⟩
    by_cases k4 : 0 ≤ by'
    rotate_left
    · have HR := hid (withinB_no (X := X) (Y := Y) (n := n) (bx := bx) (by' := by') (bw := bw) (bh := bh) (fun h => by omega))
      have k4' : decide (0 ≤ by') = false := decide_eq_false k4
      go_enter Try.func28, Try.ntmps28
      go_wp2_with fail
      rw [← HW.out]
      refine (pright_any X Y a n cap W).mono ?_
      rintro e w1 ⟨rfl, f1⟩
      rw [hR]
      have P0 := O0.fr f1 (fun h => h)
      have P1 := O1.fr f1 (fun h => h)
      have HF1 := hid (F0.trans' f1)
      have c0 : w1.cell? ⟨w.heap.size, 0, none⟩ = some (.int .i64 X) := by rw [P0.cell]; rfl
      have c1 : w1.cell? ⟨w.heap.size, 1, none⟩ = some (.int .i64 Y) := by rw [P0.cell]; rfl
      have d0 : w1.cell? ⟨w.heap.size + 1, 0, none⟩ = some (.int .i64 lv) := by rw [P1.cell]; rfl
      have d1 : w1.cell? ⟨w.heap.size + 1, 1, none⟩ = some (.int .i64 o) := by rw [P1.cell]; rfl
      have d2 : w1.cell? ⟨w.heap.size + 1, 2, none⟩ = some (.int .i64 bx) := by rw [P1.cell]; rfl
      have d3 : w1.cell? ⟨w.heap.size + 1, 3, none⟩ = some (.int .i64 by') := by rw [P1.cell]; rfl
      have d4 : w1.cell? ⟨w.heap.size + 1, 4, none⟩ = some (.int .i64 bw) := by rw [P1.cell]; rfl
      have d5 : w1.cell? ⟨w.heap.size + 1, 5, none⟩ = some (.int .i64 bh) := by rw [P1.cell]; rfl
      clear P0 P1 O0 O1 F0 f1 HW hR
      go_wp2
      go_ret
      exact ⟨ret_bool (HR.out.symm), HF1.out⟩
    have HR : Hid (withinB X Y n bx by' bw bh = decide (by' ≤ Y - bh)) := by
      show _ = _
      rw [Bool.eq_iff_iff, withinB_iff, decide_eq_true_iff]
      constructor
      · intro h; omega
      · intro h; exact ⟨hR, by omega, by omega, by omega, by omega, by omega, by omega⟩
    go_enter Try.func28, Try.ntmps28
    go_wp2_with fail
    rw [← HW.out]
    refine (pright_any X Y a n cap W).mono ?_
    rintro e w1 ⟨rfl, f1⟩
    rw [hR]
    have P0 := O0.fr f1 (fun h => h)
    have P1 := O1.fr f1 (fun h => h)
    have HF1 := hid (F0.trans' f1)
    have c0 : w1.cell? ⟨w.heap.size, 0, none⟩ = some (.int .i64 X) := by rw [P0.cell]; rfl
    have c1 : w1.cell? ⟨w.heap.size, 1, none⟩ = some (.int .i64 Y) := by rw [P0.cell]; rfl
    have d0 : w1.cell? ⟨w.heap.size + 1, 0, none⟩ = some (.int .i64 lv) := by rw [P1.cell]; rfl
    have d1 : w1.cell? ⟨w.heap.size + 1, 1, none⟩ = some (.int .i64 o) := by rw [P1.cell]; rfl
    have d2 : w1.cell? ⟨w.heap.size + 1, 2, none⟩ = some (.int .i64 bx) := by rw [P1.cell]; rfl
    have d3 : w1.cell? ⟨w.heap.size + 1, 3, none⟩ = some (.int .i64 by') := by rw [P1.cell]; rfl
    have d4 : w1.cell? ⟨w.heap.size + 1, 4, none⟩ = some (.int .i64 bw) := by rw [P1.cell]; rfl
    have d5 : w1.cell? ⟨w.heap.size + 1, 5, none⟩ = some (.int .i64 bh) := by rw [P1.cell]; rfl
    clear P0 P1 O0 O1 F0 f1 HW hR
    go_wp2
    go_ret
    exact ⟨ret_bool (by rw [HR.out]), HF1.out⟩
end Go.Proofs.Ytgmainbgliejhaa
