/-
  Package plane: the number at a place (At); are two planes alike (alike, slices.Equal, Same); a copy of numbers (fresh).
-/
import Derived.Test.YtkndnibmgohcaaaPlaneP
namespace Go.Proofs.Ytkndnibmgohcaaa
open Go.RowKit

/-- The number at a place of a right plane. -/
theorem pat_go (x y : Nat) (a : Option Addr) (cap : Nat) (V : Nat → Int) (b : Nat) (px py : Int) (w : World) (hx : 1 ≤ x) (hx' : x ≤ 1024) (hy : 1 ≤ y) (hy' : y ≤ 1024) (h : Nums w a (x * y) cap V b) :
    Calls Try.prog 20 #[.agg #[.int .i64 (x : Int), .int .i64 (y : Int), .slice a (x * y) cap], .int .i64 px, .int .i64 py] w fun e w' => e = .returned (.int .i64 (V (nearI y py * x + nearI x px))) ∧ Fr (fun _ => False) w w' := by
  obtain ⟨i, hi⟩ : ∃ i, nearI x px = i := ⟨_, rfl⟩
  obtain ⟨j, hj⟩ : ∃ j, nearI y py = j := ⟨_, rfl⟩
  have hil : i < x := by rw [← hi]; exact nearI_lt (by omega) px
  have hjl : j < y := by rw [← hj]; exact nearI_lt (by omega) py
  have hmi : min (max px 0) ((x : Int) - 1) = (i : Int) := by rw [← hi]; unfold nearI; omega
  have hmj : min (max py 0) ((y : Int) - 1) = (j : Int) := by rw [← hj]; unfold nearI; omega
  rw [hi, hj]
  have hk := flat_lt hil hjl
  have hm := mul_most hx' hy'
  have hR := rightP_of hx hx' hy hy'
  obtain ⟨m, hxy⟩ : ∃ m : Nat, x * y = m := ⟨_, rfl⟩
  rw [hxy] at hm hk hR h ⊢
  obtain ⟨k, hjx⟩ : ∃ k : Nat, j * x = k := ⟨_, rfl⟩
  rw [hjx] at hk ⊢
  have hjI : (j : Int) * (x : Int) = (k : Int) := by rw [← hjx, Int.natCast_mul]
  obtain ⟨off, rfl, hc⟩ := h.at' (by omega)
  have ck := hc (k + i) hk
  obtain ⟨v, hv⟩ : ∃ v, V (k + i) = v := ⟨_, rfl⟩
  rw [hv] at ck ⊢
  clear hi hj hjx hxy hv hc
  obtain ⟨W, hW⟩ : ∃ W, W = w.alloc (.cells #[.int .i64 (x : Int), .int .i64 (y : Int), .slice (some ⟨b, off, none⟩) m cap] 31) := ⟨_, rfl⟩
  have F0 : Fr (fun _ => False) w W := by rw [hW]; exact (Fr.refl _ w).alloc _
  have O0 : Blk W w.heap.size #[.int .i64 (x : Int), .int .i64 (y : Int), .slice (some ⟨b, off, none⟩) m cap] 31 := by rw [hW]; exact Blk.new _ _ _
  have c0 : W.cell? ⟨w.heap.size, 0, none⟩ = some (.int .i64 (x : Int)) := by rw [O0.cell]; rfl
  have c1 : W.cell? ⟨w.heap.size, 1, none⟩ = some (.int .i64 (y : Int)) := by rw [O0.cell]; rfl
  have c2 : W.cell? ⟨w.heap.size, 2, none⟩ = some (.slice (some ⟨b, off, none⟩) m cap) := by rw [O0.cell]; rfl
  have HW := hid hW
  clear hW
  go_enter Try.func20, Try.ntmps20
  go_wp2_with fail
  rw [← HW.out]
  refine (pright_any x y _ m cap W).mono ?_
  rintro e w1 ⟨rfl, f1⟩
  rw [hR]
  have d0 := (f1.cell (p := ⟨w.heap.size, 0, none⟩) (cell_lt c0) (fun h => h)).trans c0
  have d1 := (f1.cell (p := ⟨w.heap.size, 1, none⟩) (cell_lt c1) (fun h => h)).trans c1
  have d2 := (f1.cell (p := ⟨w.heap.size, 2, none⟩) (cell_lt c2) (fun h => h)).trans c2
  have F1 := F0.trans' f1
  have dk := (F1.cell (p := ⟨b, off + (k + i), none⟩) (cell_lt ck) (fun h => h)).trans ck
  clear c0 c1 c2 ck O0 F0 f1 HW
  go_wp2
  go_ret
  exact ⟨rfl, F1⟩

theorem pat_bad (X Y : Int) (a : Option Addr) (n cap : Nat) (px py : Int) (w : World) (h : rightP X Y n = false) :
    Calls Try.prog 20 #[.agg #[.int .i64 X, .int .i64 Y, .slice a n cap], .int .i64 px, .int .i64 py] w fun e w' => e = .returned (.int .i64 0) ∧ Fr (fun _ => False) w w' := by
  obtain ⟨W, hW⟩ : ∃ W, W = w.alloc (.cells #[.int .i64 X, .int .i64 Y, .slice a n cap] 31) := ⟨_, rfl⟩
  have F0 : Fr (fun _ => False) w W := by rw [hW]; exact (Fr.refl _ w).alloc _
  have HW := hid hW
  clear hW
  go_enter Try.func20, Try.ntmps20
  go_wp2_with fail
  rw [← HW.out]
  refine (pright_any X Y _ n cap W).mono ?_
  rintro e w1 ⟨rfl, f1⟩
  rw [h]
  go_wp2
  go_ret
  exact ⟨rfl, F0.trans' f1⟩

/-- Two right planes of like sides? -/
def likeP (X Y : Int) (n : Nat) (X' Y' : Int) (n' : Nat) : Bool := rightP X Y n && rightP X' Y' n' && decide (X = X') && decide (Y = Y')

end Go.Proofs.Ytkndnibmgohcaaa
