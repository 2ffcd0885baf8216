/-
  Law package 13: what must be answered, ahead of everything else.
-/
import Derived.Test.YtkndnibmgohcaaaNearQ
namespace Go.Proofs.Ytkndnibmgohcaaa
open Go.RowKit

/-- The numbers of the plane that is asked: -3 and nought. -/
def f13V : Nat → Int := fun j => if j = 0 then -3 else 0

set_option maxHeartbeats 2000000 in
theorem first13_any (w : World) :
    Calls Try.prog 5 #[] w fun e w' => e = .returned (.bool true) ∧ Fr (fun _ => False) w w' := by
  have HSet := hid (nset_any false false 0)
  go_enter Try.func5, Try.ntmps5
  go_wp2_with fail
  refine (HSet.out _).mono ?_
  rintro e w1 ⟨b, rfl, hn, ⟨_, _⟩, f1⟩
  rw [show ((signC 0 : Nat) : Int) = 14 by decide]
  have hL : (followL false false).length = 6 := rfl
  rw [hL] at hn ⊢
  obtain ⟨off, he, hc⟩ := hn.at' (by decide)
  obtain rfl : (0 : Nat) = off := by simpa using he
  have c5 := hc 5 (by decide)
  rw [show listN (followL false false) 5 = 6 by decide, Nat.zero_add] at c5
  clear hn he hc hL HSet
  obtain ⟨W, hW⟩ : ∃ W, W = ((w1.alloc (.cells #[.slice (some ⟨b, 0, none⟩) 6 6, .int .i64 17, .int .i64 14] 26)).alloc (.cells #[.int .i64 (-3), .int .i64 0] 3)).alloc (.cells #[.int .i64 2, .int .i64 1, .slice (some ⟨w1.heap.size + 1, 0, none⟩) 2 2] 31) := ⟨_, rfl⟩
  have F0 : Fr (fun _ => False) w1 W := by rw [hW]; exact (((Fr.refl _ w1).alloc _).alloc _).alloc _
  have F1 := f1.trans' F0
  have OP : Blk W (w1.heap.size + 1 + 1) #[.int .i64 2, .int .i64 1, .slice (some ⟨w1.heap.size + 1, 0, none⟩) 2 2] 31 := by
    rw [hW]
    have := Blk.new ((w1.alloc (.cells #[.slice (some ⟨b, 0, none⟩) 6 6, .int .i64 17, .int .i64 14] 26)).alloc (.cells #[.int .i64 (-3), .int .i64 0] 3)) #[.int .i64 2, .int .i64 1, .slice (some ⟨w1.heap.size + 1, 0, none⟩) 2 2] 31
    simpa using this
  have OR : Blk W (w1.heap.size + 1) #[.int .i64 (-3), .int .i64 0] 3 := by
    rw [hW]
    have := (Blk.new (w1.alloc (.cells #[.slice (some ⟨b, 0, none⟩) 6 6, .int .i64 17, .int .i64 14] 26)) #[.int .i64 (-3), .int .i64 0] 3).alloc (.cells #[.int .i64 2, .int .i64 1, .slice (some ⟨w1.heap.size + 1, 0, none⟩) 2 2] 31)
    simpa using this
  have HN : Hid (∀ W1, Fr (fun _ => False) W W1 → Nums W1 (some ⟨w1.heap.size + 1, 0, none⟩) 2 2 f13V (w1.heap.size + 1)) := fun W1 f => by
    have h2 := OR.fr f (fun h => h)
    refine ⟨Nat.le_refl _, by unfold maxLen; omega, fun _ => ⟨0, rfl, fun j hj => ?_⟩⟩
    match j, hj with
    | 0, _ => rw [h2.cell]; rfl
    | 1, _ => rw [h2.cell]; rfl
  have HQ : Hid (∀ W1, Fr (fun _ => False) W W1 → W1.cell? ⟨w1.heap.size + 1 + 1, 0, none⟩ = some (.int .i64 2) ∧ W1.cell? ⟨w1.heap.size + 1 + 1, 1, none⟩ = some (.int .i64 1) ∧ W1.cell? ⟨w1.heap.size + 1 + 1, 2, none⟩ = some (.slice (some ⟨w1.heap.size + 1, 0, none⟩) 2 2)) := fun W1 f => by
    have h2 := OP.fr f (fun h => h)
    exact ⟨by rw [h2.cell]; rfl, by rw [h2.cell]; rfl, by rw [h2.cell]; rfl⟩
  have HBes : Hid (∀ W1, Fr (fun _ => False) W W1 → Calls Try.prog 12 #[.agg #[.int .i64 2, .int .i64 1, .slice (some ⟨w1.heap.size + 1, 0, none⟩) 2 2], .int .i64 1, .int .i64 0] W1 fun e w' => e = .returned (.bool true) ∧ Fr (fun _ => False) W1 w') := fun W1 f => by
    have := nbeside_any 2 1 _ 2 2 f13V _ 1 0 W1 (HN.out W1 f) (by omega) (by omega)
    rw [show besideZ 2 1 2 f13V ((1 : Nat) : Int) ((0 : Nat) : Int) = true by decide +kernel] at this
    exact this
  have HSig : Hid (∀ W1, Fr (fun _ => False) W W1 → Calls Try.prog 13 #[.agg #[.int .i64 2, .int .i64 1, .slice (some ⟨w1.heap.size + 1, 0, none⟩) 2 2], .int .i64 2, .int .i64 1, .int .i64 0] W1 fun e w' => e = .returned (.int .i64 (-1)) ∧ Fr (fun _ => False) W1 w') := fun W1 f => by
    have := nsign_any 2 1 _ 2 2 f13V _ 2 1 0 W1 (HN.out W1 f) (by omega) (by omega)
    rw [show signZ 2 1 2 f13V 2 ((1 : Nat) : Int) ((0 : Nat) : Int) = -1 by decide +kernel] at this
    exact this
  have HPar : Hid (∀ W1, Fr (fun _ => False) W W1 → Calls Try.prog 14 #[.agg #[.int .i64 2, .int .i64 1, .slice (some ⟨w1.heap.size + 1, 0, none⟩) 2 2], .int .i64 2, .int .i64 0] W1 fun e w' => e = .returned (.bool false) ∧ Fr (fun _ => False) W1 w') := fun W1 f => by
    have := nparent_any 2 1 _ 2 2 f13V _ 2 0 W1 (HN.out W1 f) (by omega) (by omega)
    rw [show aboveZ 2 1 2 f13V ((2 : Nat) : Int) ((0 : Nat) : Int) = false by decide +kernel] at this
    exact this
  have HOf : Hid (∀ W1, Fr (fun _ => False) W W1 → Calls Try.prog 11 #[.agg #[.int .i64 2, .int .i64 1, .slice (some ⟨w1.heap.size + 1, 0, none⟩) 2 2], .agg #[.int .i64 2, .int .i64 1, .slice (some ⟨w1.heap.size + 1, 0, none⟩) 2 2], .int .i64 2, .int .i64 1, .int .i64 0] W1 fun e w' => ∃ v n, e = .returned (.agg #[.slice v n n, .int .i64 17, .int .i64 16]) ∧ Fr (fun _ => False) W1 w') := fun W1 f => by
    have := nof_any 2 1 _ 2 2 f13V _ 2 1 _ 2 2 f13V _ 2 1 0 W1 (HN.out W1 f) (HN.out W1 f) (by omega) (by omega)
    rw [show signC (signZ 2 1 2 f13V 2 ((1 : Nat) : Int) ((0 : Nat) : Int)) = 16 by decide +kernel] at this
    refine this.mono fun e w' h => ?_
    obtain ⟨b, he, _, _, f2⟩ := h
    exact ⟨_, _, he, f2⟩
  have HW := hid hW
  have c5' := (F0.cell (p := ⟨b, 5, none⟩) (cell_lt c5) (fun h => h)).trans c5
  have q0 : W.cell? ⟨w1.heap.size + 1 + 1, 0, none⟩ = some (.int .i64 2) := by rw [OP.cell]; rfl
  rw [hW] at c5'
  clear hW OP OR c5 f1 F0 q0
  go_wp2_with fail
  rw [← HW.out]
  refine (HBes.out W (Fr.refl _ _)).mono ?_
  rintro e w2 ⟨rfl, f2⟩
  obtain ⟨q0, q1, q2⟩ := HQ.out w2 f2
  clear c5'
  go_wp2_with fail
  refine (HSig.out w2 f2).mono ?_
  rintro e w3 ⟨rfl, f3'⟩
  have f3 := f2.trans' f3'
  clear q0 q1 q2 f2 f3'
  obtain ⟨q0, q1, q2⟩ := HQ.out w3 f3
  go_wp2_with fail
  refine (HPar.out w3 f3).mono ?_
  rintro e w4 ⟨rfl, f4'⟩
  have f4 := f3.trans' f4'
  clear q0 q1 q2 f3 f4'
  obtain ⟨q0, q1, q2⟩ := HQ.out w4 f4
  go_wp2_with fail
  refine (HOf.out w4 f4).mono ?_
  rintro e w5 ⟨v, n, rfl, f5'⟩
  have f5 := f4.trans' f5'
  clear q0 q1 q2 f4 f5'
  have hfd : ∀ w : World, (Instr.field 26 (.agg #[.slice v n n, .int .i64 17, .int .i64 16]) 2).run Try.prog w = .ok (.int .i64 16) w := fun _ => by kernel_rfl
  go_wp2
  go_ret
  exact ⟨rfl, F1.trans' f5⟩
end Go.Proofs.Ytkndnibmgohcaaa
