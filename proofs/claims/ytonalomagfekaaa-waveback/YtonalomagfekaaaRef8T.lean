/-
  The document's answer for layer 8: the taps of a filter's step.
-/
import Derived.Test.YtonalomagfekaaaRef8
namespace Go.Proofs.Ytonalomagfekaaa
open Go.RowKit

/-- The neighbours that a step looks at, and their weights. -/
def tapsL (f : Nat) (odd : Bool) : List (Int × Int) :=
  match f, odd with
  | 0, true | 2, true | 2, false => [(-3, -1), (-1, 9), (1, 9), (3, -1)]
  | 0, false | 1, true | 1, false => [(-1, 1), (1, 1)]
  | _, true => [(-1, 1)]
  | _, false => [(1, 1)]
/-- What is added. -/
def addL (f : Nat) (odd : Bool) : Int :=
  match f, odd with
  | 0, true | 2, true => 8
  | 2, false => 16
  | 0, false | 1, false => 2
  | 1, true => 1
  | _, true => 0
  | _, false => 1
/-- Taps as cells. -/
def tapRow (l : List (Int × Int)) : List Value := l.flatMap fun t => [.int .i64 t.1, .int .i64 t.2]

theorem r8taps_0o (w : World) :
    Calls Try.prog 72 #[.int .i64 0, .bool true] w fun e w' => ∃ t, e = .returned (.tuple #[.slice (some ⟨t, 0, none⟩) (tapsL 0 true).length (tapsL 0 true).length, .int .i64 (addL 0 true), .int .i64 (tapD 0 true)]) ∧ Blk w' t (tapRow (tapsL 0 true)).toArray 77 ∧ w.heap.size ≤ t ∧ Fr (fun _ => False) w w' := by
  go_enter Try.func72, Try.ntmps72
  go_wp2
  go_ret3
  refine ⟨w.heap.size + 1, rfl, ?_, by omega, by first | exact ((Fr.refl _ w).alloc _).alloc _ | exact (((Fr.refl _ w).alloc _).alloc _).alloc _⟩
  have := Blk.new (w.alloc (.cells #[.int .i64 (-1), .int .i64 1, .int .i64 1, .int .i64 1] 77)) (tapRow (tapsL 0 true)).toArray 77
  rw [World.size_alloc] at this
  exact this

theorem r8taps_0e (w : World) :
    Calls Try.prog 72 #[.int .i64 0, .bool false] w fun e w' => ∃ t, e = .returned (.tuple #[.slice (some ⟨t, 0, none⟩) (tapsL 0 false).length (tapsL 0 false).length, .int .i64 (addL 0 false), .int .i64 (tapD 0 false)]) ∧ Blk w' t (tapRow (tapsL 0 false)).toArray 77 ∧ w.heap.size ≤ t ∧ Fr (fun _ => False) w w' := by
  go_enter Try.func72, Try.ntmps72
  go_wp2
  go_ret3
  refine ⟨w.heap.size, rfl, ?_, by omega, by first | exact ((Fr.refl _ w).alloc _).alloc _ | exact (((Fr.refl _ w).alloc _).alloc _).alloc _⟩
  exact (Blk.new w _ _).alloc _

theorem r8taps_1o (w : World) :
    Calls Try.prog 72 #[.int .i64 1, .bool true] w fun e w' => ∃ t, e = .returned (.tuple #[.slice (some ⟨t, 0, none⟩) (tapsL 1 true).length (tapsL 1 true).length, .int .i64 (addL 1 true), .int .i64 (tapD 1 true)]) ∧ Blk w' t (tapRow (tapsL 1 true)).toArray 77 ∧ w.heap.size ≤ t ∧ Fr (fun _ => False) w w' := by
  go_enter Try.func72, Try.ntmps72
  go_wp2
  go_ret3
  refine ⟨w.heap.size, rfl, ?_, by omega, by first | exact ((Fr.refl _ w).alloc _).alloc _ | exact (((Fr.refl _ w).alloc _).alloc _).alloc _⟩
  exact (Blk.new w _ _).alloc _

theorem r8taps_1e (w : World) :
    Calls Try.prog 72 #[.int .i64 1, .bool false] w fun e w' => ∃ t, e = .returned (.tuple #[.slice (some ⟨t, 0, none⟩) (tapsL 1 false).length (tapsL 1 false).length, .int .i64 (addL 1 false), .int .i64 (tapD 1 false)]) ∧ Blk w' t (tapRow (tapsL 1 false)).toArray 77 ∧ w.heap.size ≤ t ∧ Fr (fun _ => False) w w' := by
  go_enter Try.func72, Try.ntmps72
  go_wp2
  go_ret3
  refine ⟨w.heap.size, rfl, ?_, by omega, by first | exact ((Fr.refl _ w).alloc _).alloc _ | exact (((Fr.refl _ w).alloc _).alloc _).alloc _⟩
  exact (Blk.new w _ _).alloc _

theorem r8taps_2o (w : World) :
    Calls Try.prog 72 #[.int .i64 2, .bool true] w fun e w' => ∃ t, e = .returned (.tuple #[.slice (some ⟨t, 0, none⟩) (tapsL 2 true).length (tapsL 2 true).length, .int .i64 (addL 2 true), .int .i64 (tapD 2 true)]) ∧ Blk w' t (tapRow (tapsL 2 true)).toArray 77 ∧ w.heap.size ≤ t ∧ Fr (fun _ => False) w w' := by
  go_enter Try.func72, Try.ntmps72
  go_wp2
  go_ret3
  refine ⟨w.heap.size + 1, rfl, ?_, by omega, by first | exact ((Fr.refl _ w).alloc _).alloc _ | exact (((Fr.refl _ w).alloc _).alloc _).alloc _⟩
  have := Blk.new (w.alloc (.cells #[.int .i64 (-1), .int .i64 1, .int .i64 1, .int .i64 1] 77)) (tapRow (tapsL 2 true)).toArray 77
  rw [World.size_alloc] at this
  exact this

theorem r8taps_2e (w : World) :
    Calls Try.prog 72 #[.int .i64 2, .bool false] w fun e w' => ∃ t, e = .returned (.tuple #[.slice (some ⟨t, 0, none⟩) (tapsL 2 false).length (tapsL 2 false).length, .int .i64 (addL 2 false), .int .i64 (tapD 2 false)]) ∧ Blk w' t (tapRow (tapsL 2 false)).toArray 77 ∧ w.heap.size ≤ t ∧ Fr (fun _ => False) w w' := by
  go_enter Try.func72, Try.ntmps72
  go_wp2
  go_ret3
  refine ⟨w.heap.size + 1, rfl, ?_, by omega, by first | exact ((Fr.refl _ w).alloc _).alloc _ | exact (((Fr.refl _ w).alloc _).alloc _).alloc _⟩
  have := Blk.new (w.alloc (.cells #[.int .i64 (-1), .int .i64 1, .int .i64 1, .int .i64 1] 77)) (tapRow (tapsL 2 false)).toArray 77
  rw [World.size_alloc] at this
  exact this

theorem r8taps_3o (w : World) :
    Calls Try.prog 72 #[.int .i64 3, .bool true] w fun e w' => ∃ t, e = .returned (.tuple #[.slice (some ⟨t, 0, none⟩) (tapsL 3 true).length (tapsL 3 true).length, .int .i64 (addL 3 true), .int .i64 (tapD 3 true)]) ∧ Blk w' t (tapRow (tapsL 3 true)).toArray 77 ∧ w.heap.size ≤ t ∧ Fr (fun _ => False) w w' := by
  go_enter Try.func72, Try.ntmps72
  go_wp2
  go_ret3
  refine ⟨w.heap.size + 2, rfl, ?_, by omega, by first | exact ((Fr.refl _ w).alloc _).alloc _ | exact (((Fr.refl _ w).alloc _).alloc _).alloc _⟩
  have := Blk.new ((w.alloc (.cells #[.int .i64 (-1), .int .i64 1, .int .i64 1, .int .i64 1] 77)).alloc (.cells #[.int .i64 (-3), .int .i64 (-1), .int .i64 (-1), .int .i64 9, .int .i64 1, .int .i64 9, .int .i64 3, .int .i64 (-1)] 77)) (tapRow (tapsL 3 true)).toArray 77
  rw [World.size_alloc, World.size_alloc] at this
  exact this

theorem r8taps_3e (w : World) :
    Calls Try.prog 72 #[.int .i64 3, .bool false] w fun e w' => ∃ t, e = .returned (.tuple #[.slice (some ⟨t, 0, none⟩) (tapsL 3 false).length (tapsL 3 false).length, .int .i64 (addL 3 false), .int .i64 (tapD 3 false)]) ∧ Blk w' t (tapRow (tapsL 3 false)).toArray 77 ∧ w.heap.size ≤ t ∧ Fr (fun _ => False) w w' := by
  go_enter Try.func72, Try.ntmps72
  go_wp2
  go_ret3
  refine ⟨w.heap.size + 2, rfl, ?_, by omega, by first | exact ((Fr.refl _ w).alloc _).alloc _ | exact (((Fr.refl _ w).alloc _).alloc _).alloc _⟩
  have := Blk.new ((w.alloc (.cells #[.int .i64 (-1), .int .i64 1, .int .i64 1, .int .i64 1] 77)).alloc (.cells #[.int .i64 (-3), .int .i64 (-1), .int .i64 (-1), .int .i64 9, .int .i64 1, .int .i64 9, .int .i64 3, .int .i64 (-1)] 77)) (tapRow (tapsL 3 false)).toArray 77
  rw [World.size_alloc, World.size_alloc] at this
  exact this

theorem r8taps_4o (w : World) :
    Calls Try.prog 72 #[.int .i64 4, .bool true] w fun e w' => ∃ t, e = .returned (.tuple #[.slice (some ⟨t, 0, none⟩) (tapsL 4 true).length (tapsL 4 true).length, .int .i64 (addL 4 true), .int .i64 (tapD 4 true)]) ∧ Blk w' t (tapRow (tapsL 4 true)).toArray 77 ∧ w.heap.size ≤ t ∧ Fr (fun _ => False) w w' := by
  go_enter Try.func72, Try.ntmps72
  go_wp2
  go_ret3
  refine ⟨w.heap.size + 2, rfl, ?_, by omega, by first | exact ((Fr.refl _ w).alloc _).alloc _ | exact (((Fr.refl _ w).alloc _).alloc _).alloc _⟩
  have := Blk.new ((w.alloc (.cells #[.int .i64 (-1), .int .i64 1, .int .i64 1, .int .i64 1] 77)).alloc (.cells #[.int .i64 (-3), .int .i64 (-1), .int .i64 (-1), .int .i64 9, .int .i64 1, .int .i64 9, .int .i64 3, .int .i64 (-1)] 77)) (tapRow (tapsL 4 true)).toArray 77
  rw [World.size_alloc, World.size_alloc] at this
  exact this

theorem r8taps_4e (w : World) :
    Calls Try.prog 72 #[.int .i64 4, .bool false] w fun e w' => ∃ t, e = .returned (.tuple #[.slice (some ⟨t, 0, none⟩) (tapsL 4 false).length (tapsL 4 false).length, .int .i64 (addL 4 false), .int .i64 (tapD 4 false)]) ∧ Blk w' t (tapRow (tapsL 4 false)).toArray 77 ∧ w.heap.size ≤ t ∧ Fr (fun _ => False) w w' := by
  go_enter Try.func72, Try.ntmps72
  go_wp2
  go_ret3
  refine ⟨w.heap.size + 2, rfl, ?_, by omega, by first | exact ((Fr.refl _ w).alloc _).alloc _ | exact (((Fr.refl _ w).alloc _).alloc _).alloc _⟩
  have := Blk.new ((w.alloc (.cells #[.int .i64 (-1), .int .i64 1, .int .i64 1, .int .i64 1] 77)).alloc (.cells #[.int .i64 (-3), .int .i64 (-1), .int .i64 (-1), .int .i64 9, .int .i64 1, .int .i64 9, .int .i64 3, .int .i64 (-1)] 77)) (tapRow (tapsL 4 false)).toArray 77
  rw [World.size_alloc, World.size_alloc] at this
  exact this

theorem r8taps_any (f : Nat) (hf : f ≤ 4) (odd : Bool) (w : World) :
    Calls Try.prog 72 #[.int .i64 (f : Int), .bool odd] w fun e w' => ∃ t, e = .returned (.tuple #[.slice (some ⟨t, 0, none⟩) (tapsL f odd).length (tapsL f odd).length, .int .i64 (addL f odd), .int .i64 (tapD f odd)]) ∧ Blk w' t (tapRow (tapsL f odd)).toArray 77 ∧ w.heap.size ≤ t ∧ Fr (fun _ => False) w w' := by
  match f, odd, hf with
  | 0, true, _ => exact r8taps_0o w
  | 0, false, _ => exact r8taps_0e w
  | 1, true, _ => exact r8taps_1o w
  | 1, false, _ => exact r8taps_1e w
  | 2, true, _ => exact r8taps_2o w
  | 2, false, _ => exact r8taps_2e w
  | 3, true, _ => exact r8taps_3o w
  | 3, false, _ => exact r8taps_3e w
  | 4, true, _ => exact r8taps_4o w
  | 4, false, _ => exact r8taps_4e w

end Go.Proofs.Ytonalomagfekaaa
