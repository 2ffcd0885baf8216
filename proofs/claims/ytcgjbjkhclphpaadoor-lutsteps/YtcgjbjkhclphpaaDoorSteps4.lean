/-
  Law package 4: the steps of all numbers, and the chances behind any one (LutSteps): the walk.
-/
import Derived.Test.YtcgjbjkhclphpaaDoorFirst4
namespace Go.Proofs.YtcgjbjkhclphpaaDoor
open Go.RowKit

theorem index_256 (A : Array Value) (j : Nat) (v : Value) (hj : j < 256) (hA : A[j]? = some v) (w : World) : (Instr.index 23 (.agg A) (.int .i64 (j : Int))).run Tryd.prog w = .ok v w := by
  have hn : (0 : Int) ≤ (j : Int) ∧ (j : Int) < ((256 : Nat) : Int) := by omega
  have h1 : (sizeOf 3).run Tryd.prog w = .ok 1 w := Tryd.sizeOf3 w
  simp [Instr.index, run_underlying Tryd.underlying23, asIntOf, hn, part, h1, hA, go_sem]
  intro h; omega

set_option maxRecDepth 20000 in
set_option maxHeartbeats 1000000 in
theorem steps_walk (i p : Int) (w : World) (hQ : Quarters w) :
    Calls Tryd.prog 3 #[.int .i64 i, .int .i64 p] w fun e w' => e = .returned (.bool true) ∧ Below w.heap.size w w' := by
  obtain ⟨hz, hsz⟩ := zero_of_info zero256
  obtain ⟨Z, hZ⟩ : ∃ Z : Array Value, Z = Array.replicate 256 (.int .i64 0) := ⟨_, rfl⟩
  rw [← hZ] at hz
  have hZs : Hid (Z.size = 256) := by show _ = _; rw [hZ]; simp
  have HS := hid hsz
  clear hZ hsz
  obtain ⟨A, hA⟩ : ∃ A, A = allSteps.toArray := ⟨_, rfl⟩
  have hA1 : Hid (A.size = 256) := by rw [hA]; exact steps_size
  have hA2 : Hid (A.all (·.oneCell') = true) := by rw [hA]; exact steps_one
  have hA3 : Hid (∀ j, j < 256 → A[j]? = some (.int .i64 (stp (j : Int)))) := by rw [hA]; exact steps_get
  have HI : Hid ((Tryd.prog.info? 23).map (·.size) = some A.size) := by show _ = _; rw [HS.out, hA1.out]
  go_enter Tryd.func3, Tryd.ntmps3
  go_wp2_with fail
  refine (first_any _ hQ).mono ?_
  rintro e w0 ⟨rfl, F0⟩
  go_wp2_with fail
  refine (lsteps_any _).mono ?_
  rintro e w1 ⟨rfl, F1⟩
  rw [← hA]
  have HA := hid hA
  clear hA
  have hb1 : Blk (w1.alloc (.cells Z 23)) w1.heap.size Z 23 := Blk.new w1 Z _
  have hb2 : Blk ((w1.alloc (.cells Z 23)).setRow w1.heap.size A) w1.heap.size A 23 := setRow_heap _ w1.heap.size Z A 23 (0, 0) hb1
  have F2 : Fr (fun _ => False) w ((w1.alloc (.cells Z 23)).setRow w1.heap.size A) := ((F0.trans' F1).alloc _).setRow (fun h => by have := F0.size; have := F1.size; omega) _
  go_wp2_with (first | refine wpList_store_row rfl 23 (.tmp 5) (.tmp 10) rfl w1.heap.size A rfl rfl 23 Z hb1 HI.out (by rw [hZs.out, hA1.out]) hA2.out ?_ | refine wpList_load_row rfl 23 (.tmp 5) rfl w1.heap.size rfl 23 A (0, 0) _ hb2 Tryd.underlying23 rfl HI.out ?_)
  clear hb1
  generalize ((w1.alloc (.cells Z 23)).setRow w1.heap.size A) = w2 at hb2 F2
  go_loopw [12] (fun i wr => ∃ j : Nat, j ≤ 256 ∧ i = .int .i64 (j : Int) ∧ SameW wr w2) (fun i _ => 256 - (intOf i).toNat)
  case atStart => exact ⟨0, Nat.zero_le _, rfl, SameW.rfl⟩
  case round =>
    obtain ⟨j, hj, rfl, hw⟩ := hrel
    obtain rfl : wr = w2 := hw
    by_cases hlt : j < 256
    · have hlt' : (j : Int) < 256 := by omega
      have hAj := index_256 A j _ hlt (hA3.out j hlt)
      go_wp2_with fail
      refine (rstep_any _ _).mono ?_
      rintro e w3 ⟨rfl, rfl⟩
      go_wp2
      go_roundw
      case rel => exact ⟨j + 1, by omega, by go_num, SameW.rfl⟩
      case measure => simp [intOf]; omega
    · have hlt' : ¬ (j : Int) < 256 := by omega
      go_wp2_with fail
      refine (lstep_any _ _).mono ?_
      rintro e w3 ⟨rfl, rfl⟩
      go_wp2_with fail
      refine (rstep_any _ _).mono ?_
      rintro e w3 ⟨rfl, rfl⟩
      go_wp2_with fail
      refine (lless_any _ _).mono ?_
      rintro e w3 ⟨rfl, rfl⟩
      go_wp2_with fail
      refine (rless_any _ _).mono ?_
      rintro e w3 ⟨rfl, rfl⟩
      go_wp2_with fail
      refine (lmore_any _ _).mono ?_
      rintro e w3 ⟨rfl, rfl⟩
      go_wp2_with fail
      refine (rmore_any _ _).mono ?_
      rintro e w3 ⟨rfl, rfl⟩
      go_wp2
      go_ret
      exact ⟨rfl, F2.below (Nat.le_refl _) (fun _ _ h => h)⟩
end Go.Proofs.YtcgjbjkhclphpaaDoor
