/-
  Law package 4: what must be answered ahead of everything else.
-/
import Derived.Test.YtcgjbjkhclphpaaDoorLutP
import Derived.Test.YtcgjbjkhclphpaaDoorLutQ
import Derived.Test.YtcgjbjkhclphpaaDoorRef4
namespace Go.Proofs.YtcgjbjkhclphpaaDoor
open Go.RowKit

/-- The array of all steps, laid into a new variable. -/
theorem steps_size : allSteps.toArray.size = 256 := by simp [allSteps, stepsTo]
theorem steps_one : allSteps.toArray.all (·.oneCell') = true := by
  rw [Array.all_eq_true_iff_forall_mem]
  intro x hx
  simp only [allSteps, stepsTo, List.mem_toArray, List.mem_map] at hx
  obtain ⟨i, _, rfl⟩ := hx
  rfl
theorem steps_get (i : Nat) (h : i < 256) : allSteps.toArray[i]? = some (.int .i64 (stp (i : Int))) := by
  rw [show allSteps = stepsTo 256 from rfl, stepsTo_get, if_pos h]

set_option maxRecDepth 20000 in
set_option maxHeartbeats 1000000 in
theorem first_any (w : World) (hQ : Quarters w) :
    Calls Tryd.prog 6 #[] w fun e w' => e = .returned (.bool true) ∧ Fr (fun _ => False) w w' := by
  obtain ⟨hz, hsz⟩ := zero_of_info zero256
  obtain ⟨Z, hZ⟩ : ∃ Z : Array Value, Z = Array.replicate 256 (.int .i64 0) := ⟨_, rfl⟩
  rw [← hZ] at hz
  have hZs : Hid (Z.size = 256) := by show _ = _; rw [hZ]; simp
  have HS := hid hsz
  clear hZ hsz
  obtain ⟨A, hA⟩ : ∃ A, A = allSteps.toArray := ⟨_, rfl⟩
  have hA1 : Hid (A.size = 256) := by rw [hA]; exact steps_size
  have hA2 : Hid (A.all (·.oneCell') = true) := by rw [hA]; exact steps_one
  have hA3 : Hid (A[255]? = some (.int .i64 1697)) := by rw [hA]; exact steps_get 255 (by omega)
  have HI : Hid ((Tryd.prog.info? 23).map (·.size) = some A.size) := by show _ = _; rw [HS.out, hA1.out]
  go_enter Tryd.func6, Tryd.ntmps6
  go_wp2_with fail
  refine (lsteps_any _).mono ?_
  rintro e w1 ⟨rfl, F1⟩
  rw [← hA]
  have HA := hid hA
  clear hA
  have hb1 : Blk (w1.alloc (.cells Z 23)) w1.heap.size Z 23 := Blk.new w1 Z _
  go_wp2_with (first | refine wpList_store_row rfl 23 (.tmp 1) (.tmp 3) rfl w1.heap.size A rfl rfl 23 Z hb1 HI.out (by rw [hZs.out, hA1.out]) hA2.out ?_ | fail)
  have hb2 : Blk ((w1.alloc (.cells Z 23)).setRow w1.heap.size A) w1.heap.size A 23 := setRow_heap _ w1.heap.size Z A 23 (0, 0) hb1
  have F2 : Fr (fun _ => False) w ((w1.alloc (.cells Z 23)).setRow w1.heap.size A) := (F1.alloc _).setRow (fun h => by have := F1.size; omega) _
  clear hb1
  generalize ((w1.alloc (.cells Z 23)).setRow w1.heap.size A) = w2 at hb2 F2
  refine (lfacs_any _ (hQ.fr F2)).mono ?_
  rintro e w3 ⟨g, rfl, hg, _, F3⟩
  have hb3 := hb2.fr F3 (fun h => h)
  have F4 := F2.trans' F3
  have hQ4 := hQ.fr F4
  have hc : w3.cell? ⟨w1.heap.size, 255, none⟩ = some (.int .i64 1697) := by rw [hb3.cell, hA3.out]
  have HQ4 := hid hQ4
  clear hb2 hb3 F2 F3 F1 hQ4
  go_wp2_with fail
  refine (lstep_any _ _).mono ?_
  rintro e w4 ⟨rfl, rfl⟩
  rw [show stp 128 = 682 by decide]
  go_wp2_with fail
  refine (lfac_any _ _ HQ4.out).mono ?_
  rintro e w5 ⟨rfl, F5⟩
  rw [show fac 5 = 10 by decide]
  go_wp2_with fail
  refine (loffs_any _ _ _ (HQ4.out.fr F5)).mono ?_
  rintro e w6 ⟨rfl, F6⟩
  rw [show offs 5 true = 4 by decide]
  go_wp2_with fail
  refine (lless_any _ _).mono ?_
  rintro e w7 ⟨rfl, rfl⟩
  rw [show lessC 32768 = 32086 by decide]
  go_wp2_with fail
  refine (lmore_any _ _).mono ?_
  rintro e w7 ⟨rfl, rfl⟩
  rw [show moreC 32768 = 33444 by decide]
  go_wp2_with fail
  refine (rstep_any _ _).mono ?_
  rintro e w7 ⟨rfl, rfl⟩
  rw [show stp 127 = 676 by decide]
  go_wp2
  go_ret
  exact ⟨rfl, (F4.trans' F5).trans' F6⟩
end Go.Proofs.YtcgjbjkhclphpaaDoor
