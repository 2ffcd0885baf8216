/-
  Package lut: steps and chances.
-/
import Derived.Test.YtcgjbjkhclphpaaDoorLut
import Derived.Deep.WholeRow
namespace Go.Proofs.YtcgjbjkhclphpaaDoor
open Go.RowKit

theorem lstep_any (i : Int) (w : World) :
    Calls Tryd.prog 9 #[.int .i64 i] w fun e w' => e = .returned (.int .i64 (stp i)) ∧ w' = w := by
  by_cases h0 : i < 0
  · have H := hid (stp_out (i := i) (by omega))
    go_enter Tryd.func9, Tryd.ntmps9
    go_wp2
    go_ret
    exact ⟨ret_int H.out.symm, rfl⟩
  by_cases h1 : 255 < i
  · have H := hid (stp_out (i := i) (by omega))
    have h0' : decide (i < 0) = false := by simp; omega
    go_enter Tryd.func9, Tryd.ntmps9
    go_wp2
    go_ret
    exact ⟨ret_int H.out.symm, rfl⟩
  have H := hid (stp_in (i := i) (by omega) (by omega))
  have hp := stp_prod (i := i) (by omega) (by omega)
  have h0' : decide (i < 0) = false := by simp; omega
  go_enter Tryd.func9, Tryd.ntmps9
  go_wp2
  go_ret
  exact ⟨ret_int H.out.symm, rfl⟩

theorem chance_any (p : Int) (w : World) :
    Calls Tryd.prog 19 #[.int .i64 p] w fun e w' => e = .returned (.int .i64 (nearC p)) ∧ w' = w := by
  by_cases h0 : p < 0
  · have H : Hid (nearC p = 0) := if_pos h0
    go_enter Tryd.func19, Tryd.ntmps19
    go_wp2
    go_ret
    exact ⟨ret_int H.out.symm, rfl⟩
  by_cases h1 : 65535 < p
  · have H : Hid (nearC p = 65535) := by show _ = _; unfold nearC; rw [if_neg h0, if_pos h1]
    go_enter Tryd.func19, Tryd.ntmps19
    go_wp2
    go_ret
    exact ⟨ret_int H.out.symm, rfl⟩
  by_cases h2 : p = 0
  · subst h2
    go_enter Tryd.func19, Tryd.ntmps19
    go_wp2
    go_ret
    exact ⟨rfl, rfl⟩
  have H : Hid (nearC p = p) := by show _ = _; unfold nearC; rw [if_neg h0, if_neg h1]
  have h3 : 0 < p := by omega
  go_enter Tryd.func19, Tryd.ntmps19
  go_wp2
  go_ret
  exact ⟨ret_int H.out.symm, rfl⟩

theorem lless_any (p : Int) (w : World) :
    Calls Tryd.prog 10 #[.int .i64 p] w fun e w' => e = .returned (.int .i64 (lessC p)) ∧ w' = w := by
  have hb := nearC_bounds p
  have H : Hid (lessC p = nearC p - stp (nearC p / 256)) := Eq.refl (lessC p)
  have hs := stp_bounds (nearC p / 256)
  go_enter Tryd.func10, Tryd.ntmps10
  go_wp2_with fail
  refine (chance_any _ _).mono ?_
  rintro e w1 ⟨rfl, rfl⟩
  generalize nearC p = x at hb H hs
  go_wp2_with fail
  refine (lstep_any _ _).mono ?_
  rintro e w1 ⟨rfl, rfl⟩
  go_wp2
  go_ret
  exact ⟨ret_int H.out.symm, rfl⟩

theorem lmore_any (p : Int) (w : World) :
    Calls Tryd.prog 12 #[.int .i64 p] w fun e w' => e = .returned (.int .i64 (moreC p)) ∧ w' = w := by
  have hb := nearC_bounds p
  have H : Hid (moreC p = nearC p + stp (255 - nearC p / 256)) := Eq.refl (moreC p)
  have hs := stp_bounds (255 - nearC p / 256)
  go_enter Tryd.func12, Tryd.ntmps12
  go_wp2_with fail
  refine (chance_any _ _).mono ?_
  rintro e w1 ⟨rfl, rfl⟩
  generalize nearC p = x at hb H hs
  go_wp2_with fail
  refine (lstep_any _ _).mono ?_
  rintro e w1 ⟨rfl, rfl⟩
  go_wp2
  go_ret
  exact ⟨ret_int H.out.symm, rfl⟩

/-- Steps: all. -/
def stepsTo (n : Nat) : List Value := (List.range n).map (fun i => .int .i64 (stp (i : Nat)))
def allSteps : List Value := stepsTo 256
theorem stepsTo_get (n i : Nat) : (stepsTo n).toArray[i]? = if i < n then some (.int .i64 (stp (i : Int))) else none := by
  simp only [stepsTo, List.getElem?_toArray, List.getElem?_map]
  split
  · rw [List.getElem?_range (by assumption)]; rfl
  · rw [List.getElem?_eq_none (by simp; omega)]; rfl

theorem zero256 : (Tryd.prog.info? 23).map (fun i => (i.zero, i.size)) = some (some (.agg (Array.replicate 256 (.int .i64 0))), 256) := by kernel_rfl

def StepRow (w : World) (g j : Nat) : Prop := ∃ cs : Array Value, Blk w g cs 23 ∧ cs.size = 256 ∧ (∀ i : Nat, i < j → cs[i]? = some (.int .i64 (stp (i : Int)))) ∧ cs.all (·.oneCell') = true

set_option maxRecDepth 20000 in
theorem lsteps_any (w : World) :
    Calls Tryd.prog 7 #[] w fun e w' => e = .returned (.agg allSteps.toArray) ∧ Fr (fun _ => False) w w' := by
  obtain ⟨hz, hsz⟩ := zero_of_info zero256
  obtain ⟨Z, hZ⟩ : ∃ Z : Array Value, Z = Array.replicate 256 (.int .i64 0) := ⟨_, rfl⟩
  rw [← hZ] at hz
  have hZs : Z.size = 256 := by rw [hZ]; simp
  have hZ1 : Z.all (·.oneCell') = true := by rw [hZ, Array.all_eq_true_iff_forall_mem]; intro x hx; rw [Array.mem_replicate] at hx; rw [hx.2]; rfl
  clear hZ
  have HS := hid hsz
  clear hsz
  go_enter Tryd.func7, Tryd.ntmps7
  go_wp2_with fail
  go_loopw [3] (fun i wr => ∃ j : Nat, j ≤ 256 ∧ i = .int .i64 (j : Int) ∧ StepRow wr (w.heap.size + 1) j ∧ Blk wr w.heap.size Z 23 ∧ Fr (fun _ => False) w wr) (fun i _ => 256 - (intOf i).toNat)
  case atStart => exact ⟨0, Nat.zero_le _, rfl, ⟨Z, by simpa using Blk.new (w.alloc (Obj.cells Z 23)) Z 23, hZs, fun i hi => by omega, hZ1⟩, (Blk.new w Z 23).alloc _, ((Fr.refl _ w).alloc _).alloc _⟩
  case round =>
    obtain ⟨j, hj, rfl, ⟨cs, hb, hcs, hc, h1⟩, hb0, F⟩ := hrel
    by_cases hlt : j < 256
    · have hlt' : (j : Int) < 256 := by omega
      have hfz := hb.thaw
      have hcv : wr.cell? ⟨w.heap.size + 1, j, none⟩ = some (cs[j]'(by omega)) := by rw [hb.cell, Array.getElem?_eq_getElem (by omega)]
      have HB := hid hb
      have HB0 := hid hb0
      clear hb hb0
      go_wp2_with fail
      refine (lstep_any _ _).mono ?_
      rintro e w2 ⟨rfl, rfl⟩
      go_wp2
      go_roundw
      case rel =>
        refine ⟨j + 1, by omega, by go_num, ⟨_, HB.out.set j _, by simpa using hcs, fun i hi => ?_, ?_⟩, HB0.out.setOther (by simp) _, F.setCell (fun h => by simp at h; omega) _⟩
        · rw [Array.getElem?_setIfInBounds]
          by_cases e : j = i
          · subst e; rw [if_pos rfl, if_pos (by omega)]
          · rw [if_neg e]; exact hc i (by omega)
        · rw [Array.all_eq_true_iff_forall_mem] at h1 ⊢
          intro x hx
          rcases Array.mem_or_eq_of_mem_setIfInBounds hx with h | h
          · exact h1 x h
          · rw [h]; rfl
      case measure => simp [intOf]; omega
    · have hlt' : ¬ (j : Int) < 256 := by omega
      obtain rfl : j = 256 := by omega
      have HC : Hid (cs = allSteps.toArray) := by
        show _ = _
        apply Array.ext_getElem?
        intro i
        rw [show allSteps = stepsTo 256 from rfl, stepsTo_get]
        split
        · rename_i hi; exact hc i hi
        · rw [Array.getElem?_eq_none (by omega)]
      have HI : Hid ((Tryd.prog.info? 23).map (·.size) = some cs.size) := by show _ = _; rw [HS.out, hcs]
      clear hc
      go_wp2_with (first | refine wpList_load_row rfl 23 (.tmp 1) rfl (w.heap.size + 1) rfl 23 cs (0, 0) _ hb Tryd.underlying23 rfl HI.out ?_ | refine wpList_store_row rfl 23 (.tmp 0) (.tmp 11) rfl w.heap.size cs rfl rfl 23 Z hb0 HI.out (by rw [hZs, hcs]) h1 ?_)
      refine bodyPost_ret (v := .agg allSteps.toArray) ?_ rfl ⟨rfl, F.setRow (fun h => by simp at h) _⟩
      rw [← HC.out]
      exact results_cell_row rfl _ _ w.heap.size 23 cs (0, 0) _ rfl (setRow_heap wr w.heap.size Z cs 23 (0, 0) hb0) Tryd.underlying23 rfl HI.out
end Go.Proofs.YtcgjbjkhclphpaaDoor
