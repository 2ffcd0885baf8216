/-
  Package arith: a new model.
-/
import Derived.Test.YthabklgeopdlhaaArithM
namespace Go.Proofs.Ythabklgeopdlhaa
open Go.RowKit

def halfP (j n : Nat) : List Int := List.replicate j 32768 ++ List.replicate (n - j) 0
theorem halfP_set (j n : Nat) (h : j < n) : (halfP j n).set j 32768 = halfP (j + 1) n := by
  unfold halfP
  rw [List.set_append_right _ _ (by simp), List.length_replicate, Nat.sub_self, show n - j = (n - (j + 1)) + 1 by omega, List.replicate_succ, List.set_cons_zero, List.replicate_succ', List.append_assoc]
  rfl
theorem halfP_zero (n : Nat) : (intRow (halfP 0 n)).toArray = madeCells #[.int .i64 0] n := by
  apply Array.ext'
  simp [halfP, intRow, toList_madeCells_one]
theorem halfP_full (n : Nat) : halfP n n = evenP n := by simp [halfP, evenP]

theorem Try.info_model : (Try.prog.info? 60).map (·.size) = some 4 := by kernel_rfl

theorem newModel_lo (w : World) (c : Int) (hc : c < 1) :
    Calls Try.prog 30 #[.int .i64 c] w fun e w' => ∃ g, e = .returned (.agg #[.slice (some ⟨g, 0, none⟩) 1 1, .int .i64 0, .int .i64 0, .int .i64 65536]) ∧ Blk w' g (intRow (evenP 1)).toArray 3 ∧ w.heap.size ≤ g ∧ Fr (fun _ => False) w w' := by
  have hmk : ∀ w : World, (Instr.makeSlice 22 (.int .i64 1) (.int .i64 1)).run Try.prog w = .ok (.slice (some ⟨w.heap.size, 0, none⟩) 1 1) (w.alloc (.cells (madeCells #[.int .i64 0] 1) 3)) := run_make_row' (P := Try.prog) 22 3 (.int .i64 0) 8 Try.underlying22 Try.info_int rfl .i64 .i64 1 (by omega) (by omega)
  have HB0 : Hid (Blk ((w.alloc (Obj.cells #[.slice none 0 0, .int .i64 0, .int .i64 0, .int .i64 0] 60)).alloc (Obj.cells (madeCells #[.int .i64 0] 1) 3)) (w.heap.size + 1) (intRow (halfP 0 1)).toArray 3) := by
    show Blk _ _ _ _
    rw [halfP_zero]
    simpa using Blk.new (w.alloc (Obj.cells #[.slice none 0 0, .int .i64 0, .int .i64 0, .int .i64 0] 60)) (madeCells #[.int .i64 0] 1) 3
  go_enter Try.func30, Try.ntmps30
  go_wp2
  go_loopw [11] (fun i wr => ∃ j : Nat, j ≤ 1 ∧ i = .int .i64 (j : Int) ∧ Blk wr (w.heap.size + 1) (intRow (halfP j 1)).toArray 3 ∧ Blk wr w.heap.size #[.slice none 0 0, .int .i64 0, .int .i64 0, .int .i64 0] 60 ∧ Fr (fun _ => False) w wr) (fun i _ => 1 - (intOf i).toNat)
  case atStart => exact ⟨0, Nat.zero_le _, rfl, HB0.out, (Blk.new w _ _).alloc _, ((Fr.refl _ w).alloc _).alloc _⟩
  case round =>
    obtain ⟨j, hj, rfl, hb, hb0, F⟩ := hrel
    have hfz := hb.thaw
    have hfz0 := hb0.thaw
    by_cases hlt : j < 1
    · have hji : (j : Int) < 1 := by omega
      have HS := hid (halfP_set j 1 hlt)
      have hcv : ∃ v, wr.cell? ⟨w.heap.size + 1, j, none⟩ = some v := ⟨_, by rw [hb.cell, List.getElem?_toArray, intRow_get _ _ (by simp [halfP]; omega)]⟩
      obtain ⟨vc, hcv⟩ := hcv
      have HB := hid hb
      have HB1 := hid hb0
      clear hb hb0
      go_wp2
      go_roundw
      case rel =>
        refine ⟨j + 1, by omega, by go_num, ?_, HB1.out.setOther (by simp) _, F.setCell (fun h => by simp at h; omega) _⟩
        have := HB.out.set j (.int .i64 32768)
        rw [List.setIfInBounds_toArray, intRow_set, HS.out] at this
        exact this
      case measure => simp [intOf]; omega
    · have hji : ¬ (j : Int) < 1 := by omega
      obtain rfl : j = 1 := by omega
      rw [halfP_full] at hb
      have d0 := hb0.cell 0
      have d1 := hb0.cell 1
      have d2 := hb0.cell 2
      have d3 := hb0.cell 3
      simp at d0 d1 d2 d3
      have HB := hid hb
      have HB1 := hid hb0
      clear hb hb0
      go_wp2
      refine bodyPost_ret (v := .agg #[.slice (some ⟨w.heap.size + 1, 0, none⟩) 1 1, .int .i64 0, .int .i64 0, .int .i64 65536]) ?_ rfl ⟨w.heap.size + 1, rfl, ?_, by omega, ?_⟩
      · refine results_cell_row rfl _ _ w.heap.size 60 _ (0, 0) _ rfl (show Blk _ _ _ _ from ?_) Try.underlying60 rfl Try.info_model
        simpa using (((HB1.out.set 0 _).set 1 _).set 2 _).set 3 _
      · exact (((HB.out.setOther (by simp) _).setOther (by simp) _).setOther (by simp) _).setOther (by simp) _
      · exact (((F.setCell (fun h => by simp at h) _).setCell (fun h => by simp at h) _).setCell (fun h => by simp at h) _).setCell (fun h => by simp at h) _

theorem newModel_hi (w : World) (c : Int) (hc : 64 < c) :
    Calls Try.prog 30 #[.int .i64 c] w fun e w' => ∃ g, e = .returned (.agg #[.slice (some ⟨g, 0, none⟩) 64 64, .int .i64 0, .int .i64 0, .int .i64 65536]) ∧ Blk w' g (intRow (evenP 64)).toArray 3 ∧ w.heap.size ≤ g ∧ Fr (fun _ => False) w w' := by
  have hmk : ∀ w : World, (Instr.makeSlice 22 (.int .i64 64) (.int .i64 64)).run Try.prog w = .ok (.slice (some ⟨w.heap.size, 0, none⟩) 64 64) (w.alloc (.cells (madeCells #[.int .i64 0] 64) 3)) := run_make_row' (P := Try.prog) 22 3 (.int .i64 0) 8 Try.underlying22 Try.info_int rfl .i64 .i64 64 (by omega) (by omega)
  have HB0 : Hid (Blk ((w.alloc (Obj.cells #[.slice none 0 0, .int .i64 0, .int .i64 0, .int .i64 0] 60)).alloc (Obj.cells (madeCells #[.int .i64 0] 64) 3)) (w.heap.size + 1) (intRow (halfP 0 64)).toArray 3) := by
    show Blk _ _ _ _
    rw [halfP_zero]
    simpa using Blk.new (w.alloc (Obj.cells #[.slice none 0 0, .int .i64 0, .int .i64 0, .int .i64 0] 60)) (madeCells #[.int .i64 0] 64) 3
  go_enter Try.func30, Try.ntmps30
  go_wp2
  go_loopw [11] (fun i wr => ∃ j : Nat, j ≤ 64 ∧ i = .int .i64 (j : Int) ∧ Blk wr (w.heap.size + 1) (intRow (halfP j 64)).toArray 3 ∧ Blk wr w.heap.size #[.slice none 0 0, .int .i64 0, .int .i64 0, .int .i64 0] 60 ∧ Fr (fun _ => False) w wr) (fun i _ => 64 - (intOf i).toNat)
  case atStart => exact ⟨0, Nat.zero_le _, rfl, HB0.out, (Blk.new w _ _).alloc _, ((Fr.refl _ w).alloc _).alloc _⟩
  case round =>
    obtain ⟨j, hj, rfl, hb, hb0, F⟩ := hrel
    have hfz := hb.thaw
    have hfz0 := hb0.thaw
    by_cases hlt : j < 64
    · have hji : (j : Int) < 64 := by omega
      have HS := hid (halfP_set j 64 hlt)
      have hcv : ∃ v, wr.cell? ⟨w.heap.size + 1, j, none⟩ = some v := ⟨_, by rw [hb.cell, List.getElem?_toArray, intRow_get _ _ (by simp [halfP]; omega)]⟩
      obtain ⟨vc, hcv⟩ := hcv
      have HB := hid hb
      have HB1 := hid hb0
      clear hb hb0
      go_wp2
      go_roundw
      case rel =>
        refine ⟨j + 1, by omega, by go_num, ?_, HB1.out.setOther (by simp) _, F.setCell (fun h => by simp at h; omega) _⟩
        have := HB.out.set j (.int .i64 32768)
        rw [List.setIfInBounds_toArray, intRow_set, HS.out] at this
        exact this
      case measure => simp [intOf]; omega
    · have hji : ¬ (j : Int) < 64 := by omega
      obtain rfl : j = 64 := by omega
      rw [halfP_full] at hb
      have d0 := hb0.cell 0
      have d1 := hb0.cell 1
      have d2 := hb0.cell 2
      have d3 := hb0.cell 3
      simp at d0 d1 d2 d3
      have HB := hid hb
      have HB1 := hid hb0
      clear hb hb0
      go_wp2
      refine bodyPost_ret (v := .agg #[.slice (some ⟨w.heap.size + 1, 0, none⟩) 64 64, .int .i64 0, .int .i64 0, .int .i64 65536]) ?_ rfl ⟨w.heap.size + 1, rfl, ?_, by omega, ?_⟩
      · refine results_cell_row rfl _ _ w.heap.size 60 _ (0, 0) _ rfl (show Blk _ _ _ _ from ?_) Try.underlying60 rfl Try.info_model
        simpa using (((HB1.out.set 0 _).set 1 _).set 2 _).set 3 _
      · exact (((HB.out.setOther (by simp) _).setOther (by simp) _).setOther (by simp) _).setOther (by simp) _
      · exact (((F.setCell (fun h => by simp at h) _).setCell (fun h => by simp at h) _).setCell (fun h => by simp at h) _).setCell (fun h => by simp at h) _

theorem newModel_mid (w : World) (n : Nat) (h1 : 1 ≤ n) (h2 : n ≤ 64) :
    Calls Try.prog 30 #[.int .i64 (n : Int)] w fun e w' => ∃ g, e = .returned (.agg #[.slice (some ⟨g, 0, none⟩) n n, .int .i64 0, .int .i64 0, .int .i64 65536]) ∧ Blk w' g (intRow (evenP n)).toArray 3 ∧ w.heap.size ≤ g ∧ Fr (fun _ => False) w w' := by
  have hmk : ∀ w : World, (Instr.makeSlice 22 (.int .i64 (n : Int)) (.int .i64 (n : Int))).run Try.prog w = .ok (.slice (some ⟨w.heap.size, 0, none⟩) n n) (w.alloc (.cells (madeCells #[.int .i64 0] n) 3)) := run_make_row' (P := Try.prog) 22 3 (.int .i64 0) 8 Try.underlying22 Try.info_int rfl .i64 .i64 n (by omega) (by omega)
  have HB0 : Hid (Blk ((w.alloc (Obj.cells #[.slice none 0 0, .int .i64 0, .int .i64 0, .int .i64 0] 60)).alloc (Obj.cells (madeCells #[.int .i64 0] n) 3)) (w.heap.size + 1) (intRow (halfP 0 n)).toArray 3) := by
    show Blk _ _ _ _
    rw [halfP_zero]
    simpa using Blk.new (w.alloc (Obj.cells #[.slice none 0 0, .int .i64 0, .int .i64 0, .int .i64 0] 60)) (madeCells #[.int .i64 0] n) 3
  go_enter Try.func30, Try.ntmps30
  go_wp2
  go_loopw [11] (fun i wr => ∃ j : Nat, j ≤ n ∧ i = .int .i64 (j : Int) ∧ Blk wr (w.heap.size + 1) (intRow (halfP j n)).toArray 3 ∧ Blk wr w.heap.size #[.slice none 0 0, .int .i64 0, .int .i64 0, .int .i64 0] 60 ∧ Fr (fun _ => False) w wr) (fun i _ => n - (intOf i).toNat)
  case atStart => exact ⟨0, Nat.zero_le _, rfl, HB0.out, (Blk.new w _ _).alloc _, ((Fr.refl _ w).alloc _).alloc _⟩
  case round =>
    obtain ⟨j, hj, rfl, hb, hb0, F⟩ := hrel
    have hfz := hb.thaw
    have hfz0 := hb0.thaw
    by_cases hlt : j < n
    · have hji : (j : Int) < (n : Int) := by omega
      have HS := hid (halfP_set j n hlt)
      have hcv : ∃ v, wr.cell? ⟨w.heap.size + 1, j, none⟩ = some v := ⟨_, by rw [hb.cell, List.getElem?_toArray, intRow_get _ _ (by simp [halfP]; omega)]⟩
      obtain ⟨vc, hcv⟩ := hcv
      have HB := hid hb
      have HB1 := hid hb0
      clear hb hb0
      go_wp2
      go_roundw
      case rel =>
        refine ⟨j + 1, by omega, by go_num, ?_, HB1.out.setOther (by simp) _, F.setCell (fun h => by simp at h; omega) _⟩
        have := HB.out.set j (.int .i64 32768)
        rw [List.setIfInBounds_toArray, intRow_set, HS.out] at this
        exact this
      case measure => simp [intOf]; omega
    · have hji : ¬ (j : Int) < (n : Int) := by omega
      obtain rfl : j = n := by omega
      rw [halfP_full] at hb
      have d0 := hb0.cell 0
      have d1 := hb0.cell 1
      have d2 := hb0.cell 2
      have d3 := hb0.cell 3
      simp at d0 d1 d2 d3
      have HB := hid hb
      have HB1 := hid hb0
      clear hb hb0
      go_wp2
      refine bodyPost_ret (v := .agg #[.slice (some ⟨w.heap.size + 1, 0, none⟩) j j, .int .i64 0, .int .i64 0, .int .i64 65536]) ?_ rfl ⟨w.heap.size + 1, rfl, ?_, by omega, ?_⟩
      · refine results_cell_row rfl _ _ w.heap.size 60 _ (0, 0) _ rfl (show Blk _ _ _ _ from ?_) Try.underlying60 rfl Try.info_model
        simpa using (((HB1.out.set 0 _).set 1 _).set 2 _).set 3 _
      · exact (((HB.out.setOther (by simp) _).setOther (by simp) _).setOther (by simp) _).setOther (by simp) _
      · exact (((F.setCell (fun h => by simp at h) _).setCell (fun h => by simp at h) _).setCell (fun h => by simp at h) _).setCell (fun h => by simp at h) _

theorem newModel_any (w : World) (c : Int) :
    Calls Try.prog 30 #[.int .i64 c] w fun e w' => ∃ g, e = .returned (.agg #[.slice (some ⟨g, 0, none⟩) (ctxN c) (ctxN c), .int .i64 0, .int .i64 0, .int .i64 65536]) ∧ Blk w' g (intRow (evenP (ctxN c))).toArray 3 ∧ w.heap.size ≤ g ∧ Fr (fun _ => False) w w' := by
  by_cases h0 : c < 1
  · rw [show ctxN c = 1 by unfold ctxN; omega]; exact newModel_lo w c h0
  by_cases h1 : 64 < c
  · rw [show ctxN c = 64 by unfold ctxN; omega]; exact newModel_hi w c h1
  obtain ⟨n, rfl⟩ := Int.eq_ofNat_of_zero_le (show 0 ≤ c by omega)
  rw [show ctxN (n : Int) = n by unfold ctxN; omega]
  exact newModel_mid w n (by omega) (by omega)
end Go.Proofs.Ythabklgeopdlhaa
