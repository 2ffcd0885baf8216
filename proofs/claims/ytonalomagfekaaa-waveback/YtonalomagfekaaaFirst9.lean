/-
  Law 9: what must be answered, ahead of everything else (first); is a plane too great to be asked (big).
-/
import Derived.Test.YtonalomagfekaaaWaveH
import Derived.Test.YtonalomagfekaaaRef9E
import Derived.Test.YtonalomagfekaaaPlaneE
namespace Go.Proofs.Ytonalomagfekaaa
open Go.RowKit

theorem big9_any (X Y : Int) (a : Option Addr) (n cap : Nat) (w : World) (hn : (n : Int) ≤ 9223372036854775807) :
    Calls Try.prog 8 #[.agg #[.int .i64 X, .int .i64 Y, .slice a n cap]] w fun e w' => e = .returned (.bool (decide (4200 < n))) ∧ Fr (fun _ => False) w w' := by
  have HC : Hid (decide (4200 < n) = decide ((4200 : Int) < (n : Int))) := by show _ = _; apply decide_eq_decide.2; omega
  go_enter Try.func8, Try.ntmps8
  go_wp2
  go_ret
  exact ⟨ret_bool HC.out.symm, (Fr.refl _ w).alloc _⟩

def V9 : Nat → Int := fun j => [1, 3, 5, 7].getD j 0
theorem V9_abs {j : Nat} (hj : j < 4) : Abs 7 (V9 j) := by
  have : j = 0 ∨ j = 1 ∨ j = 2 ∨ j = 3 := by omega
  rcases this with rfl | rfl | rfl | rfl <;> (unfold Abs; decide)
theorem fits2 : FitsN 1 2 := ⟨by decide, by decide⟩
theorem level_one {f w h : Nat} {A : Grid} : fwdW f 1 w h A = levelF f w h A := by
  funext y x
  show layG (w / 2) (h / 2) (levelF f w h A) (levelF f w h A) y x = _
  by_cases hq : x < w / 2 ∧ y < h / 2
  · rw [layG_in hq.1 hq.2]
  · rw [layG_out hq]

set_option maxRecDepth 100000 in
set_option maxHeartbeats 4000000 in
theorem first9_any (w : World) : Calls Try.prog 7 #[] w fun e w' => e = .returned (.bool true) ∧ Fr (fun _ => False) w w' := by
  have HI9 : Hid (∀ j, j < 4 → I64 (V9 j)) := fun j hj => (V9_abs hj).i64 (by decide)
  have HFw : Hid (∀ w1 b, Nums w1 (some ⟨b, 0, none⟩) 4 4 V9 b → Calls Try.prog 12 #[.int .i64 3, .agg #[.int .i64 2, .int .i64 2, .slice (some ⟨b, 0, none⟩) 4 4], .int .i64 1] w1 fun e w' => Made w1 w' e 2 2 4 (flatG 2 (fwdW 3 1 2 2 (gridV 2 V9)))) := fun w1 b h => wforward_go 3 (by decide) 2 2 1 _ 4 4 V9 b w1 (by decide) (by decide) (by decide) (by decide) rfl (by decide) fits2 fits2 h HI9.out
  obtain ⟨QF, hQF⟩ : ∃ Q, Q = flatG 2 (fwdW 3 1 2 2 (gridV 2 V9)) := ⟨_, rfl⟩
  have HIQ : Hid (∀ j, j < 4 → I64 (QF j)) := fun j hj => by
    rw [hQF]
    exact fwdW_i64 1 fits2 fits2 (gridV_i64 (m := 4) rfl HI9.out) _ _ (row_lt (W := 2) (H := 2) hj) (col_lt (W := 2) (H := 2) hj)
  obtain ⟨QL, hQL⟩ : ∃ Q, Q = flatG 2 (levelF 3 2 2 (gridV 2 V9)) := ⟨_, rfl⟩
  obtain ⟨QI, hQI⟩ : ∃ Q, Q = flatG 2 (bwdW 3 1 2 2 (gridV 2 QF)) := ⟨_, rfl⟩
  have HQL : Hid (∀ j, j < 4 → QF j = QL j) := fun j _ => by rw [hQF, hQL, level_one]
  have HQI : Hid (∀ j, j < 4 → QI j = V9 j) := fun j hj => by
    have e0 := bwdW_fwdW (f := 3) 1 (M := 7) fits2 fits2 (by decide) (by decide) (A := gridV 2 V9) (fun y x hy hx => V9_abs (flat_lt (W := 2) (H := 2) hx hy))
    have e1 : EqG 2 2 (gridV 2 QF) (fwdW 3 1 2 2 (gridV 2 V9)) := fun y x _ hx => by rw [hQF]; exact gridV_flat hx
    have e2 := (bwdW_congr (f := 3) 1 fits2 fits2 e1).trans e0
    rw [hQI, flatG_congr (H := 2) e2 hj, flatG_grid]
  have HInv : Hid (∀ w1 a1 cap1 b1, Nums w1 a1 4 cap1 QF b1 → Calls Try.prog 14 #[.int .i64 3, .agg #[.int .i64 2, .int .i64 2, .slice a1 4 cap1], .int .i64 1] w1 fun e w' => Gave w1 w' e 2 2 4 QI) := fun w1 a1 cap1 b1 h => by
    rw [hQI]
    refine (winverse_go 3 (by decide) 2 2 1 a1 4 cap1 QF b1 w1 (by decide) (by decide) (by decide) (by decide) rfl (by decide) fits2 fits2 h HIQ.out).mono ?_
    rintro e w' ⟨a, cp, b, he, hn, _, f⟩
    exact ⟨a, cp, b, he, hn, f⟩
  have HLev : Hid (∀ w1, Nums w1 (some ⟨w.heap.size, 0, none⟩) 4 4 V9 w.heap.size → Calls Try.prog 22 #[.int .i64 3, .agg #[.int .i64 2, .int .i64 2, .slice (some ⟨w.heap.size, 0, none⟩) 4 4]] w1 fun e w' => Gave w1 w' e 2 2 4 QL) := fun w1 h => by
    rw [hQL]
    refine (rlevel_go 3 (by decide) 2 2 _ 4 4 V9 _ w1 ⟨by decide, by decide⟩ (by decide) ⟨by decide, by decide⟩ (by decide) rfl h).mono ?_
    rintro e w' ⟨g, he, hr, _, f⟩
    exact ⟨_, _, g, he, hr.nums (by unfold maxLen; decide), f⟩
  have HS1 : Hid (∀ w1 a1 cap1 b1 a2 k2 b2, Nums w1 a1 4 cap1 QF b1 → Nums w1 a2 4 k2 QL b2 → Calls Try.prog 11 #[.agg #[.int .i64 2, .int .i64 2, .slice a1 4 cap1], .agg #[.int .i64 2, .int .i64 2, .slice a2 4 k2]] w1 fun e w' => e = .returned (.bool true) ∧ Fr (fun _ => False) w1 w') := fun w1 a1 cap1 b1 a2 k2 b2 h h' => by
    have := rsame_any 2 2 a1 4 cap1 QF b1 2 2 a2 4 k2 QL b2 w1 h h'
    rwa [sameV_of HQL.out] at this
  have HS2 : Hid (∀ w1 a1 cap1 b1, Nums w1 a1 4 cap1 QI b1 → Nums w1 (some ⟨w.heap.size, 0, none⟩) 4 4 V9 w.heap.size → Calls Try.prog 11 #[.agg #[.int .i64 2, .int .i64 2, .slice a1 4 cap1], .agg #[.int .i64 2, .int .i64 2, .slice (some ⟨w.heap.size, 0, none⟩) 4 4]] w1 fun e w' => e = .returned (.bool true) ∧ Fr (fun _ => False) w1 w') := fun w1 a1 cap1 b1 h h' => by
    have := rsame_any 2 2 a1 4 cap1 QI b1 2 2 _ 4 4 V9 _ w1 h h'
    rwa [sameV_of HQI.out] at this
  have HF1 : Hid (∀ w1, Calls Try.prog 9 #[.agg #[.int .i64 2, .int .i64 2, .slice (some ⟨w.heap.size, 0, none⟩) 4 4], .int .i64 1] w1 fun e w' => e = .returned (.bool true) ∧ Fr (fun _ => False) w1 w') := fun w1 => by
    have := wfits_any 2 2 (some ⟨w.heap.size, 0, none⟩) 4 4 1 w1
    rwa [show fitsP 2 2 4 1 = true by decide +kernel] at this
  have HF2 : Hid (∀ w1, Calls Try.prog 9 #[.agg #[.int .i64 2, .int .i64 2, .slice (some ⟨w.heap.size, 0, none⟩) 4 4], .int .i64 2] w1 fun e w' => e = .returned (.bool false) ∧ Fr (fun _ => False) w1 w') := fun w1 => by
    have := wfits_any 2 2 (some ⟨w.heap.size, 0, none⟩) 4 4 2 w1
    rwa [show fitsP 2 2 4 2 = false by decide +kernel] at this
  have HPd : Hid (∀ w1, Calls Try.prog 18 #[.int .i64 5, .int .i64 2] w1 fun e w' => e = .returned (.int .i64 8) ∧ w' = w1) := fun w1 => by
    have := wpadded_any 5 2 w1
    rwa [show padN 5 2 = 8 by decide +kernel] at this
  rw [← hQF] at HFw
  clear hQF hQL hQI HQL HQI HI9 HIQ
  obtain ⟨W, hW⟩ : ∃ W, W = (w.alloc (.cells #[.int .i64 1, .int .i64 3, .int .i64 5, .int .i64 7] 3)).alloc (.cells #[.int .i64 2, .int .i64 2, .slice (some ⟨w.heap.size, 0, none⟩) 4 4] 25) := ⟨_, rfl⟩
  have F0 : Fr (fun _ => False) w W := by rw [hW]; exact ((Fr.refl _ w).alloc _).alloc _
  have O0 : Blk W w.heap.size #[.int .i64 1, .int .i64 3, .int .i64 5, .int .i64 7] 3 := by rw [hW]; exact (Blk.new _ _ _).alloc _
  have O1 : Blk W (w.heap.size + 1) #[.int .i64 2, .int .i64 2, .slice (some ⟨w.heap.size, 0, none⟩) 4 4] 25 := by
    rw [hW]
    have := Blk.new (w.alloc (.cells #[.int .i64 1, .int .i64 3, .int .i64 5, .int .i64 7] 3)) #[.int .i64 2, .int .i64 2, .slice (some ⟨w.heap.size, 0, none⟩) 4 4] 25
    simpa using this
  have HW := hid hW
  clear hW
  go_enter Try.func7, Try.ntmps7
  go_wp2_with fail
  rw [← HW.out]
  refine (HFw.out W _ ((Row.of_blk (l := [1, 3, 5, 7]) O0).nums (by unfold maxLen; decide))).mono ?_
  rintro e w2 ⟨a1, cap1, b1, rfl, hn1, hb1, f2⟩
  have Q0 := O0.fr f2 (fun h => h)
  have Q1 := O1.fr f2 (fun h => h)
  have F2 := F0.trans' f2
  clear O0 O1 F0 f2 HFw HW hb1
  obtain ⟨W3, hW3⟩ : ∃ W3, W3 = w2.alloc (.cells #[.int .i64 2, .int .i64 2, .slice a1 4 cap1] 25) := ⟨_, rfl⟩
  obtain ⟨bq, hbq⟩ : ∃ bq, bq = w2.heap.size := ⟨_, rfl⟩
  have F3 : Fr (fun _ => False) w W3 := by rw [hW3]; exact F2.alloc _
  have R0 : Blk W3 w.heap.size #[.int .i64 1, .int .i64 3, .int .i64 5, .int .i64 7] 3 := by rw [hW3]; exact Q0.alloc _
  have R1 : Blk W3 (w.heap.size + 1) #[.int .i64 2, .int .i64 2, .slice (some ⟨w.heap.size, 0, none⟩) 4 4] 25 := by rw [hW3]; exact Q1.alloc _
  have R3 : Blk W3 bq #[.int .i64 2, .int .i64 2, .slice a1 4 cap1] 25 := by rw [hW3, hbq]; exact Blk.new _ _ _
  have n3 : Nums W3 a1 4 cap1 QF b1 := by rw [hW3]; exact hn1.quiet ((Fr.refl _ w2).alloc _)
  have HW3 := hid hW3
  have HBQ := hid hbq
  clear hW3 Q0 Q1 F2 hbq
  have HQ : Hid (∀ wq, Fr (fun _ => False) W3.drew wq → (wq.cell? ⟨w.heap.size + 1, 0, none⟩ = some (.int .i64 2) ∧ wq.cell? ⟨w.heap.size + 1, 1, none⟩ = some (.int .i64 2) ∧ wq.cell? ⟨w.heap.size + 1, 2, none⟩ = some (.slice (some ⟨w.heap.size, 0, none⟩) 4 4)) ∧ (wq.cell? ⟨bq, 0, none⟩ = some (.int .i64 2) ∧ wq.cell? ⟨bq, 1, none⟩ = some (.int .i64 2) ∧ wq.cell? ⟨bq, 2, none⟩ = some (.slice a1 4 cap1)) ∧ Hid (Nums wq (some ⟨w.heap.size, 0, none⟩) 4 4 V9 w.heap.size) ∧ Hid (Nums wq a1 4 cap1 QF b1)) := by
    intro wq f
    have f' := (Fr.refl _ W3).drew.trans' f
    have S0 := R0.fr f' (fun h => h)
    have S1 := R1.fr f' (fun h => h)
    have S3 := R3.fr f' (fun h => h)
    exact ⟨⟨by rw [S1.cell]; rfl, by rw [S1.cell]; rfl, by rw [S1.cell]; rfl⟩, ⟨by rw [S3.cell]; rfl, by rw [S3.cell]; rfl, by rw [S3.cell]; rfl⟩, (Row.of_blk (l := [1, 3, 5, 7]) S0).nums (by unfold maxLen; decide), n3.quiet f'⟩
  have HS1 := hid (fun w1 => HS1.out w1 a1 cap1 b1)
  have HInv := hid (fun w1 => HInv.out w1 a1 cap1 b1)
  clear R0 R1 R3 n3 hn1
  go_wp2
  rw [← HW3.out, ← HBQ.out]
  refine weaveS 29 [.eq (Value.agg #[.int .i64 2, .int .i64 2, .slice a1 4 cap1]), .eq (Value.agg #[.int .i64 2, .int .i64 2, .slice (some ⟨w.heap.size, 0, none⟩) 4 4]), .planeN 2 2 4 QL, .eq (Value.bool true), .eq (Value.bool true), .eq (Value.agg #[.int .i64 2, .int .i64 2, .slice a1 4 cap1]), .planeN 2 2 4 QI, .eq (Value.agg #[.int .i64 2, .int .i64 2, .slice (some ⟨w.heap.size, 0, none⟩) 4 4]), .eq (Value.bool true), .eq (Value.bool true), .eq (Value.bool true), .eq (Value.pointer (some ⟨bq, 2, none⟩)), .eq (Value.slice a1 4 cap1), .eq (Value.int .i64 4), .eq (Value.bool true), .eq (Value.bool true), .eq (Value.bool true), .eq (Value.agg #[.int .i64 2, .int .i64 2, .slice (some ⟨w.heap.size, 0, none⟩) 4 4]), .eq (Value.bool true), .eq (Value.bool true), .eq (Value.bool true), .eq (Value.agg #[.int .i64 2, .int .i64 2, .slice (some ⟨w.heap.size, 0, none⟩) 4 4]), .eq (Value.bool false), .eq (Value.bool true), .eq (Value.bool true), .eq (Value.bool true), .eq (Value.int .i64 8), .eq (Value.bool true), .eq (Value.bool true)] (by kernel_rfl) (by kernel_rfl) ?obls ?tail
  case obls =>
    simp only [List.take_succ_cons, List.take_zero]
    refine ⟨?_, ?_, ?_, ?_, ?_, ?_, ?_, ?_, ?_, ?_, ?_, ?_, ?_, ?_, ?_, ?_, ?_, ?_, ?_, ?_, ?_, ?_, ?_, ?_, ?_, ?_, ?_, ?_, ?_, trivial⟩
    · intro vals wq f h
      simp only [fillA, fillT, List.setIfInBounds_toArray, List.set_cons_succ, List.set_cons_zero, Option.getD_some, Nat.zero_add, Nat.reduceAdd]
      obtain ⟨⟨k0, k1, k2⟩, ⟨l0, l1, l2⟩, HNp, HNq⟩ := HQ.out wq f
      clear h
      go_wp2
      exact ⟨rfl, rfl, _, rfl, Fr.refl _ _, rfl⟩
    · intro vals wq f h
      simp only [fillA, fillT, List.setIfInBounds_toArray, List.set_cons_succ, List.set_cons_zero, Option.getD_some, Nat.zero_add, Nat.reduceAdd]
      obtain ⟨⟨k0, k1, k2⟩, ⟨l0, l1, l2⟩, HNp, HNq⟩ := HQ.out wq f
      clear h
      go_wp2
      exact ⟨rfl, rfl, _, rfl, Fr.refl _ _, rfl⟩
    · intro vals wq f h
      simp only [fillA, fillT, List.setIfInBounds_toArray, List.set_cons_succ, List.set_cons_zero, Option.getD_some, Nat.zero_add, Nat.reduceAdd]
      have h1 : vals 1 = Value.agg #[.int .i64 2, .int .i64 2, .slice (some ⟨w.heap.size, 0, none⟩) 4 4] := h 1 (by kernel_rfl)
      rw [h1]
      obtain ⟨⟨k0, k1, k2⟩, ⟨l0, l1, l2⟩, HNp, HNq⟩ := HQ.out wq f
      clear h
      go_wp2_with fail
      refine (HLev.out wq HNp.out).mono ?_
      rintro e w6 ⟨a6, cp, b6, rfl, n6, f6⟩
      have HN6 := hid n6
      clear n6
      go_wp2
      exact ⟨rfl, rfl, _, rfl, f6, _, _, _, rfl, HN6.out⟩
    · intro vals wq f h
      simp only [fillA, fillT, List.setIfInBounds_toArray, List.set_cons_succ, List.set_cons_zero, Option.getD_some, Nat.zero_add, Nat.reduceAdd]
      have h0 : vals 0 = Value.agg #[.int .i64 2, .int .i64 2, .slice a1 4 cap1] := h 0 (by kernel_rfl)
      rw [h0]
      obtain ⟨a2, k2, b2, h2, n2⟩ : PlaneN wq (vals 2) 2 2 4 QL := h 2 (by kernel_rfl)
      rw [h2]
      obtain ⟨⟨k0, k1, k2⟩, ⟨l0, l1, l2⟩, HNp, HNq⟩ := HQ.out wq f
      clear h
      go_wp2_with fail
      refine (HS1.out wq _ _ _ HNq.out n2).mono ?_
      rintro e w6 ⟨rfl, f6⟩
      go_wp2
      exact ⟨rfl, rfl, _, rfl, f6, rfl⟩
    · intro vals wq f h
      simp only [fillA, fillT, List.setIfInBounds_toArray, List.set_cons_succ, List.set_cons_zero, Option.getD_some, Nat.zero_add, Nat.reduceAdd]
      have h3 : vals 3 = Value.bool true := h 3 (by kernel_rfl)
      rw [h3]
      obtain ⟨⟨k0, k1, k2⟩, ⟨l0, l1, l2⟩, HNp, HNq⟩ := HQ.out wq f
      clear h
      go_wp2
      exact ⟨rfl, rfl, _, rfl, Fr.refl _ _, rfl⟩
    · intro vals wq f h
      simp only [fillA, fillT, List.setIfInBounds_toArray, List.set_cons_succ, List.set_cons_zero, Option.getD_some, Nat.zero_add, Nat.reduceAdd]
      have h4 : vals 4 = Value.bool true := h 4 (by kernel_rfl)
      rw [h4]
      obtain ⟨⟨k0, k1, k2⟩, ⟨l0, l1, l2⟩, HNp, HNq⟩ := HQ.out wq f
      clear h
      go_wp2
      exact ⟨rfl, rfl, _, rfl, Fr.refl _ _, rfl⟩
    · intro vals wq f h
      simp only [fillA, fillT, List.setIfInBounds_toArray, List.set_cons_succ, List.set_cons_zero, Option.getD_some, Nat.zero_add, Nat.reduceAdd]
      have h5 : vals 5 = Value.agg #[.int .i64 2, .int .i64 2, .slice a1 4 cap1] := h 5 (by kernel_rfl)
      rw [h5]
      have h4 : vals 4 = Value.bool true := h 4 (by kernel_rfl)
      rw [h4]
      obtain ⟨⟨k0, k1, k2⟩, ⟨l0, l1, l2⟩, HNp, HNq⟩ := HQ.out wq f
      clear h
      go_wp2_with fail
      refine (HInv.out wq HNq.out).mono ?_
      rintro e w6 ⟨a6, cp, b6, rfl, n6, f6⟩
      have HN6 := hid n6
      clear n6
      go_wp2
      exact ⟨rfl, rfl, _, rfl, f6, _, _, _, rfl, HN6.out⟩
    · intro vals wq f h
      simp only [fillA, fillT, List.setIfInBounds_toArray, List.set_cons_succ, List.set_cons_zero, Option.getD_some, Nat.zero_add, Nat.reduceAdd]
      have h4 : vals 4 = Value.bool true := h 4 (by kernel_rfl)
      rw [h4]
      obtain ⟨⟨k0, k1, k2⟩, ⟨l0, l1, l2⟩, HNp, HNq⟩ := HQ.out wq f
      clear h
      go_wp2
      exact ⟨rfl, rfl, _, rfl, Fr.refl _ _, rfl⟩
    · intro vals wq f h
      simp only [fillA, fillT, List.setIfInBounds_toArray, List.set_cons_succ, List.set_cons_zero, Option.getD_some, Nat.zero_add, Nat.reduceAdd]
      obtain ⟨a6, k6, b6, h6, n6⟩ : PlaneN wq (vals 6) 2 2 4 QI := h 6 (by kernel_rfl)
      rw [h6]
      have h7 : vals 7 = Value.agg #[.int .i64 2, .int .i64 2, .slice (some ⟨w.heap.size, 0, none⟩) 4 4] := h 7 (by kernel_rfl)
      rw [h7]
      have h4 : vals 4 = Value.bool true := h 4 (by kernel_rfl)
      rw [h4]
      obtain ⟨⟨k0, k1, k2⟩, ⟨l0, l1, l2⟩, HNp, HNq⟩ := HQ.out wq f
      clear h
      go_wp2_with fail
      refine (HS2.out wq _ _ _ n6 HNp.out).mono ?_
      rintro e w6 ⟨rfl, f6⟩
      go_wp2
      exact ⟨rfl, rfl, _, rfl, f6, rfl⟩
    · intro vals wq f h
      simp only [fillA, fillT, List.setIfInBounds_toArray, List.set_cons_succ, List.set_cons_zero, Option.getD_some, Nat.zero_add, Nat.reduceAdd]
      have h4 : vals 4 = Value.bool true := h 4 (by kernel_rfl)
      rw [h4]
      have h8 : vals 8 = Value.bool true := h 8 (by kernel_rfl)
      rw [h8]
      obtain ⟨⟨k0, k1, k2⟩, ⟨l0, l1, l2⟩, HNp, HNq⟩ := HQ.out wq f
      clear h
      go_wp2
      exact ⟨rfl, rfl, _, rfl, Fr.refl _ _, rfl⟩
    · intro vals wq f h
      simp only [fillA, fillT, List.setIfInBounds_toArray, List.set_cons_succ, List.set_cons_zero, Option.getD_some, Nat.zero_add, Nat.reduceAdd]
      have h9 : vals 9 = Value.bool true := h 9 (by kernel_rfl)
      rw [h9]
      obtain ⟨⟨k0, k1, k2⟩, ⟨l0, l1, l2⟩, HNp, HNq⟩ := HQ.out wq f
      clear h
      go_wp2
      exact ⟨rfl, rfl, _, rfl, Fr.refl _ _, rfl⟩
    · intro vals wq f h
      simp only [fillA, fillT, List.setIfInBounds_toArray, List.set_cons_succ, List.set_cons_zero, Option.getD_some, Nat.zero_add, Nat.reduceAdd]
      have h10 : vals 10 = Value.bool true := h 10 (by kernel_rfl)
      rw [h10]
      obtain ⟨⟨k0, k1, k2⟩, ⟨l0, l1, l2⟩, HNp, HNq⟩ := HQ.out wq f
      clear h
      go_wp2
      exact ⟨rfl, rfl, _, rfl, Fr.refl _ _, rfl⟩
    · intro vals wq f h
      simp only [fillA, fillT, List.setIfInBounds_toArray, List.set_cons_succ, List.set_cons_zero, Option.getD_some, Nat.zero_add, Nat.reduceAdd]
      have h11 : vals 11 = Value.pointer (some ⟨bq, 2, none⟩) := h 11 (by kernel_rfl)
      rw [h11]
      have h10 : vals 10 = Value.bool true := h 10 (by kernel_rfl)
      rw [h10]
      obtain ⟨⟨k0, k1, k2⟩, ⟨l0, l1, l2⟩, HNp, HNq⟩ := HQ.out wq f
      clear h
      go_wp2
      exact ⟨rfl, rfl, _, rfl, Fr.refl _ _, rfl⟩
    · intro vals wq f h
      simp only [fillA, fillT, List.setIfInBounds_toArray, List.set_cons_succ, List.set_cons_zero, Option.getD_some, Nat.zero_add, Nat.reduceAdd]
      have h12 : vals 12 = Value.slice a1 4 cap1 := h 12 (by kernel_rfl)
      rw [h12]
      have h10 : vals 10 = Value.bool true := h 10 (by kernel_rfl)
      rw [h10]
      obtain ⟨⟨k0, k1, k2⟩, ⟨l0, l1, l2⟩, HNp, HNq⟩ := HQ.out wq f
      clear h
      go_wp2
      exact ⟨rfl, rfl, _, rfl, Fr.refl _ _, rfl⟩
    · intro vals wq f h
      simp only [fillA, fillT, List.setIfInBounds_toArray, List.set_cons_succ, List.set_cons_zero, Option.getD_some, Nat.zero_add, Nat.reduceAdd]
      have h13 : vals 13 = Value.int .i64 4 := h 13 (by kernel_rfl)
      rw [h13]
      have h10 : vals 10 = Value.bool true := h 10 (by kernel_rfl)
      rw [h10]
      obtain ⟨⟨k0, k1, k2⟩, ⟨l0, l1, l2⟩, HNp, HNq⟩ := HQ.out wq f
      clear h
      go_wp2
      exact ⟨rfl, rfl, _, rfl, Fr.refl _ _, rfl⟩
    · intro vals wq f h
      simp only [fillA, fillT, List.setIfInBounds_toArray, List.set_cons_succ, List.set_cons_zero, Option.getD_some, Nat.zero_add, Nat.reduceAdd]
      have h10 : vals 10 = Value.bool true := h 10 (by kernel_rfl)
      rw [h10]
      have h14 : vals 14 = Value.bool true := h 14 (by kernel_rfl)
      rw [h14]
      obtain ⟨⟨k0, k1, k2⟩, ⟨l0, l1, l2⟩, HNp, HNq⟩ := HQ.out wq f
      clear h
      go_wp2
      exact ⟨rfl, rfl, _, rfl, Fr.refl _ _, rfl⟩
    · intro vals wq f h
      simp only [fillA, fillT, List.setIfInBounds_toArray, List.set_cons_succ, List.set_cons_zero, Option.getD_some, Nat.zero_add, Nat.reduceAdd]
      have h15 : vals 15 = Value.bool true := h 15 (by kernel_rfl)
      rw [h15]
      obtain ⟨⟨k0, k1, k2⟩, ⟨l0, l1, l2⟩, HNp, HNq⟩ := HQ.out wq f
      clear h
      go_wp2
      exact ⟨rfl, rfl, _, rfl, Fr.refl _ _, rfl⟩
    · intro vals wq f h
      simp only [fillA, fillT, List.setIfInBounds_toArray, List.set_cons_succ, List.set_cons_zero, Option.getD_some, Nat.zero_add, Nat.reduceAdd]
      have h16 : vals 16 = Value.bool true := h 16 (by kernel_rfl)
      rw [h16]
      obtain ⟨⟨k0, k1, k2⟩, ⟨l0, l1, l2⟩, HNp, HNq⟩ := HQ.out wq f
      clear h
      go_wp2
      exact ⟨rfl, rfl, _, rfl, Fr.refl _ _, rfl⟩
    · intro vals wq f h
      simp only [fillA, fillT, List.setIfInBounds_toArray, List.set_cons_succ, List.set_cons_zero, Option.getD_some, Nat.zero_add, Nat.reduceAdd]
      have h17 : vals 17 = Value.agg #[.int .i64 2, .int .i64 2, .slice (some ⟨w.heap.size, 0, none⟩) 4 4] := h 17 (by kernel_rfl)
      rw [h17]
      have h16 : vals 16 = Value.bool true := h 16 (by kernel_rfl)
      rw [h16]
      obtain ⟨⟨k0, k1, k2⟩, ⟨l0, l1, l2⟩, HNp, HNq⟩ := HQ.out wq f
      clear h
      go_wp2_with fail
      refine (HF1.out wq).mono ?_
      rintro e w6 ⟨rfl, f6⟩
      go_wp2
      exact ⟨rfl, rfl, _, rfl, f6, rfl⟩
    · intro vals wq f h
      simp only [fillA, fillT, List.setIfInBounds_toArray, List.set_cons_succ, List.set_cons_zero, Option.getD_some, Nat.zero_add, Nat.reduceAdd]
      have h16 : vals 16 = Value.bool true := h 16 (by kernel_rfl)
      rw [h16]
      have h18 : vals 18 = Value.bool true := h 18 (by kernel_rfl)
      rw [h18]
      obtain ⟨⟨k0, k1, k2⟩, ⟨l0, l1, l2⟩, HNp, HNq⟩ := HQ.out wq f
      clear h
      go_wp2
      exact ⟨rfl, rfl, _, rfl, Fr.refl _ _, rfl⟩
    · intro vals wq f h
      simp only [fillA, fillT, List.setIfInBounds_toArray, List.set_cons_succ, List.set_cons_zero, Option.getD_some, Nat.zero_add, Nat.reduceAdd]
      have h19 : vals 19 = Value.bool true := h 19 (by kernel_rfl)
      rw [h19]
      obtain ⟨⟨k0, k1, k2⟩, ⟨l0, l1, l2⟩, HNp, HNq⟩ := HQ.out wq f
      clear h
      go_wp2
      exact ⟨rfl, rfl, _, rfl, Fr.refl _ _, rfl⟩
    · intro vals wq f h
      simp only [fillA, fillT, List.setIfInBounds_toArray, List.set_cons_succ, List.set_cons_zero, Option.getD_some, Nat.zero_add, Nat.reduceAdd]
      have h20 : vals 20 = Value.bool true := h 20 (by kernel_rfl)
      rw [h20]
      obtain ⟨⟨k0, k1, k2⟩, ⟨l0, l1, l2⟩, HNp, HNq⟩ := HQ.out wq f
      clear h
      go_wp2
      exact ⟨rfl, rfl, _, rfl, Fr.refl _ _, rfl⟩
    · intro vals wq f h
      simp only [fillA, fillT, List.setIfInBounds_toArray, List.set_cons_succ, List.set_cons_zero, Option.getD_some, Nat.zero_add, Nat.reduceAdd]
      have h21 : vals 21 = Value.agg #[.int .i64 2, .int .i64 2, .slice (some ⟨w.heap.size, 0, none⟩) 4 4] := h 21 (by kernel_rfl)
      rw [h21]
      have h20 : vals 20 = Value.bool true := h 20 (by kernel_rfl)
      rw [h20]
      obtain ⟨⟨k0, k1, k2⟩, ⟨l0, l1, l2⟩, HNp, HNq⟩ := HQ.out wq f
      clear h
      go_wp2_with fail
      refine (HF2.out wq).mono ?_
      rintro e w6 ⟨rfl, f6⟩
      go_wp2
      exact ⟨rfl, rfl, _, rfl, f6, rfl⟩
    · intro vals wq f h
      simp only [fillA, fillT, List.setIfInBounds_toArray, List.set_cons_succ, List.set_cons_zero, Option.getD_some, Nat.zero_add, Nat.reduceAdd]
      have h22 : vals 22 = Value.bool false := h 22 (by kernel_rfl)
      rw [h22]
      have h20 : vals 20 = Value.bool true := h 20 (by kernel_rfl)
      rw [h20]
      obtain ⟨⟨k0, k1, k2⟩, ⟨l0, l1, l2⟩, HNp, HNq⟩ := HQ.out wq f
      clear h
      go_wp2
      exact ⟨rfl, rfl, _, rfl, Fr.refl _ _, rfl⟩
    · intro vals wq f h
      simp only [fillA, fillT, List.setIfInBounds_toArray, List.set_cons_succ, List.set_cons_zero, Option.getD_some, Nat.zero_add, Nat.reduceAdd]
      have h20 : vals 20 = Value.bool true := h 20 (by kernel_rfl)
      rw [h20]
      have h23 : vals 23 = Value.bool true := h 23 (by kernel_rfl)
      rw [h23]
      obtain ⟨⟨k0, k1, k2⟩, ⟨l0, l1, l2⟩, HNp, HNq⟩ := HQ.out wq f
      clear h
      go_wp2
      exact ⟨rfl, rfl, _, rfl, Fr.refl _ _, rfl⟩
    · intro vals wq f h
      simp only [fillA, fillT, List.setIfInBounds_toArray, List.set_cons_succ, List.set_cons_zero, Option.getD_some, Nat.zero_add, Nat.reduceAdd]
      have h24 : vals 24 = Value.bool true := h 24 (by kernel_rfl)
      rw [h24]
      obtain ⟨⟨k0, k1, k2⟩, ⟨l0, l1, l2⟩, HNp, HNq⟩ := HQ.out wq f
      clear h
      go_wp2
      exact ⟨rfl, rfl, _, rfl, Fr.refl _ _, rfl⟩
    · intro vals wq f h
      simp only [fillA, fillT, List.setIfInBounds_toArray, List.set_cons_succ, List.set_cons_zero, Option.getD_some, Nat.zero_add, Nat.reduceAdd]
      have h25 : vals 25 = Value.bool true := h 25 (by kernel_rfl)
      rw [h25]
      obtain ⟨⟨k0, k1, k2⟩, ⟨l0, l1, l2⟩, HNp, HNq⟩ := HQ.out wq f
      clear h
      go_wp2_with fail
      refine (HPd.out wq).mono ?_
      rintro e w6 ⟨rfl, rfl⟩
      go_wp2
      exact ⟨rfl, rfl, _, rfl, Fr.refl _ _, rfl⟩
    · intro vals wq f h
      simp only [fillA, fillT, List.setIfInBounds_toArray, List.set_cons_succ, List.set_cons_zero, Option.getD_some, Nat.zero_add, Nat.reduceAdd]
      have h26 : vals 26 = Value.int .i64 8 := h 26 (by kernel_rfl)
      rw [h26]
      have h25 : vals 25 = Value.bool true := h 25 (by kernel_rfl)
      rw [h25]
      obtain ⟨⟨k0, k1, k2⟩, ⟨l0, l1, l2⟩, HNp, HNq⟩ := HQ.out wq f
      clear h
      go_wp2
      exact ⟨rfl, rfl, _, rfl, Fr.refl _ _, rfl⟩
    · intro vals wq f h
      simp only [fillA, fillT, List.setIfInBounds_toArray, List.set_cons_succ, List.set_cons_zero, Option.getD_some, Nat.zero_add, Nat.reduceAdd]
      have h25 : vals 25 = Value.bool true := h 25 (by kernel_rfl)
      rw [h25]
      have h27 : vals 27 = Value.bool true := h 27 (by kernel_rfl)
      rw [h27]
      obtain ⟨⟨k0, k1, k2⟩, ⟨l0, l1, l2⟩, HNp, HNq⟩ := HQ.out wq f
      clear h
      go_wp2
      exact ⟨rfl, rfl, _, rfl, Fr.refl _ _, rfl⟩
  case tail =>
    intro vals wq f h
    simp only [List.take_succ_cons, List.take_zero, fillA, fillT, List.setIfInBounds_toArray, List.set_cons_succ, List.set_cons_zero, List.drop_succ_cons, List.drop_zero, Nat.zero_add, Nat.reduceAdd]
    have h28 : vals 28 = Value.bool true := h 28 (by omega)
    rw [h28]
    clear h h28
    gi_wp2
    go_wp2
    go_ret
    exact ⟨rfl, F3.trans' ((Fr.refl _ W3).drew.trans' f)⟩
end Go.Proofs.Ytonalomagfekaaa
