/-
  Law 7: what must be answered, ahead of everything else (first).
-/
import Derived.Test.YthhhecdnnbgddaaPlaneK
import Derived.Test.YthhhecdnnbgddaaWeaveP
namespace Go.Proofs.Ythhhecdnnbgddaa
open Go.RowKit

def V0 : Nat → Int := fun j => [1, 2, 3, 4].getD j 0
def V3 : Nat → Int := fun j => [1, 3, 2, 4].getD j 0

set_option maxRecDepth 100000 in
set_option maxHeartbeats 4000000 in
theorem first7_any (w : World) : Calls Try.prog 6 #[] w fun e w' => e = .returned (.bool true) ∧ Fr (fun _ => False) w w' := by
  have HPad : Hid (∀ w1, Nums w1 (some ⟨w.heap.size, 0, none⟩) 4 4 V0 w.heap.size → Calls Try.prog 23 #[.agg #[.int .i64 2, .int .i64 2, .slice (some ⟨w.heap.size, 0, none⟩) 4 4], .int .i64 3, .int .i64 2] w1 fun e w' => Made w1 w' e 3 2 6 (sizedV 2 2 V0 3)) := fun w1 h => ppad_go 2 2 3 2 _ 4 V0 _ w1 (by omega) (by omega) (by omega) (by omega) (by omega) (by omega) (by omega) (by omega) (by omega) (by omega) h
  obtain ⟨W, hW⟩ : ∃ W, W = (w.alloc (.cells #[.int .i64 1, .int .i64 2, .int .i64 3, .int .i64 4] 3)).alloc (.cells #[.int .i64 2, .int .i64 2, .slice (some ⟨w.heap.size, 0, none⟩) 4 4] 24) := ⟨_, rfl⟩
  have F0 : Fr (fun _ => False) w W := by rw [hW]; exact ((Fr.refl _ w).alloc _).alloc _
  have O0 : Blk W w.heap.size #[.int .i64 1, .int .i64 2, .int .i64 3, .int .i64 4] 3 := by rw [hW]; exact (Blk.new _ _ _).alloc _
  have O1 : Blk W (w.heap.size + 1) #[.int .i64 2, .int .i64 2, .slice (some ⟨w.heap.size, 0, none⟩) 4 4] 24 := by
    rw [hW]
    have := Blk.new (w.alloc (.cells #[.int .i64 1, .int .i64 2, .int .i64 3, .int .i64 4] 3)) #[.int .i64 2, .int .i64 2, .slice (some ⟨w.heap.size, 0, none⟩) 4 4] 24
    simpa using this
  have HW := hid hW
  clear hW
  go_enter Try.func6, Try.ntmps6
  go_wp2_with fail
  rw [← HW.out]
  refine (HPad.out W ((Row.of_blk (l := [1, 2, 3, 4]) O0).nums (by unfold maxLen; decide))).mono ?_
  rintro e w2 ⟨a1, cap1, b1, rfl, hn1, hb1, f2⟩
  obtain ⟨off, rfl, hc1⟩ := hn1.at' (by omega)
  have Q0 := O0.fr f2 (fun h => h)
  have Q1 := O1.fr f2 (fun h => h)
  have F2 := F0.trans' f2
  clear O0 O1 F0 f2 HPad HW
  obtain ⟨W3, hW3⟩ : ∃ W3, W3 = w2.alloc (.cells #[.int .i64 3, .int .i64 2, .slice (some ⟨b1, off, none⟩) 6 cap1] 24) := ⟨_, rfl⟩
  obtain ⟨bq, hbq⟩ : ∃ bq, bq = w2.heap.size := ⟨_, rfl⟩
  have F3 : Fr (fun _ => False) w W3 := by rw [hW3]; exact F2.alloc _
  have R0 : Blk W3 w.heap.size #[.int .i64 1, .int .i64 2, .int .i64 3, .int .i64 4] 3 := by rw [hW3]; exact Q0.alloc _
  have R1 : Blk W3 (w.heap.size + 1) #[.int .i64 2, .int .i64 2, .slice (some ⟨w.heap.size, 0, none⟩) 4 4] 24 := by rw [hW3]; exact Q1.alloc _
  have R3 : Blk W3 bq #[.int .i64 3, .int .i64 2, .slice (some ⟨b1, off, none⟩) 6 cap1] 24 := by rw [hW3, hbq]; exact Blk.new _ _ _
  have n3 : Nums W3 (some ⟨b1, off, none⟩) 6 cap1 (sizedV 2 2 V0 3) b1 := by rw [hW3]; exact hn1.quiet ((Fr.refl _ w2).alloc _)
  have HW3 := hid hW3
  have HBQ := hid hbq
  clear hW3 Q0 Q1 F2 hbq
  have HQ : Hid (∀ wq, Fr (fun _ => False) W3.drew wq → (wq.cell? ⟨w.heap.size + 1, 0, none⟩ = some (.int .i64 2) ∧ wq.cell? ⟨w.heap.size + 1, 1, none⟩ = some (.int .i64 2) ∧ wq.cell? ⟨w.heap.size + 1, 2, none⟩ = some (.slice (some ⟨w.heap.size, 0, none⟩) 4 4)) ∧ (wq.cell? ⟨bq, 0, none⟩ = some (.int .i64 3) ∧ wq.cell? ⟨bq, 1, none⟩ = some (.int .i64 2) ∧ wq.cell? ⟨bq, 2, none⟩ = some (.slice (some ⟨b1, off, none⟩) 6 cap1)) ∧ wq.cell? ⟨b1, off + 5, none⟩ = some (.int .i64 4) ∧ Hid (Nums wq (some ⟨w.heap.size, 0, none⟩) 4 4 V0 w.heap.size) ∧ Hid (Nums wq (some ⟨b1, off, none⟩) 6 cap1 (sizedV 2 2 V0 3) b1)) := by
    intro wq f
    have f' := (Fr.refl _ W3).drew.trans' f
    have S0 := R0.fr f' (fun h => h)
    have S1 := R1.fr f' (fun h => h)
    have S3 := R3.fr f' (fun h => h)
    have n5 := n3.quiet f'
    obtain ⟨off', e', hc5⟩ := n5.at' (by omega)
    obtain rfl : off = off' := by cases e'; rfl
    refine ⟨⟨by rw [S1.cell]; rfl, by rw [S1.cell]; rfl, by rw [S1.cell]; rfl⟩, ⟨by rw [S3.cell]; rfl, by rw [S3.cell]; rfl, by rw [S3.cell]; rfl⟩, by rw [hc5 5 (by omega)]; rfl, (Row.of_blk (l := [1, 2, 3, 4]) S0).nums (by unfold maxLen; decide), n5⟩
  have HRight : Hid (∀ w1, Calls Try.prog 21 #[.agg #[.int .i64 2, .int .i64 2, .slice (some ⟨w.heap.size, 0, none⟩) 4 4]] w1 fun e w' => e = .returned (.bool true) ∧ Fr (fun _ => False) w1 w') := fun w1 => pright_any 2 2 _ 4 4 w1
  have HBad : Hid (∀ w1, Calls Try.prog 21 #[.agg #[.int .i64 0, .int .i64 0, .slice none 0 0]] w1 fun e w' => e = .returned (.bool false) ∧ Fr (fun _ => False) w1 w') := fun w1 => pright_any 0 0 _ 0 0 w1
  have HAt : Hid (∀ w1, Nums w1 (some ⟨w.heap.size, 0, none⟩) 4 4 V0 w.heap.size → Calls Try.prog 25 #[.agg #[.int .i64 2, .int .i64 2, .slice (some ⟨w.heap.size, 0, none⟩) 4 4], .int .i64 5, .int .i64 (-1)] w1 fun e w' => e = .returned (.int .i64 2) ∧ Fr (fun _ => False) w1 w') := fun w1 h => pat_go 2 2 _ 4 V0 _ 5 (-1) w1 (by omega) (by omega) (by omega) (by omega) h
  have HCrop : Hid (∀ w1, Nums w1 (some ⟨b1, off, none⟩) 6 cap1 (sizedV 2 2 V0 3) b1 → Calls Try.prog 22 #[.agg #[.int .i64 3, .int .i64 2, .slice (some ⟨b1, off, none⟩) 6 cap1], .int .i64 2, .int .i64 2] w1 fun e w' => Made w1 w' e 2 2 4 (sizedV 3 2 (sizedV 2 2 V0 3) 2)) := fun w1 h => pcrop_go 3 2 2 2 _ cap1 _ _ w1 (by omega) (by omega) (by omega) (by omega) (by omega) (by omega) (by omega) (by omega) (by omega) (by omega) h
  have HSame : Hid (∀ w1 a cap b, Nums w1 a 4 cap (sizedV 3 2 (sizedV 2 2 V0 3) 2) b → Nums w1 (some ⟨w.heap.size, 0, none⟩) 4 4 V0 w.heap.size → Calls Try.prog 14 #[.agg #[.int .i64 2, .int .i64 2, .slice a 4 cap], .agg #[.int .i64 2, .int .i64 2, .slice (some ⟨w.heap.size, 0, none⟩) 4 4]] w1 fun e w' => e = .returned (.bool true) ∧ Fr (fun _ => False) w1 w') := fun w1 a cap b h h' => psame_any 2 2 a 4 cap _ b 2 2 _ 4 4 V0 _ w1 h h'
  have HTurn : Hid (∀ w1, Nums w1 (some ⟨w.heap.size, 0, none⟩) 4 4 V0 w.heap.size → Calls Try.prog 24 #[.agg #[.int .i64 2, .int .i64 2, .slice (some ⟨w.heap.size, 0, none⟩) 4 4]] w1 fun e w' => Made w1 w' e 2 2 4 (turnV 2 2 V0)) := fun w1 h => pturn_go 2 2 _ 4 V0 _ w1 (by omega) (by omega) (by omega) (by omega) h
  have HRef : Hid (∀ w1 a cap b a' cap' b', Nums w1 a 4 cap (turnV 2 2 V0) b → Nums w1 a' 4 cap' V3 b' → Calls Try.prog 8 #[.agg #[.int .i64 2, .int .i64 2, .slice a 4 cap], .agg #[.int .i64 2, .int .i64 2, .slice a' 4 cap']] w1 fun e w' => e = .returned (.bool true) ∧ Fr (fun _ => False) w1 w') := fun w1 a cap b a' cap' b' h h' => rsame_any 2 2 a 4 cap _ b 2 2 a' 4 cap' V3 b' w1 h h'
  clear R0 R1 R3 n3 hn1 hc1
  go_wp2
  rw [← HW3.out, ← HBQ.out]
  refine weaveS 39 [.eq (Value.agg #[.int .i64 2, .int .i64 2, .slice (some ⟨w.heap.size, 0, none⟩) 4 4]), .eq (Value.bool true), .eq (Value.bool true), .eq (Value.agg #[.int .i64 2, .int .i64 2, .slice (some ⟨w.heap.size, 0, none⟩) 4 4]), .eq (Value.int .i64 2), .eq (Value.bool true), .eq (Value.bool true), .eq (Value.bool true), .eq (Value.pointer (some ⟨bq, 2, none⟩)), .eq (Value.slice (some ⟨b1, off, none⟩) 6 cap1), .eq (Value.int .i64 6), .eq (Value.bool true), .eq (Value.bool true), .eq (Value.bool true), .eq (Value.pointer (some ⟨bq, 2, none⟩)), .eq (Value.slice (some ⟨b1, off, none⟩) 6 cap1), .eq (Value.pointer (some ⟨b1, off + 5, none⟩)), .eq (Value.int .i64 4), .eq (Value.bool true), .eq (Value.bool true), .eq (Value.bool true), .eq (Value.agg #[.int .i64 3, .int .i64 2, .slice (some ⟨b1, off, none⟩) 6 cap1]), .plane (2) (2) (4) (sizedV 3 2 (sizedV 2 2 V0 3) 2), .eq (Value.agg #[.int .i64 2, .int .i64 2, .slice (some ⟨w.heap.size, 0, none⟩) 4 4]), .eq (Value.bool true), .eq (Value.bool true), .eq (Value.bool true), .eq (Value.agg #[.int .i64 2, .int .i64 2, .slice (some ⟨w.heap.size, 0, none⟩) 4 4]), .plane (2) (2) (4) (turnV 2 2 V0), .row 4 V3, .plane (2) (2) (4) (V3), .eq (Value.bool true), .eq (Value.bool true), .eq (Value.bool true), .eq (Value.agg #[.int .i64 0, .int .i64 0, .slice none 0 0]), .eq (Value.bool false), .eq (Value.bool true), .eq (Value.bool true), .eq (Value.bool true)] (by kernel_rfl) (by kernel_rfl) ?obls ?tail
  case obls =>
    simp only [List.take_succ_cons, List.take_zero]
    refine ⟨?_, ?_, ?_, ?_, ?_, ?_, ?_, ?_, ?_, ?_, ?_, ?_, ?_, ?_, ?_, ?_, ?_, ?_, ?_, ?_, ?_, ?_, ?_, ?_, ?_, ?_, ?_, ?_, ?_, ?_, ?_, ?_, ?_, ?_, ?_, ?_, ?_, ?_, ?_, trivial⟩
    · intro vals wq f h
      simp only [fillA, fillT, List.setIfInBounds_toArray, List.set_cons_succ, List.set_cons_zero, Option.getD_some, Nat.zero_add, Nat.reduceAdd]
      obtain ⟨⟨k0, k1, k2⟩, ⟨l0, l1, l2⟩, m5, HNp, HNq⟩ := HQ.out wq f
      clear h
      go_wp2
      exact ⟨rfl, rfl, _, rfl, Fr.refl _ _, rfl⟩
    · intro vals wq f h
      simp only [fillA, fillT, List.setIfInBounds_toArray, List.set_cons_succ, List.set_cons_zero, Option.getD_some, Nat.zero_add, Nat.reduceAdd]
      have h0 : vals 0 = Value.agg #[.int .i64 2, .int .i64 2, .slice (some ⟨w.heap.size, 0, none⟩) 4 4] := h 0 (by kernel_rfl)
      rw [h0]
      obtain ⟨⟨k0, k1, k2⟩, ⟨l0, l1, l2⟩, m5, HNp, HNq⟩ := HQ.out wq f
      clear h
      go_wp2_with fail
      refine (HRight.out wq).mono ?_
      rintro e w6 ⟨rfl, f6⟩
      go_wp2
      exact ⟨rfl, rfl, _, rfl, f6, rfl⟩
    · intro vals wq f h
      simp only [fillA, fillT, List.setIfInBounds_toArray, List.set_cons_succ, List.set_cons_zero, Option.getD_some, Nat.zero_add, Nat.reduceAdd]
      have h1 : vals 1 = Value.bool true := h 1 (by kernel_rfl)
      rw [h1]
      obtain ⟨⟨k0, k1, k2⟩, ⟨l0, l1, l2⟩, m5, HNp, HNq⟩ := HQ.out wq f
      clear h
      go_wp2
      exact ⟨rfl, rfl, _, rfl, Fr.refl _ _, rfl⟩
    · intro vals wq f h
      simp only [fillA, fillT, List.setIfInBounds_toArray, List.set_cons_succ, List.set_cons_zero, Option.getD_some, Nat.zero_add, Nat.reduceAdd]
      have h2 : vals 2 = Value.bool true := h 2 (by kernel_rfl)
      rw [h2]
      obtain ⟨⟨k0, k1, k2⟩, ⟨l0, l1, l2⟩, m5, HNp, HNq⟩ := HQ.out wq f
      clear h
      go_wp2
      exact ⟨rfl, rfl, _, rfl, Fr.refl _ _, rfl⟩
    · intro vals wq f h
      simp only [fillA, fillT, List.setIfInBounds_toArray, List.set_cons_succ, List.set_cons_zero, Option.getD_some, Nat.zero_add, Nat.reduceAdd]
      have h3 : vals 3 = Value.agg #[.int .i64 2, .int .i64 2, .slice (some ⟨w.heap.size, 0, none⟩) 4 4] := h 3 (by kernel_rfl)
      rw [h3]
      have h2 : vals 2 = Value.bool true := h 2 (by kernel_rfl)
      rw [h2]
      obtain ⟨⟨k0, k1, k2⟩, ⟨l0, l1, l2⟩, m5, HNp, HNq⟩ := HQ.out wq f
      clear h
      go_wp2_with fail
      refine (HAt.out wq HNp.out).mono ?_
      rintro e w6 ⟨rfl, f6⟩
      go_wp2
      exact ⟨rfl, rfl, _, rfl, f6, rfl⟩
    · intro vals wq f h
      simp only [fillA, fillT, List.setIfInBounds_toArray, List.set_cons_succ, List.set_cons_zero, Option.getD_some, Nat.zero_add, Nat.reduceAdd]
      have h4 : vals 4 = Value.int .i64 2 := h 4 (by kernel_rfl)
      rw [h4]
      have h2 : vals 2 = Value.bool true := h 2 (by kernel_rfl)
      rw [h2]
      obtain ⟨⟨k0, k1, k2⟩, ⟨l0, l1, l2⟩, m5, HNp, HNq⟩ := HQ.out wq f
      clear h
      go_wp2
      exact ⟨rfl, rfl, _, rfl, Fr.refl _ _, rfl⟩
    · intro vals wq f h
      simp only [fillA, fillT, List.setIfInBounds_toArray, List.set_cons_succ, List.set_cons_zero, Option.getD_some, Nat.zero_add, Nat.reduceAdd]
      have h2 : vals 2 = Value.bool true := h 2 (by kernel_rfl)
      rw [h2]
      have h5 : vals 5 = Value.bool true := h 5 (by kernel_rfl)
      rw [h5]
      obtain ⟨⟨k0, k1, k2⟩, ⟨l0, l1, l2⟩, m5, HNp, HNq⟩ := HQ.out wq f
      clear h
      go_wp2
      exact ⟨rfl, rfl, _, rfl, Fr.refl _ _, rfl⟩
    · intro vals wq f h
      simp only [fillA, fillT, List.setIfInBounds_toArray, List.set_cons_succ, List.set_cons_zero, Option.getD_some, Nat.zero_add, Nat.reduceAdd]
      have h6 : vals 6 = Value.bool true := h 6 (by kernel_rfl)
      rw [h6]
      obtain ⟨⟨k0, k1, k2⟩, ⟨l0, l1, l2⟩, m5, HNp, HNq⟩ := HQ.out wq f
      clear h
      go_wp2
      exact ⟨rfl, rfl, _, rfl, Fr.refl _ _, rfl⟩
    · intro vals wq f h
      simp only [fillA, fillT, List.setIfInBounds_toArray, List.set_cons_succ, List.set_cons_zero, Option.getD_some, Nat.zero_add, Nat.reduceAdd]
      have h7 : vals 7 = Value.bool true := h 7 (by kernel_rfl)
      rw [h7]
      obtain ⟨⟨k0, k1, k2⟩, ⟨l0, l1, l2⟩, m5, HNp, HNq⟩ := HQ.out wq f
      clear h
      go_wp2
      exact ⟨rfl, rfl, _, rfl, Fr.refl _ _, rfl⟩
    · intro vals wq f h
      simp only [fillA, fillT, List.setIfInBounds_toArray, List.set_cons_succ, List.set_cons_zero, Option.getD_some, Nat.zero_add, Nat.reduceAdd]
      have h8 : vals 8 = Value.pointer (some ⟨bq, 2, none⟩) := h 8 (by kernel_rfl)
      rw [h8]
      have h7 : vals 7 = Value.bool true := h 7 (by kernel_rfl)
      rw [h7]
      obtain ⟨⟨k0, k1, k2⟩, ⟨l0, l1, l2⟩, m5, HNp, HNq⟩ := HQ.out wq f
      clear h
      go_wp2
      exact ⟨rfl, rfl, _, rfl, Fr.refl _ _, rfl⟩
    · intro vals wq f h
      simp only [fillA, fillT, List.setIfInBounds_toArray, List.set_cons_succ, List.set_cons_zero, Option.getD_some, Nat.zero_add, Nat.reduceAdd]
      have h9 : vals 9 = Value.slice (some ⟨b1, off, none⟩) 6 cap1 := h 9 (by kernel_rfl)
      rw [h9]
      have h7 : vals 7 = Value.bool true := h 7 (by kernel_rfl)
      rw [h7]
      obtain ⟨⟨k0, k1, k2⟩, ⟨l0, l1, l2⟩, m5, HNp, HNq⟩ := HQ.out wq f
      clear h
      go_wp2
      exact ⟨rfl, rfl, _, rfl, Fr.refl _ _, rfl⟩
    · intro vals wq f h
      simp only [fillA, fillT, List.setIfInBounds_toArray, List.set_cons_succ, List.set_cons_zero, Option.getD_some, Nat.zero_add, Nat.reduceAdd]
      have h10 : vals 10 = Value.int .i64 6 := h 10 (by kernel_rfl)
      rw [h10]
      have h7 : vals 7 = Value.bool true := h 7 (by kernel_rfl)
      rw [h7]
      obtain ⟨⟨k0, k1, k2⟩, ⟨l0, l1, l2⟩, m5, HNp, HNq⟩ := HQ.out wq f
      clear h
      go_wp2
      exact ⟨rfl, rfl, _, rfl, Fr.refl _ _, rfl⟩
    · intro vals wq f h
      simp only [fillA, fillT, List.setIfInBounds_toArray, List.set_cons_succ, List.set_cons_zero, Option.getD_some, Nat.zero_add, Nat.reduceAdd]
      have h7 : vals 7 = Value.bool true := h 7 (by kernel_rfl)
      rw [h7]
      have h11 : vals 11 = Value.bool true := h 11 (by kernel_rfl)
      rw [h11]
      obtain ⟨⟨k0, k1, k2⟩, ⟨l0, l1, l2⟩, m5, HNp, HNq⟩ := HQ.out wq f
      clear h
      go_wp2
      exact ⟨rfl, rfl, _, rfl, Fr.refl _ _, rfl⟩
    · intro vals wq f h
      simp only [fillA, fillT, List.setIfInBounds_toArray, List.set_cons_succ, List.set_cons_zero, Option.getD_some, Nat.zero_add, Nat.reduceAdd]
      have h12 : vals 12 = Value.bool true := h 12 (by kernel_rfl)
      rw [h12]
      obtain ⟨⟨k0, k1, k2⟩, ⟨l0, l1, l2⟩, m5, HNp, HNq⟩ := HQ.out wq f
      clear h
      go_wp2
      exact ⟨rfl, rfl, _, rfl, Fr.refl _ _, rfl⟩
    · intro vals wq f h
      simp only [fillA, fillT, List.setIfInBounds_toArray, List.set_cons_succ, List.set_cons_zero, Option.getD_some, Nat.zero_add, Nat.reduceAdd]
      have h13 : vals 13 = Value.bool true := h 13 (by kernel_rfl)
      rw [h13]
      obtain ⟨⟨k0, k1, k2⟩, ⟨l0, l1, l2⟩, m5, HNp, HNq⟩ := HQ.out wq f
      clear h
      go_wp2
      exact ⟨rfl, rfl, _, rfl, Fr.refl _ _, rfl⟩
    · intro vals wq f h
      simp only [fillA, fillT, List.setIfInBounds_toArray, List.set_cons_succ, List.set_cons_zero, Option.getD_some, Nat.zero_add, Nat.reduceAdd]
      have h14 : vals 14 = Value.pointer (some ⟨bq, 2, none⟩) := h 14 (by kernel_rfl)
      rw [h14]
      have h13 : vals 13 = Value.bool true := h 13 (by kernel_rfl)
      rw [h13]
      obtain ⟨⟨k0, k1, k2⟩, ⟨l0, l1, l2⟩, m5, HNp, HNq⟩ := HQ.out wq f
      clear h
      go_wp2
      exact ⟨rfl, rfl, _, rfl, Fr.refl _ _, rfl⟩
    · intro vals wq f h
      simp only [fillA, fillT, List.setIfInBounds_toArray, List.set_cons_succ, List.set_cons_zero, Option.getD_some, Nat.zero_add, Nat.reduceAdd]
      have h15 : vals 15 = Value.slice (some ⟨b1, off, none⟩) 6 cap1 := h 15 (by kernel_rfl)
      rw [h15]
      have h13 : vals 13 = Value.bool true := h 13 (by kernel_rfl)
      rw [h13]
      obtain ⟨⟨k0, k1, k2⟩, ⟨l0, l1, l2⟩, m5, HNp, HNq⟩ := HQ.out wq f
      clear h
      go_wp2
      exact ⟨rfl, rfl, _, rfl, Fr.refl _ _, rfl⟩
    · intro vals wq f h
      simp only [fillA, fillT, List.setIfInBounds_toArray, List.set_cons_succ, List.set_cons_zero, Option.getD_some, Nat.zero_add, Nat.reduceAdd]
      have h16 : vals 16 = Value.pointer (some ⟨b1, off + 5, none⟩) := h 16 (by kernel_rfl)
      rw [h16]
      have h13 : vals 13 = Value.bool true := h 13 (by kernel_rfl)
      rw [h13]
      obtain ⟨⟨k0, k1, k2⟩, ⟨l0, l1, l2⟩, m5, HNp, HNq⟩ := HQ.out wq f
      clear h
      go_wp2
      exact ⟨rfl, rfl, _, rfl, Fr.refl _ _, rfl⟩
    · intro vals wq f h
      simp only [fillA, fillT, List.setIfInBounds_toArray, List.set_cons_succ, List.set_cons_zero, Option.getD_some, Nat.zero_add, Nat.reduceAdd]
      have h17 : vals 17 = Value.int .i64 4 := h 17 (by kernel_rfl)
      rw [h17]
      have h13 : vals 13 = Value.bool true := h 13 (by kernel_rfl)
      rw [h13]
      obtain ⟨⟨k0, k1, k2⟩, ⟨l0, l1, l2⟩, m5, HNp, HNq⟩ := HQ.out wq f
      clear h
      go_wp2
      exact ⟨rfl, rfl, _, rfl, Fr.refl _ _, rfl⟩
    · intro vals wq f h
      simp only [fillA, fillT, List.setIfInBounds_toArray, List.set_cons_succ, List.set_cons_zero, Option.getD_some, Nat.zero_add, Nat.reduceAdd]
      have h13 : vals 13 = Value.bool true := h 13 (by kernel_rfl)
      rw [h13]
      have h18 : vals 18 = Value.bool true := h 18 (by kernel_rfl)
      rw [h18]
      obtain ⟨⟨k0, k1, k2⟩, ⟨l0, l1, l2⟩, m5, HNp, HNq⟩ := HQ.out wq f
      clear h
      go_wp2
      exact ⟨rfl, rfl, _, rfl, Fr.refl _ _, rfl⟩
    · intro vals wq f h
      simp only [fillA, fillT, List.setIfInBounds_toArray, List.set_cons_succ, List.set_cons_zero, Option.getD_some, Nat.zero_add, Nat.reduceAdd]
      have h19 : vals 19 = Value.bool true := h 19 (by kernel_rfl)
      rw [h19]
      obtain ⟨⟨k0, k1, k2⟩, ⟨l0, l1, l2⟩, m5, HNp, HNq⟩ := HQ.out wq f
      clear h
      go_wp2
      exact ⟨rfl, rfl, _, rfl, Fr.refl _ _, rfl⟩
    · intro vals wq f h
      simp only [fillA, fillT, List.setIfInBounds_toArray, List.set_cons_succ, List.set_cons_zero, Option.getD_some, Nat.zero_add, Nat.reduceAdd]
      have h20 : vals 20 = Value.bool true := h 20 (by kernel_rfl)
      rw [h20]
      obtain ⟨⟨k0, k1, k2⟩, ⟨l0, l1, l2⟩, m5, HNp, HNq⟩ := HQ.out wq f
      clear h
      go_wp2
      exact ⟨rfl, rfl, _, rfl, Fr.refl _ _, rfl⟩
    · intro vals wq f h
      simp only [fillA, fillT, List.setIfInBounds_toArray, List.set_cons_succ, List.set_cons_zero, Option.getD_some, Nat.zero_add, Nat.reduceAdd]
      have h21 : vals 21 = Value.agg #[.int .i64 3, .int .i64 2, .slice (some ⟨b1, off, none⟩) 6 cap1] := h 21 (by kernel_rfl)
      rw [h21]
      have h20 : vals 20 = Value.bool true := h 20 (by kernel_rfl)
      rw [h20]
      obtain ⟨⟨k0, k1, k2⟩, ⟨l0, l1, l2⟩, m5, HNp, HNq⟩ := HQ.out wq f
      clear h
      go_wp2_with fail
      refine (HCrop.out wq HNq.out).mono ?_
      intro e w6 hM
      obtain ⟨v6, rfl, p6, f6⟩ := hM.plane
      obtain ⟨_, _, _, rfl, _⟩ := id p6
      have HP6 := hid p6
      clear p6
      go_wp2
      exact ⟨rfl, rfl, _, rfl, f6, HP6.out⟩
    · intro vals wq f h
      simp only [fillA, fillT, List.setIfInBounds_toArray, List.set_cons_succ, List.set_cons_zero, Option.getD_some, Nat.zero_add, Nat.reduceAdd]
      have h20 : vals 20 = Value.bool true := h 20 (by kernel_rfl)
      rw [h20]
      obtain ⟨⟨k0, k1, k2⟩, ⟨l0, l1, l2⟩, m5, HNp, HNq⟩ := HQ.out wq f
      clear h
      go_wp2
      exact ⟨rfl, rfl, _, rfl, Fr.refl _ _, rfl⟩
    · intro vals wq f h
      simp only [fillA, fillT, List.setIfInBounds_toArray, List.set_cons_succ, List.set_cons_zero, Option.getD_some, Nat.zero_add, Nat.reduceAdd]
      obtain ⟨a22, cap22, b22, h22, n22, i22⟩ : PlaneAt wq (vals 22) (2) (2) (4) (sizedV 3 2 (sizedV 2 2 V0 3) 2) := h 22 (by kernel_rfl)
      rw [h22]
      have h23 : vals 23 = Value.agg #[.int .i64 2, .int .i64 2, .slice (some ⟨w.heap.size, 0, none⟩) 4 4] := h 23 (by kernel_rfl)
      rw [h23]
      have h20 : vals 20 = Value.bool true := h 20 (by kernel_rfl)
      rw [h20]
      obtain ⟨⟨k0, k1, k2⟩, ⟨l0, l1, l2⟩, m5, HNp, HNq⟩ := HQ.out wq f
      clear h
      go_wp2_with fail
      refine (HSame.out wq _ _ _ n22 HNp.out).mono ?_
      rintro e w6 ⟨rfl, f6⟩
      go_wp2
      exact ⟨rfl, rfl, _, rfl, f6, rfl⟩
    · intro vals wq f h
      simp only [fillA, fillT, List.setIfInBounds_toArray, List.set_cons_succ, List.set_cons_zero, Option.getD_some, Nat.zero_add, Nat.reduceAdd]
      have h20 : vals 20 = Value.bool true := h 20 (by kernel_rfl)
      rw [h20]
      have h24 : vals 24 = Value.bool true := h 24 (by kernel_rfl)
      rw [h24]
      obtain ⟨⟨k0, k1, k2⟩, ⟨l0, l1, l2⟩, m5, HNp, HNq⟩ := HQ.out wq f
      clear h
      go_wp2
      exact ⟨rfl, rfl, _, rfl, Fr.refl _ _, rfl⟩
    · intro vals wq f h
      simp only [fillA, fillT, List.setIfInBounds_toArray, List.set_cons_succ, List.set_cons_zero, Option.getD_some, Nat.zero_add, Nat.reduceAdd]
      have h25 : vals 25 = Value.bool true := h 25 (by kernel_rfl)
      rw [h25]
      obtain ⟨⟨k0, k1, k2⟩, ⟨l0, l1, l2⟩, m5, HNp, HNq⟩ := HQ.out wq f
      clear h
      go_wp2
      exact ⟨rfl, rfl, _, rfl, Fr.refl _ _, rfl⟩
    · intro vals wq f h
      simp only [fillA, fillT, List.setIfInBounds_toArray, List.set_cons_succ, List.set_cons_zero, Option.getD_some, Nat.zero_add, Nat.reduceAdd]
      have h26 : vals 26 = Value.bool true := h 26 (by kernel_rfl)
      rw [h26]
      obtain ⟨⟨k0, k1, k2⟩, ⟨l0, l1, l2⟩, m5, HNp, HNq⟩ := HQ.out wq f
      clear h
      go_wp2
      exact ⟨rfl, rfl, _, rfl, Fr.refl _ _, rfl⟩
    · intro vals wq f h
      simp only [fillA, fillT, List.setIfInBounds_toArray, List.set_cons_succ, List.set_cons_zero, Option.getD_some, Nat.zero_add, Nat.reduceAdd]
      have h27 : vals 27 = Value.agg #[.int .i64 2, .int .i64 2, .slice (some ⟨w.heap.size, 0, none⟩) 4 4] := h 27 (by kernel_rfl)
      rw [h27]
      have h26 : vals 26 = Value.bool true := h 26 (by kernel_rfl)
      rw [h26]
      obtain ⟨⟨k0, k1, k2⟩, ⟨l0, l1, l2⟩, m5, HNp, HNq⟩ := HQ.out wq f
      clear h
      go_wp2_with fail
      refine (HTurn.out wq HNp.out).mono ?_
      intro e w6 hM
      obtain ⟨v6, rfl, p6, f6⟩ := hM.plane
      obtain ⟨_, _, _, rfl, _⟩ := id p6
      have HP6 := hid p6
      clear p6
      go_wp2
      exact ⟨rfl, rfl, _, rfl, f6, HP6.out⟩
    · intro vals wq f h
      simp only [fillA, fillT, List.setIfInBounds_toArray, List.set_cons_succ, List.set_cons_zero, Option.getD_some, Nat.zero_add, Nat.reduceAdd]
      have h26 : vals 26 = Value.bool true := h 26 (by kernel_rfl)
      rw [h26]
      obtain ⟨⟨k0, k1, k2⟩, ⟨l0, l1, l2⟩, m5, HNp, HNq⟩ := HQ.out wq f
      clear h
      have HB := hid (Blk.new wq #[.int .i64 1, .int .i64 3, .int .i64 2, .int .i64 4] 3)
      go_wp2
      exact ⟨rfl, rfl, _, rfl, (Fr.refl _ wq).alloc _, _, rfl, Row.of_blk (l := [1, 3, 2, 4]) HB.out⟩
    · intro vals wq f h
      simp only [fillA, fillT, List.setIfInBounds_toArray, List.set_cons_succ, List.set_cons_zero, Option.getD_some, Nat.zero_add, Nat.reduceAdd]
      obtain ⟨g29, h29, r29⟩ : RowAt wq (vals 29) 4 V3 := h 29 (by kernel_rfl)
      rw [h29]
      have h26 : vals 26 = Value.bool true := h 26 (by kernel_rfl)
      rw [h26]
      obtain ⟨⟨k0, k1, k2⟩, ⟨l0, l1, l2⟩, m5, HNp, HNq⟩ := HQ.out wq f
      clear h
      have HR9 := hid r29
      clear r29
      go_wp2
      exact ⟨rfl, rfl, _, rfl, Fr.refl _ _, _, _, _, rfl, HR9.out.nums (by unfold maxLen; omega), fun _ => HR9.out.intB⟩
    · intro vals wq f h
      simp only [fillA, fillT, List.setIfInBounds_toArray, List.set_cons_succ, List.set_cons_zero, Option.getD_some, Nat.zero_add, Nat.reduceAdd]
      obtain ⟨a28, cap28, b28, h28, n28, i28⟩ : PlaneAt wq (vals 28) (2) (2) (4) (turnV 2 2 V0) := h 28 (by kernel_rfl)
      rw [h28]
      obtain ⟨a30, cap30, b30, h30, n30, i30⟩ : PlaneAt wq (vals 30) (2) (2) (4) (V3) := h 30 (by kernel_rfl)
      rw [h30]
      have h26 : vals 26 = Value.bool true := h 26 (by kernel_rfl)
      rw [h26]
      obtain ⟨⟨k0, k1, k2⟩, ⟨l0, l1, l2⟩, m5, HNp, HNq⟩ := HQ.out wq f
      clear h
      go_wp2_with fail
      refine (HRef.out wq _ _ _ _ _ _ n28 n30).mono ?_
      rintro e w6 ⟨rfl, f6⟩
      go_wp2
      exact ⟨rfl, rfl, _, rfl, f6, rfl⟩
    · intro vals wq f h
      simp only [fillA, fillT, List.setIfInBounds_toArray, List.set_cons_succ, List.set_cons_zero, Option.getD_some, Nat.zero_add, Nat.reduceAdd]
      have h26 : vals 26 = Value.bool true := h 26 (by kernel_rfl)
      rw [h26]
      have h31 : vals 31 = Value.bool true := h 31 (by kernel_rfl)
      rw [h31]
      obtain ⟨⟨k0, k1, k2⟩, ⟨l0, l1, l2⟩, m5, HNp, HNq⟩ := HQ.out wq f
      clear h
      go_wp2
      exact ⟨rfl, rfl, _, rfl, Fr.refl _ _, rfl⟩
    · intro vals wq f h
      simp only [fillA, fillT, List.setIfInBounds_toArray, List.set_cons_succ, List.set_cons_zero, Option.getD_some, Nat.zero_add, Nat.reduceAdd]
      have h32 : vals 32 = Value.bool true := h 32 (by kernel_rfl)
      rw [h32]
      obtain ⟨⟨k0, k1, k2⟩, ⟨l0, l1, l2⟩, m5, HNp, HNq⟩ := HQ.out wq f
      clear h
      go_wp2
      exact ⟨rfl, rfl, _, rfl, Fr.refl _ _, rfl⟩
    · intro vals wq f h
      simp only [fillA, fillT, List.setIfInBounds_toArray, List.set_cons_succ, List.set_cons_zero, Option.getD_some, Nat.zero_add, Nat.reduceAdd]
      have h33 : vals 33 = Value.bool true := h 33 (by kernel_rfl)
      rw [h33]
      obtain ⟨⟨k0, k1, k2⟩, ⟨l0, l1, l2⟩, m5, HNp, HNq⟩ := HQ.out wq f
      clear h
      go_wp2
      exact ⟨rfl, rfl, _, rfl, Fr.refl _ _, rfl⟩
    · intro vals wq f h
      simp only [fillA, fillT, List.setIfInBounds_toArray, List.set_cons_succ, List.set_cons_zero, Option.getD_some, Nat.zero_add, Nat.reduceAdd]
      have h34 : vals 34 = Value.agg #[.int .i64 0, .int .i64 0, .slice none 0 0] := h 34 (by kernel_rfl)
      rw [h34]
      have h33 : vals 33 = Value.bool true := h 33 (by kernel_rfl)
      rw [h33]
      obtain ⟨⟨k0, k1, k2⟩, ⟨l0, l1, l2⟩, m5, HNp, HNq⟩ := HQ.out wq f
      clear h
      go_wp2_with fail
      refine (HBad.out wq).mono ?_
      rintro e w6 ⟨rfl, f6⟩
      go_wp2
      exact ⟨rfl, rfl, _, rfl, f6, rfl⟩
    · intro vals wq f h
      simp only [fillA, fillT, List.setIfInBounds_toArray, List.set_cons_succ, List.set_cons_zero, Option.getD_some, Nat.zero_add, Nat.reduceAdd]
      have h35 : vals 35 = Value.bool false := h 35 (by kernel_rfl)
      rw [h35]
      have h33 : vals 33 = Value.bool true := h 33 (by kernel_rfl)
      rw [h33]
      obtain ⟨⟨k0, k1, k2⟩, ⟨l0, l1, l2⟩, m5, HNp, HNq⟩ := HQ.out wq f
      clear h
      go_wp2
      exact ⟨rfl, rfl, _, rfl, Fr.refl _ _, rfl⟩
    · intro vals wq f h
      simp only [fillA, fillT, List.setIfInBounds_toArray, List.set_cons_succ, List.set_cons_zero, Option.getD_some, Nat.zero_add, Nat.reduceAdd]
      have h33 : vals 33 = Value.bool true := h 33 (by kernel_rfl)
      rw [h33]
      have h36 : vals 36 = Value.bool true := h 36 (by kernel_rfl)
      rw [h36]
      obtain ⟨⟨k0, k1, k2⟩, ⟨l0, l1, l2⟩, m5, HNp, HNq⟩ := HQ.out wq f
      clear h
      go_wp2
      exact ⟨rfl, rfl, _, rfl, Fr.refl _ _, rfl⟩
    · intro vals wq f h
      simp only [fillA, fillT, List.setIfInBounds_toArray, List.set_cons_succ, List.set_cons_zero, Option.getD_some, Nat.zero_add, Nat.reduceAdd]
      have h37 : vals 37 = Value.bool true := h 37 (by kernel_rfl)
      rw [h37]
      obtain ⟨⟨k0, k1, k2⟩, ⟨l0, l1, l2⟩, m5, HNp, HNq⟩ := HQ.out wq f
      clear h
      go_wp2
      exact ⟨rfl, rfl, _, rfl, Fr.refl _ _, rfl⟩
  case tail =>
    intro vals wq f h
    simp only [List.take_succ_cons, List.take_zero, fillA, fillT, List.setIfInBounds_toArray, List.set_cons_succ, List.set_cons_zero, List.drop_succ_cons, List.drop_nil, Nat.zero_add, Nat.reduceAdd]
    have h38 : vals 38 = Value.bool true := h 38 (by omega)
    rw [h38]
    clear h h38
    gi_wp2
    go_wp2
    go_ret
    exact ⟨rfl, F3.trans' ((Fr.refl _ W3).drew.trans' f)⟩
end Go.Proofs.Ythhhecdnnbgddaa
