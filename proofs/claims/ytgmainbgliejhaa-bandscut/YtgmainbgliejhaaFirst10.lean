/-
  Law 10: what must be answered, ahead of everything else (first).
-/
import Derived.Test.YtgmainbgliejhaaBandsG
import Derived.Test.YtgmainbgliejhaaPlaneE
import Derived.Test.YtgmainbgliejhaaWeaveP
namespace Go.Proofs.Ytgmainbgliejhaa
open Go.RowKit

def V18 : Nat → Int := fun j => [1, 2, 3, 4, 5, 6, 7, 8].getD j 0
def V78 : Nat → Int := fun j => [7, 8].getD j 0
theorem ok421 : bandsOk 4 2 1 = true := bandsOk_of (x := 4) (y := 2) (k := 1) (by decide) (by decide) (by decide) ⟨by decide, by decide⟩ ⟨by decide, by decide⟩

set_option maxRecDepth 100000 in
set_option maxHeartbeats 4000000 in
theorem first10_any (w : World) : Calls Try.prog 7 #[] w fun e w' => e = .returned (.bool true) ∧ Fr (fun _ => False) w w' := by
  have HLi : Hid (∀ w1, Calls Try.prog 10 #[.int .i64 4, .int .i64 2, .int .i64 1] w1 fun e w' => ∃ cap b, e = .returned (.slice (some ⟨b, 0, none⟩) 4 cap) ∧ (w'.cell? ⟨b, 6, none⟩ = some (.int .i64 1) ∧ w'.cell? ⟨b, 7, none⟩ = some (.int .i64 1) ∧ w'.cell? ⟨b, 8, none⟩ = some (.int .i64 2) ∧ w'.cell? ⟨b, 9, none⟩ = some (.int .i64 0) ∧ w'.cell? ⟨b, 10, none⟩ = some (.int .i64 2) ∧ w'.cell? ⟨b, 11, none⟩ = some (.int .i64 1)) ∧ (w'.cell? ⟨b, 18, none⟩ = some (.int .i64 1) ∧ w'.cell? ⟨b, 19, none⟩ = some (.int .i64 3) ∧ w'.cell? ⟨b, 20, none⟩ = some (.int .i64 2) ∧ w'.cell? ⟨b, 21, none⟩ = some (.int .i64 1) ∧ w'.cell? ⟨b, 22, none⟩ = some (.int .i64 2) ∧ w'.cell? ⟨b, 23, none⟩ = some (.int .i64 1)) ∧ Fr (fun _ => False) w1 w') := fun w1 => by
    refine (blist_any 4 2 1 w1).mono ?_
    rintro e w' ⟨a, cap, b, rfl, hB, _, f⟩
    have hN : bandsN 4 2 1 = 4 := bandsN_ok ok421
    rw [hN] at hB ⊢
    obtain rfl := hB.addr (by decide)
    have h1 := hB.cells (i := 1) (by decide)
    have h3 := hB.cells (i := 3) (by decide)
    rw [show bandsL 4 2 1 1 = ⟨1, 1, 2, 0, 2, 1⟩ by decide] at h1
    rw [show bandsL 4 2 1 3 = ⟨1, 3, 2, 1, 2, 1⟩ by decide] at h3
    exact ⟨cap, b, rfl, h1, h3, f⟩
  have HC2 : Hid (∀ w1, Calls Try.prog 15 #[.int .i64 2] w1 fun e w' => e = .returned (.int .i64 7) ∧ w' = w1) := fun w1 => by
    have := bcount_any 2 w1
    rwa [show countB 2 = 7 by decide] at this
  have HP4 : Hid (∀ w1, Calls Try.prog 13 #[.int .i64 4] w1 fun e w' => e = .returned (.int .i64 1) ∧ w' = w1) := fun w1 => by
    have := bparent_any 4 w1
    rwa [show parentZ 4 = 1 by decide] at this
  have HP3 : Hid (∀ w1, Calls Try.prog 13 #[.int .i64 3] w1 fun e w' => e = .returned (.int .i64 (-1)) ∧ w' = w1) := fun w1 => by
    have := bparent_any 3 w1
    rwa [show parentZ 3 = -1 by decide] at this
  obtain ⟨CF, hCF⟩ : ∃ C, C = cutF 4 ⟨1, 3, 2, 1, 2, 1⟩ V18 := ⟨_, rfl⟩
  have HCF : Hid (∀ j, j < 2 → CF j = V78 j) := fun j hj => by
    rw [hCF]
    have : j = 0 ∨ j = 1 := by omega
    rcases this with rfl | rfl <;> decide
  have HCutA : Hid (∀ w1 b, Nums w1 (some ⟨b, 0, none⟩) 8 8 V18 b → Calls Try.prog 16 #[.agg #[.int .i64 4, .int .i64 2, .slice (some ⟨b, 0, none⟩) 8 8], .agg #[.int .i64 1, .int .i64 3, .int .i64 2, .int .i64 1, .int .i64 2, .int .i64 1]] w1 fun e w' => Made w1 w' e 2 1 2 CF) := fun w1 b h => by
    rw [hCF]
    exact bcut_go 4 2 _ 8 8 V18 b 1 3 ⟨1, 3, 2, 1, 2, 1⟩ w1 (by decide) (by decide) (by decide) (by decide) rfl h (by decide) (by decide) (by decide) (by decide)
  have HS : Hid (∀ w1 a1 cap1 b1 a2 cap2 b2, Nums w1 a1 2 cap1 CF b1 → Nums w1 a2 2 cap2 V78 b2 → Calls Try.prog 17 #[.agg #[.int .i64 2, .int .i64 1, .slice a1 2 cap1], .agg #[.int .i64 2, .int .i64 1, .slice a2 2 cap2]] w1 fun e w' => e = .returned (.bool true) ∧ Fr (fun _ => False) w1 w') := fun w1 a1 cap1 b1 a2 cap2 b2 h h' => by
    have := rsame_any 2 1 a1 2 cap1 CF b1 2 1 a2 2 cap2 V78 b2 w1 h h'
    rwa [sameV_of HCF.out] at this
  clear hCF HCF
  go_enter Try.func7, Try.ntmps7
  go_wp2_with fail
  refine (HLi.out w).mono ?_
  rintro e w1 ⟨cap, bl, rfl, y1, y3, f1⟩
  obtain ⟨W3, hW3⟩ : ∃ W3, W3 = (w1.alloc (.cells #[.int .i64 1, .int .i64 2, .int .i64 3, .int .i64 4, .int .i64 5, .int .i64 6, .int .i64 7, .int .i64 8] 3)).alloc (.cells #[.int .i64 4, .int .i64 2, .slice (some ⟨w1.heap.size, 0, none⟩) 8 8] 38) := ⟨_, rfl⟩
  have FL : Fr (fun _ => False) w1 W3 := by rw [hW3]; exact ((Fr.refl _ w1).alloc _).alloc _
  have F3 : Fr (fun _ => False) w W3 := f1.trans' FL
  have R0 : Blk W3 w1.heap.size #[.int .i64 1, .int .i64 2, .int .i64 3, .int .i64 4, .int .i64 5, .int .i64 6, .int .i64 7, .int .i64 8] 3 := by rw [hW3]; exact (Blk.new _ _ _).alloc _
  have R1 : Blk W3 (w1.heap.size + 1) #[.int .i64 4, .int .i64 2, .slice (some ⟨w1.heap.size, 0, none⟩) 8 8] 38 := by
    rw [hW3]
    have := Blk.new (w1.alloc (.cells #[.int .i64 1, .int .i64 2, .int .i64 3, .int .i64 4, .int .i64 5, .int .i64 6, .int .i64 7, .int .i64 8] 3)) #[.int .i64 4, .int .i64 2, .slice (some ⟨w1.heap.size, 0, none⟩) 8 8] 38
    simpa using this
  have HQ : Hid (∀ wq, Fr (fun _ => False) W3.drew wq → (wq.cell? ⟨w1.heap.size + 1, 0, none⟩ = some (.int .i64 4) ∧ wq.cell? ⟨w1.heap.size + 1, 1, none⟩ = some (.int .i64 2) ∧ wq.cell? ⟨w1.heap.size + 1, 2, none⟩ = some (.slice (some ⟨w1.heap.size, 0, none⟩) 8 8)) ∧ (wq.cell? ⟨bl, 6, none⟩ = some (.int .i64 1) ∧ wq.cell? ⟨bl, 7, none⟩ = some (.int .i64 1) ∧ wq.cell? ⟨bl, 8, none⟩ = some (.int .i64 2) ∧ wq.cell? ⟨bl, 9, none⟩ = some (.int .i64 0) ∧ wq.cell? ⟨bl, 10, none⟩ = some (.int .i64 2) ∧ wq.cell? ⟨bl, 11, none⟩ = some (.int .i64 1)) ∧ (wq.cell? ⟨bl, 18, none⟩ = some (.int .i64 1) ∧ wq.cell? ⟨bl, 19, none⟩ = some (.int .i64 3) ∧ wq.cell? ⟨bl, 20, none⟩ = some (.int .i64 2) ∧ wq.cell? ⟨bl, 21, none⟩ = some (.int .i64 1) ∧ wq.cell? ⟨bl, 22, none⟩ = some (.int .i64 2) ∧ wq.cell? ⟨bl, 23, none⟩ = some (.int .i64 1)) ∧ Hid (Nums wq (some ⟨w1.heap.size, 0, none⟩) 8 8 V18 w1.heap.size)) := by
    intro wq f
    have f' := (Fr.refl _ W3).drew.trans' f
    have f2 := FL.trans' f'
    have S0 := R0.fr f' (fun h => h)
    have S1 := R1.fr f' (fun h => h)
    have up : ∀ {k : Nat} {v : Value}, w1.cell? ⟨bl, k, none⟩ = some v → wq.cell? ⟨bl, k, none⟩ = some v := fun {k v} h => (f2.cell (p := ⟨bl, k, none⟩) (cell_lt h) (fun h => h)).trans h
    obtain ⟨p0, p1, p2, p3, p4, p5⟩ := y1
    obtain ⟨q0, q1, q2, q3, q4, q5⟩ := y3
    exact ⟨⟨by rw [S1.cell]; rfl, by rw [S1.cell]; rfl, by rw [S1.cell]; rfl⟩, ⟨up p0, up p1, up p2, up p3, up p4, up p5⟩, ⟨up q0, up q1, up q2, up q3, up q4, up q5⟩, (Row.of_blk (l := [1, 2, 3, 4, 5, 6, 7, 8]) S0).nums (by unfold maxLen; decide)⟩
  have HCut := hid (fun wq => HCutA.out wq w1.heap.size)
  have HW3 := hid hW3
  clear hW3 R0 R1 FL f1 y1 y3 HLi HCutA
  go_wp2
  rw [← HW3.out]
  refine weaveS 32 [.eq (Value.slice (some ⟨bl, 0, none⟩) 4 cap), .eq (Value.int .i64 4), .eq (Value.bool true), .eq (Value.bool true), .eq (Value.slice (some ⟨bl, 0, none⟩) 4 cap), .eq (Value.pointer (some ⟨bl, 6, none⟩)), .eq (Value.agg #[.int .i64 1, .int .i64 1, .int .i64 2, .int .i64 0, .int .i64 2, .int .i64 1]), .eq (Value.agg #[.int .i64 1, .int .i64 1, .int .i64 2, .int .i64 0, .int .i64 2, .int .i64 1]), .eq (Value.bool true), .eq (Value.bool true), .eq (Value.bool true), .eq (Value.int .i64 7), .eq (Value.bool true), .eq (Value.bool true), .eq (Value.bool true), .eq (Value.int .i64 1), .eq (Value.bool true), .eq (Value.bool true), .eq (Value.bool true), .eq (Value.int .i64 (-1)), .eq (Value.bool true), .eq (Value.bool true), .eq (Value.bool true), .eq (Value.agg #[.int .i64 4, .int .i64 2, .slice (some ⟨w1.heap.size, 0, none⟩) 8 8]), .eq (Value.slice (some ⟨bl, 0, none⟩) 4 cap), .eq (Value.pointer (some ⟨bl, 18, none⟩)), .eq (Value.agg #[.int .i64 1, .int .i64 3, .int .i64 2, .int .i64 1, .int .i64 2, .int .i64 1]), .plane (2) (1) (2) (CF), .row 2 V78, .plane (2) (1) (2) (V78), .eq (Value.bool true), .eq (Value.bool true)] (by kernel_rfl) (by kernel_rfl) ?obls ?tail
  case obls =>
    simp only [List.take_succ_cons, List.take_zero]
    refine ⟨?_, ?_, ?_, ?_, ?_, ?_, ?_, ?_, ?_, ?_, ?_, ?_, ?_, ?_, ?_, ?_, ?_, ?_, ?_, ?_, ?_, ?_, ?_, ?_, ?_, ?_, ?_, ?_, ?_, ?_, ?_, ?_, trivial⟩
    · intro vals wq f h
      simp only [fillA, fillT, List.setIfInBounds_toArray, List.set_cons_succ, List.set_cons_zero, Option.getD_some, Nat.zero_add, Nat.reduceAdd]
      obtain ⟨⟨k0, k1, k2⟩, ⟨l0, l1, l2, l3, l4, l5⟩, ⟨m0, m1, m2, m3, m4, m5⟩, HNp⟩ := HQ.out wq f
      clear h
      go_wp2
      exact ⟨rfl, rfl, _, rfl, Fr.refl _ _, rfl⟩
    · intro vals wq f h
      simp only [fillA, fillT, List.setIfInBounds_toArray, List.set_cons_succ, List.set_cons_zero, Option.getD_some, Nat.zero_add, Nat.reduceAdd]
      have h0 : vals 0 = Value.slice (some ⟨bl, 0, none⟩) 4 cap := h 0 (by kernel_rfl)
      rw [h0]
      obtain ⟨⟨k0, k1, k2⟩, ⟨l0, l1, l2, l3, l4, l5⟩, ⟨m0, m1, m2, m3, m4, m5⟩, HNp⟩ := HQ.out wq f
      clear h
      go_wp2
      exact ⟨rfl, rfl, _, rfl, Fr.refl _ _, rfl⟩
    · intro vals wq f h
      simp only [fillA, fillT, List.setIfInBounds_toArray, List.set_cons_succ, List.set_cons_zero, Option.getD_some, Nat.zero_add, Nat.reduceAdd]
      have h1 : vals 1 = Value.int .i64 4 := h 1 (by kernel_rfl)
      rw [h1]
      obtain ⟨⟨k0, k1, k2⟩, ⟨l0, l1, l2, l3, l4, l5⟩, ⟨m0, m1, m2, m3, m4, m5⟩, HNp⟩ := HQ.out wq f
      clear h
      go_wp2
      exact ⟨rfl, rfl, _, rfl, Fr.refl _ _, rfl⟩
    · intro vals wq f h
      simp only [fillA, fillT, List.setIfInBounds_toArray, List.set_cons_succ, List.set_cons_zero, Option.getD_some, Nat.zero_add, Nat.reduceAdd]
      have h2 : vals 2 = Value.bool true := h 2 (by kernel_rfl)
      rw [h2]
      obtain ⟨⟨k0, k1, k2⟩, ⟨l0, l1, l2, l3, l4, l5⟩, ⟨m0, m1, m2, m3, m4, m5⟩, HNp⟩ := HQ.out wq f
      clear h
      go_wp2
      exact ⟨rfl, rfl, _, rfl, Fr.refl _ _, rfl⟩
    · intro vals wq f h
      simp only [fillA, fillT, List.setIfInBounds_toArray, List.set_cons_succ, List.set_cons_zero, Option.getD_some, Nat.zero_add, Nat.reduceAdd]
      have h3 : vals 3 = Value.bool true := h 3 (by kernel_rfl)
      rw [h3]
      obtain ⟨⟨k0, k1, k2⟩, ⟨l0, l1, l2, l3, l4, l5⟩, ⟨m0, m1, m2, m3, m4, m5⟩, HNp⟩ := HQ.out wq f
      clear h
      go_wp2
      exact ⟨rfl, rfl, _, rfl, Fr.refl _ _, rfl⟩
    · intro vals wq f h
      simp only [fillA, fillT, List.setIfInBounds_toArray, List.set_cons_succ, List.set_cons_zero, Option.getD_some, Nat.zero_add, Nat.reduceAdd]
      have h4 : vals 4 = Value.slice (some ⟨bl, 0, none⟩) 4 cap := h 4 (by kernel_rfl)
      rw [h4]
      have h3 : vals 3 = Value.bool true := h 3 (by kernel_rfl)
      rw [h3]
      obtain ⟨⟨k0, k1, k2⟩, ⟨l0, l1, l2, l3, l4, l5⟩, ⟨m0, m1, m2, m3, m4, m5⟩, HNp⟩ := HQ.out wq f
      clear h
      go_wp2
      exact ⟨rfl, rfl, _, rfl, Fr.refl _ _, rfl⟩
    · intro vals wq f h
      simp only [fillA, fillT, List.setIfInBounds_toArray, List.set_cons_succ, List.set_cons_zero, Option.getD_some, Nat.zero_add, Nat.reduceAdd]
      have h5 : vals 5 = Value.pointer (some ⟨bl, 6, none⟩) := h 5 (by kernel_rfl)
      rw [h5]
      have h3 : vals 3 = Value.bool true := h 3 (by kernel_rfl)
      rw [h3]
      obtain ⟨⟨k0, k1, k2⟩, ⟨l0, l1, l2, l3, l4, l5⟩, ⟨m0, m1, m2, m3, m4, m5⟩, HNp⟩ := HQ.out wq f
      clear h
      go_wp2
      exact ⟨rfl, rfl, _, rfl, Fr.refl _ _, rfl⟩
    · intro vals wq f h
      simp only [fillA, fillT, List.setIfInBounds_toArray, List.set_cons_succ, List.set_cons_zero, Option.getD_some, Nat.zero_add, Nat.reduceAdd]
      have h3 : vals 3 = Value.bool true := h 3 (by kernel_rfl)
      rw [h3]
      obtain ⟨⟨k0, k1, k2⟩, ⟨l0, l1, l2, l3, l4, l5⟩, ⟨m0, m1, m2, m3, m4, m5⟩, HNp⟩ := HQ.out wq f
      clear h
      go_wp2
      exact ⟨rfl, rfl, _, rfl, Fr.refl _ _, rfl⟩
    · intro vals wq f h
      simp only [fillA, fillT, List.setIfInBounds_toArray, List.set_cons_succ, List.set_cons_zero, Option.getD_some, Nat.zero_add, Nat.reduceAdd]
      have h6 : vals 6 = Value.agg #[.int .i64 1, .int .i64 1, .int .i64 2, .int .i64 0, .int .i64 2, .int .i64 1] := h 6 (by kernel_rfl)
      rw [h6]
      have h7 : vals 7 = Value.agg #[.int .i64 1, .int .i64 1, .int .i64 2, .int .i64 0, .int .i64 2, .int .i64 1] := h 7 (by kernel_rfl)
      rw [h7]
      have h3 : vals 3 = Value.bool true := h 3 (by kernel_rfl)
      rw [h3]
      obtain ⟨⟨k0, k1, k2⟩, ⟨l0, l1, l2, l3, l4, l5⟩, ⟨m0, m1, m2, m3, m4, m5⟩, HNp⟩ := HQ.out wq f
      clear h
      go_wp2
      exact ⟨rfl, rfl, _, rfl, Fr.refl _ _, rfl⟩
    · intro vals wq f h
      simp only [fillA, fillT, List.setIfInBounds_toArray, List.set_cons_succ, List.set_cons_zero, Option.getD_some, Nat.zero_add, Nat.reduceAdd]
      have h3 : vals 3 = Value.bool true := h 3 (by kernel_rfl)
      rw [h3]
      have h8 : vals 8 = Value.bool true := h 8 (by kernel_rfl)
      rw [h8]
      obtain ⟨⟨k0, k1, k2⟩, ⟨l0, l1, l2, l3, l4, l5⟩, ⟨m0, m1, m2, m3, m4, m5⟩, HNp⟩ := HQ.out wq f
      clear h
      go_wp2
      exact ⟨rfl, rfl, _, rfl, Fr.refl _ _, rfl⟩
    · intro vals wq f h
      simp only [fillA, fillT, List.setIfInBounds_toArray, List.set_cons_succ, List.set_cons_zero, Option.getD_some, Nat.zero_add, Nat.reduceAdd]
      have h9 : vals 9 = Value.bool true := h 9 (by kernel_rfl)
      rw [h9]
      obtain ⟨⟨k0, k1, k2⟩, ⟨l0, l1, l2, l3, l4, l5⟩, ⟨m0, m1, m2, m3, m4, m5⟩, HNp⟩ := HQ.out wq f
      clear h
      go_wp2
      exact ⟨rfl, rfl, _, rfl, Fr.refl _ _, rfl⟩
    · intro vals wq f h
      simp only [fillA, fillT, List.setIfInBounds_toArray, List.set_cons_succ, List.set_cons_zero, Option.getD_some, Nat.zero_add, Nat.reduceAdd]
      have h10 : vals 10 = Value.bool true := h 10 (by kernel_rfl)
      rw [h10]
      obtain ⟨⟨k0, k1, k2⟩, ⟨l0, l1, l2, l3, l4, l5⟩, ⟨m0, m1, m2, m3, m4, m5⟩, HNp⟩ := HQ.out wq f
      clear h
      go_wp2_with fail
      refine (HC2.out wq).mono ?_
      rintro e w6 ⟨rfl, rfl⟩
      go_wp2
      exact ⟨rfl, rfl, _, rfl, Fr.refl _ _, rfl⟩
    · intro vals wq f h
      simp only [fillA, fillT, List.setIfInBounds_toArray, List.set_cons_succ, List.set_cons_zero, Option.getD_some, Nat.zero_add, Nat.reduceAdd]
      have h11 : vals 11 = Value.int .i64 7 := h 11 (by kernel_rfl)
      rw [h11]
      have h10 : vals 10 = Value.bool true := h 10 (by kernel_rfl)
      rw [h10]
      obtain ⟨⟨k0, k1, k2⟩, ⟨l0, l1, l2, l3, l4, l5⟩, ⟨m0, m1, m2, m3, m4, m5⟩, HNp⟩ := HQ.out wq f
      clear h
      go_wp2
      exact ⟨rfl, rfl, _, rfl, Fr.refl _ _, rfl⟩
    · intro vals wq f h
      simp only [fillA, fillT, List.setIfInBounds_toArray, List.set_cons_succ, List.set_cons_zero, Option.getD_some, Nat.zero_add, Nat.reduceAdd]
      have h10 : vals 10 = Value.bool true := h 10 (by kernel_rfl)
      rw [h10]
      have h12 : vals 12 = Value.bool true := h 12 (by kernel_rfl)
      rw [h12]
      obtain ⟨⟨k0, k1, k2⟩, ⟨l0, l1, l2, l3, l4, l5⟩, ⟨m0, m1, m2, m3, m4, m5⟩, HNp⟩ := HQ.out wq f
      clear h
      go_wp2
      exact ⟨rfl, rfl, _, rfl, Fr.refl _ _, rfl⟩
    · intro vals wq f h
      simp only [fillA, fillT, List.setIfInBounds_toArray, List.set_cons_succ, List.set_cons_zero, Option.getD_some, Nat.zero_add, Nat.reduceAdd]
      have h13 : vals 13 = Value.bool true := h 13 (by kernel_rfl)
      rw [h13]
      obtain ⟨⟨k0, k1, k2⟩, ⟨l0, l1, l2, l3, l4, l5⟩, ⟨m0, m1, m2, m3, m4, m5⟩, HNp⟩ := HQ.out wq f
      clear h
      go_wp2
      exact ⟨rfl, rfl, _, rfl, Fr.refl _ _, rfl⟩
    · intro vals wq f h
      simp only [fillA, fillT, List.setIfInBounds_toArray, List.set_cons_succ, List.set_cons_zero, Option.getD_some, Nat.zero_add, Nat.reduceAdd]
      have h14 : vals 14 = Value.bool true := h 14 (by kernel_rfl)
      rw [h14]
      obtain ⟨⟨k0, k1, k2⟩, ⟨l0, l1, l2, l3, l4, l5⟩, ⟨m0, m1, m2, m3, m4, m5⟩, HNp⟩ := HQ.out wq f
      clear h
      go_wp2_with fail
      refine (HP4.out wq).mono ?_
      rintro e w6 ⟨rfl, rfl⟩
      go_wp2
      exact ⟨rfl, rfl, _, rfl, Fr.refl _ _, rfl⟩
    · intro vals wq f h
      simp only [fillA, fillT, List.setIfInBounds_toArray, List.set_cons_succ, List.set_cons_zero, Option.getD_some, Nat.zero_add, Nat.reduceAdd]
      have h15 : vals 15 = Value.int .i64 1 := h 15 (by kernel_rfl)
      rw [h15]
      have h14 : vals 14 = Value.bool true := h 14 (by kernel_rfl)
      rw [h14]
      obtain ⟨⟨k0, k1, k2⟩, ⟨l0, l1, l2, l3, l4, l5⟩, ⟨m0, m1, m2, m3, m4, m5⟩, HNp⟩ := HQ.out wq f
      clear h
      go_wp2
      exact ⟨rfl, rfl, _, rfl, Fr.refl _ _, rfl⟩
    · intro vals wq f h
      simp only [fillA, fillT, List.setIfInBounds_toArray, List.set_cons_succ, List.set_cons_zero, Option.getD_some, Nat.zero_add, Nat.reduceAdd]
      have h14 : vals 14 = Value.bool true := h 14 (by kernel_rfl)
      rw [h14]
      have h16 : vals 16 = Value.bool true := h 16 (by kernel_rfl)
      rw [h16]
      obtain ⟨⟨k0, k1, k2⟩, ⟨l0, l1, l2, l3, l4, l5⟩, ⟨m0, m1, m2, m3, m4, m5⟩, HNp⟩ := HQ.out wq f
      clear h
      go_wp2
      exact ⟨rfl, rfl, _, rfl, Fr.refl _ _, rfl⟩
    · intro vals wq f h
      simp only [fillA, fillT, List.setIfInBounds_toArray, List.set_cons_succ, List.set_cons_zero, Option.getD_some, Nat.zero_add, Nat.reduceAdd]
      have h17 : vals 17 = Value.bool true := h 17 (by kernel_rfl)
      rw [h17]
      obtain ⟨⟨k0, k1, k2⟩, ⟨l0, l1, l2, l3, l4, l5⟩, ⟨m0, m1, m2, m3, m4, m5⟩, HNp⟩ := HQ.out wq f
      clear h
      go_wp2
      exact ⟨rfl, rfl, _, rfl, Fr.refl _ _, rfl⟩
    · intro vals wq f h
      simp only [fillA, fillT, List.setIfInBounds_toArray, List.set_cons_succ, List.set_cons_zero, Option.getD_some, Nat.zero_add, Nat.reduceAdd]
      have h18 : vals 18 = Value.bool true := h 18 (by kernel_rfl)
      rw [h18]
      obtain ⟨⟨k0, k1, k2⟩, ⟨l0, l1, l2, l3, l4, l5⟩, ⟨m0, m1, m2, m3, m4, m5⟩, HNp⟩ := HQ.out wq f
      clear h
      go_wp2_with fail
      refine (HP3.out wq).mono ?_
      rintro e w6 ⟨rfl, rfl⟩
      go_wp2
      exact ⟨rfl, rfl, _, rfl, Fr.refl _ _, rfl⟩
    · intro vals wq f h
      simp only [fillA, fillT, List.setIfInBounds_toArray, List.set_cons_succ, List.set_cons_zero, Option.getD_some, Nat.zero_add, Nat.reduceAdd]
      have h19 : vals 19 = Value.int .i64 (-1) := h 19 (by kernel_rfl)
      rw [h19]
      have h18 : vals 18 = Value.bool true := h 18 (by kernel_rfl)
      rw [h18]
      obtain ⟨⟨k0, k1, k2⟩, ⟨l0, l1, l2, l3, l4, l5⟩, ⟨m0, m1, m2, m3, m4, m5⟩, HNp⟩ := HQ.out wq f
      clear h
      go_wp2
      exact ⟨rfl, rfl, _, rfl, Fr.refl _ _, rfl⟩
    · intro vals wq f h
      simp only [fillA, fillT, List.setIfInBounds_toArray, List.set_cons_succ, List.set_cons_zero, Option.getD_some, Nat.zero_add, Nat.reduceAdd]
      have h18 : vals 18 = Value.bool true := h 18 (by kernel_rfl)
      rw [h18]
      have h20 : vals 20 = Value.bool true := h 20 (by kernel_rfl)
      rw [h20]
      obtain ⟨⟨k0, k1, k2⟩, ⟨l0, l1, l2, l3, l4, l5⟩, ⟨m0, m1, m2, m3, m4, m5⟩, HNp⟩ := HQ.out wq f
      clear h
      go_wp2
      exact ⟨rfl, rfl, _, rfl, Fr.refl _ _, rfl⟩
    · intro vals wq f h
      simp only [fillA, fillT, List.setIfInBounds_toArray, List.set_cons_succ, List.set_cons_zero, Option.getD_some, Nat.zero_add, Nat.reduceAdd]
      have h21 : vals 21 = Value.bool true := h 21 (by kernel_rfl)
      rw [h21]
      obtain ⟨⟨k0, k1, k2⟩, ⟨l0, l1, l2, l3, l4, l5⟩, ⟨m0, m1, m2, m3, m4, m5⟩, HNp⟩ := HQ.out wq f
      clear h
      go_wp2
      exact ⟨rfl, rfl, _, rfl, Fr.refl _ _, rfl⟩
    · intro vals wq f h
      simp only [fillA, fillT, List.setIfInBounds_toArray, List.set_cons_succ, List.set_cons_zero, Option.getD_some, Nat.zero_add, Nat.reduceAdd]
      have h22 : vals 22 = Value.bool true := h 22 (by kernel_rfl)
      rw [h22]
      obtain ⟨⟨k0, k1, k2⟩, ⟨l0, l1, l2, l3, l4, l5⟩, ⟨m0, m1, m2, m3, m4, m5⟩, HNp⟩ := HQ.out wq f
      clear h
      go_wp2
      exact ⟨rfl, rfl, _, rfl, Fr.refl _ _, rfl⟩
    · intro vals wq f h
      simp only [fillA, fillT, List.setIfInBounds_toArray, List.set_cons_succ, List.set_cons_zero, Option.getD_some, Nat.zero_add, Nat.reduceAdd]
      have h22 : vals 22 = Value.bool true := h 22 (by kernel_rfl)
      rw [h22]
      obtain ⟨⟨k0, k1, k2⟩, ⟨l0, l1, l2, l3, l4, l5⟩, ⟨m0, m1, m2, m3, m4, m5⟩, HNp⟩ := HQ.out wq f
      clear h
      go_wp2
      exact ⟨rfl, rfl, _, rfl, Fr.refl _ _, rfl⟩
    · intro vals wq f h
      simp only [fillA, fillT, List.setIfInBounds_toArray, List.set_cons_succ, List.set_cons_zero, Option.getD_some, Nat.zero_add, Nat.reduceAdd]
      have h24 : vals 24 = Value.slice (some ⟨bl, 0, none⟩) 4 cap := h 24 (by kernel_rfl)
      rw [h24]
      have h22 : vals 22 = Value.bool true := h 22 (by kernel_rfl)
      rw [h22]
      obtain ⟨⟨k0, k1, k2⟩, ⟨l0, l1, l2, l3, l4, l5⟩, ⟨m0, m1, m2, m3, m4, m5⟩, HNp⟩ := HQ.out wq f
      clear h
      go_wp2
      exact ⟨rfl, rfl, _, rfl, Fr.refl _ _, rfl⟩
    · intro vals wq f h
      simp only [fillA, fillT, List.setIfInBounds_toArray, List.set_cons_succ, List.set_cons_zero, Option.getD_some, Nat.zero_add, Nat.reduceAdd]
      have h25 : vals 25 = Value.pointer (some ⟨bl, 18, none⟩) := h 25 (by kernel_rfl)
      rw [h25]
      have h22 : vals 22 = Value.bool true := h 22 (by kernel_rfl)
      rw [h22]
      obtain ⟨⟨k0, k1, k2⟩, ⟨l0, l1, l2, l3, l4, l5⟩, ⟨m0, m1, m2, m3, m4, m5⟩, HNp⟩ := HQ.out wq f
      clear h
      go_wp2
      exact ⟨rfl, rfl, _, rfl, Fr.refl _ _, rfl⟩
    · intro vals wq f h
      simp only [fillA, fillT, List.setIfInBounds_toArray, List.set_cons_succ, List.set_cons_zero, Option.getD_some, Nat.zero_add, Nat.reduceAdd]
      have h23 : vals 23 = Value.agg #[.int .i64 4, .int .i64 2, .slice (some ⟨w1.heap.size, 0, none⟩) 8 8] := h 23 (by kernel_rfl)
      rw [h23]
      have h26 : vals 26 = Value.agg #[.int .i64 1, .int .i64 3, .int .i64 2, .int .i64 1, .int .i64 2, .int .i64 1] := h 26 (by kernel_rfl)
      rw [h26]
      have h22 : vals 22 = Value.bool true := h 22 (by kernel_rfl)
      rw [h22]
      obtain ⟨⟨k0, k1, k2⟩, ⟨l0, l1, l2, l3, l4, l5⟩, ⟨m0, m1, m2, m3, m4, m5⟩, HNp⟩ := HQ.out wq f
      clear h
      go_wp2_with fail
      refine (HCut.out wq HNp.out).mono ?_
      rintro e w6 ⟨a6, cp, b6, rfl, n6, i6, f6⟩
      have HN6 := hid (And.intro n6 (fun h => (i6 h).2))
      clear n6 i6
      go_wp2
      exact ⟨rfl, rfl, _, rfl, f6, _, _, _, rfl, HN6.out.1, HN6.out.2⟩
    · intro vals wq f h
      simp only [fillA, fillT, List.setIfInBounds_toArray, List.set_cons_succ, List.set_cons_zero, Option.getD_some, Nat.zero_add, Nat.reduceAdd]
      have h22 : vals 22 = Value.bool true := h 22 (by kernel_rfl)
      rw [h22]
      obtain ⟨⟨k0, k1, k2⟩, ⟨l0, l1, l2, l3, l4, l5⟩, ⟨m0, m1, m2, m3, m4, m5⟩, HNp⟩ := HQ.out wq f
      clear h
      have HB := hid (Blk.new wq #[.int .i64 7, .int .i64 8] 3)
      go_wp2
      exact ⟨rfl, rfl, _, rfl, (Fr.refl _ wq).alloc _, _, rfl, Row.of_blk (l := [7, 8]) HB.out⟩
    · intro vals wq f h
      simp only [fillA, fillT, List.setIfInBounds_toArray, List.set_cons_succ, List.set_cons_zero, Option.getD_some, Nat.zero_add, Nat.reduceAdd]
      obtain ⟨g28, h28, r28⟩ : RowAt wq (vals 28) 2 V78 := h 28 (by kernel_rfl)
      rw [h28]
      have h22 : vals 22 = Value.bool true := h 22 (by kernel_rfl)
      rw [h22]
      obtain ⟨⟨k0, k1, k2⟩, ⟨l0, l1, l2, l3, l4, l5⟩, ⟨m0, m1, m2, m3, m4, m5⟩, HNp⟩ := HQ.out wq f
      clear h
      have HR := hid r28
      clear r28
      go_wp2
      exact ⟨rfl, rfl, _, rfl, Fr.refl _ _, _, _, _, rfl, HR.out.nums (by unfold maxLen; decide), fun _ => HR.out.intB⟩
    · intro vals wq f h
      simp only [fillA, fillT, List.setIfInBounds_toArray, List.set_cons_succ, List.set_cons_zero, Option.getD_some, Nat.zero_add, Nat.reduceAdd]
      obtain ⟨a27, cap27, b27, h27, n27, i27⟩ : PlaneAt wq (vals 27) (2) (1) (2) (CF) := h 27 (by kernel_rfl)
      rw [h27]
      obtain ⟨a29, cap29, b29, h29, n29, i29⟩ : PlaneAt wq (vals 29) (2) (1) (2) (V78) := h 29 (by kernel_rfl)
      rw [h29]
      have h22 : vals 22 = Value.bool true := h 22 (by kernel_rfl)
      rw [h22]
      obtain ⟨⟨k0, k1, k2⟩, ⟨l0, l1, l2, l3, l4, l5⟩, ⟨m0, m1, m2, m3, m4, m5⟩, HNp⟩ := HQ.out wq f
      clear h
      have HNN := hid (And.intro n27 n29)
      clear n27 n29 i27 i29
      go_wp2_with fail
      refine (HS.out wq _ _ _ _ _ _ HNN.out.1 HNN.out.2).mono ?_
      rintro e w6 ⟨rfl, f6⟩
      go_wp2
      exact ⟨rfl, rfl, _, rfl, f6, rfl⟩
    · intro vals wq f h
      simp only [fillA, fillT, List.setIfInBounds_toArray, List.set_cons_succ, List.set_cons_zero, Option.getD_some, Nat.zero_add, Nat.reduceAdd]
      have h22 : vals 22 = Value.bool true := h 22 (by kernel_rfl)
      rw [h22]
      have h30 : vals 30 = Value.bool true := h 30 (by kernel_rfl)
      rw [h30]
      obtain ⟨⟨k0, k1, k2⟩, ⟨l0, l1, l2, l3, l4, l5⟩, ⟨m0, m1, m2, m3, m4, m5⟩, HNp⟩ := HQ.out wq f
      clear h
      go_wp2
      exact ⟨rfl, rfl, _, rfl, Fr.refl _ _, rfl⟩
  case tail =>
    intro vals wq f h
    simp only [List.take_succ_cons, List.take_zero, fillA, fillT, List.setIfInBounds_toArray, List.set_cons_succ, List.set_cons_zero, List.drop_succ_cons, List.drop_zero, Nat.zero_add, Nat.reduceAdd]
    have h31 : vals 31 = Value.bool true := h 31 (by omega)
    rw [h31]
    clear h h31
    gi_wp2
    go_wp2
    go_ret
    exact ⟨rfl, F3.trans' ((Fr.refl _ W3).drew.trans' f)⟩
end Go.Proofs.Ytgmainbgliejhaa
