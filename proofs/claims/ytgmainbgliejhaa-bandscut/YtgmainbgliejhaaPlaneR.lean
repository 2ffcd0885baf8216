/-
  Package plane: a fresh copy of numbers (fresh), Points of a wrong plane, Rows.
-/
import Derived.Test.YtgmainbgliejhaaPlaneE
import Derived.Test.YtgmainbgliejhaaWeaveL
import Derived.Test.YtgmainbgliejhaaCopyN
namespace Go.Proofs.Ytgmainbgliejhaa
open Go.RowKit

/-- A fresh copy of numbers. -/
theorem pfresh_any (w : World) (a : Option Addr) (n cap : Nat) (V : Nat → Int) (b : Nat) (h : Nums w a n cap V b) (hn : n ≤ 1048576) :
    Calls Try.prog 39 #[.slice a n cap] w fun e w' => ∃ g, e = .returned (.slice (some ⟨g, 0, none⟩) n n) ∧ Row w' g n V ∧ w.heap.size ≤ g ∧ Fr (fun _ => False) w w' := by
  have hmk := run_make_row' (P := Try.prog) 36 3 (.int .i64 0) 8 Try.underlying36 Try.info_int rfl .i64 .i64 n (by omega) (by omega)
  obtain ⟨w1, hrun, b1, b3⟩ := copy_nums w a n cap V b h 3
  have HB1 := hid b1
  have HB3 := hid b3
  clear b1 b3 h
  go_enter Try.func39, Try.ntmps39
  go_wp2
  go_ret
  exact ⟨_, rfl, HB1.out, Nat.le_refl _, HB3.out⟩

/-- What Rows gives: its closure over the boxes of the height, of a copy of the numbers, of the width. -/
def RowsMade (w w' : World) (e : Ending) (x y : Int) (n : Nat) (V : Nat → Int) : Prop :=
  ∃ bh bv bw g, e = .returned (.func (.func 40) #[] #[.pointer (some ⟨bh, 0, none⟩), .pointer (some ⟨bv, 0, none⟩), .pointer (some ⟨bw, 0, none⟩)]) ∧ Blk w' bh #[.int .i64 y] 3 ∧ Blk w' bv #[.slice (some ⟨g, 0, none⟩) n n] 36 ∧ Blk w' bw #[.int .i64 x] 3 ∧ Row w' g n V ∧
    w.heap.size ≤ bh ∧ w.heap.size ≤ bv ∧ w.heap.size ≤ bw ∧ w.heap.size ≤ g ∧ bv ≠ bh ∧ bv ≠ bw ∧ bh ≠ bw ∧ g ≠ bh ∧ g ≠ bv ∧ g ≠ bw ∧ Fr (fun _ => False) w w'

set_option maxHeartbeats 1000000 in
theorem prows_bad (X Y : Int) (a : Option Addr) (n cap : Nat) (w : World) (hR : rightP X Y n = false) :
    Calls Try.prog 34 #[.agg #[.int .i64 X, .int .i64 Y, .slice a n cap]] w fun e w' => RowsMade w w' e 0 0 0 (fun _ => 0) := by
  obtain ⟨W, hW⟩ : ∃ W, W = w.alloc (.cells #[.int .i64 X, .int .i64 Y, .slice a n cap] 38) := ⟨_, rfl⟩
  have F0 : Fr (fun _ => False) w W := by rw [hW]; exact (Fr.refl _ w).alloc _
  have O0 : Blk W w.heap.size #[.int .i64 X, .int .i64 Y, .slice a n cap] 38 := by rw [hW]; exact Blk.new _ _ _
  have HW := hid hW
  clear hW
  go_enter Try.func34, Try.ntmps34
  go_wp2_with fail
  rw [← HW.out]
  refine (pright_any X Y a n cap W).mono ?_
  rintro e w1 ⟨rfl, f1⟩
  rw [hR]
  have P0 := O0.fr f1 (fun h => h)
  have HF1 := hid (F0.trans' f1)
  clear O0 F0 f1 HW
  have z0 : w1.cell? ⟨w.heap.size, 0, none⟩ = some (.int .i64 X) := by rw [P0.cell]; rfl
  have z1 : w1.cell? ⟨w.heap.size, 1, none⟩ = some (.int .i64 Y) := by rw [P0.cell]; rfl
  have z2 : w1.cell? ⟨w.heap.size, 2, none⟩ = some (.slice a n cap) := by rw [P0.cell]; rfl
  have zf := P0.thaw
  obtain ⟨W2, hW2⟩ : ∃ W2, W2 = ((w1.setCell ⟨w.heap.size, 0, none⟩ (.int .i64 0)).setCell ⟨w.heap.size, 1, none⟩ (.int .i64 0)).setCell ⟨w.heap.size, 2, none⟩ (.slice none 0 0) := ⟨_, rfl⟩
  have P2 : Blk W2 w.heap.size #[.int .i64 0, .int .i64 0, .slice none 0 0] 38 := by rw [hW2]; simpa using ((P0.set 0 (.int .i64 0)).set 1 (.int .i64 0)).set 2 (.slice none 0 0)
  have HF2 := hid (show Fr (fun _ => False) w W2 by rw [hW2]; exact ((HF1.out.setNew (p := ⟨w.heap.size, 0, none⟩) (Nat.le_refl _) _).setNew (p := ⟨w.heap.size, 1, none⟩) (Nat.le_refl _) _).setNew (p := ⟨w.heap.size, 2, none⟩) (Nat.le_refl _) _)
  have HW2 := hid hW2
  clear hW2 P0
  go_wp2
  rw [← HW2.out]
  clear z0 z1 z2 zf HF1 HW2
  have HLe : Hid (∀ wq, Fr (fun _ => False) W2.drew wq → w.heap.size + 1 ≤ wq.heap.size) := by
    intro wq f
    have h1 := P2.lt
    have h2 : W2.heap.size ≤ wq.heap.size := f.size
    omega
  have HQ : Hid (∀ wq, Fr (fun _ => False) W2.drew wq → wq.cell? ⟨w.heap.size, 0, none⟩ = some (.int .i64 0) ∧ wq.cell? ⟨w.heap.size, 1, none⟩ = some (.int .i64 0) ∧ wq.cell? ⟨w.heap.size, 2, none⟩ = some (.slice none 0 0)) := by
    intro wq f
    have S0 := P2.fr ((Fr.refl _ W2).drew.trans' f) (fun h => h)
    exact ⟨by rw [S0.cell]; rfl, by rw [S0.cell]; rfl, by rw [S0.cell]; rfl⟩
  clear P2
  have HFr : Hid (∀ wq, Fr (fun _ => False) W2.drew wq → Calls Try.prog 39 #[.slice none 0 0] wq fun e w' => ∃ g, e = .returned (.slice (some ⟨g, 0, none⟩) 0 0) ∧ Row w' g 0 (fun _ => 0) ∧ wq.heap.size ≤ g ∧ Fr (fun _ => False) wq w') := fun wq _ => pfresh_any wq none 0 0 (fun _ => 0) 0 (Nums.nil _ _ _) (by omega)
  refine weaveL 10 [.eq (Value.pointer (some ⟨w.heap.size, 0, none⟩)), .eq (Value.int .i64 0), .eq (Value.pointer (some ⟨w.heap.size, 1, none⟩)), .eq (Value.int .i64 0), .eq (Value.pointer (some ⟨w.heap.size, 2, none⟩)), .eq (Value.slice none 0 0), .rowB (w.heap.size + 1) 0 (fun _ => 0), .box (w.heap.size + 1) #[.int .i64 0] 3, .box (w.heap.size + 1) #[.int .i64 0] 3, .box (w.heap.size + 1) #[.slice none 0 0] 36] [(10, 7, .box (w.heap.size + 1) #[.int .i64 0] 3), (11, 8, .box (w.heap.size + 1) #[.int .i64 0] 3), (12, 9, .boxOf 6 (w.heap.size + 1) 36)] [6, 7, 8, 9] (by kernel_rfl) (by kernel_rfl) (by kernel_rfl) (by decide) ?obls ?tail
  case obls =>
    refine ⟨?_, ?_, ?_, ?_, ?_, ?_, ?_, ?_, ?_, ?_, ?_, ?_, ?_, trivial⟩
    · intro vals wq f h
      change wpList _ _ (Out _ _ _) _ _ wq
      simp only [fillA, fillT, List.setIfInBounds_toArray, List.set_cons_succ, List.set_cons_zero, Option.getD_some, Nat.zero_add, Nat.reduceAdd]
      obtain ⟨k0, k1, k2⟩ := HQ.out wq f
      clear h
      go_wp2
      exact ⟨rfl, rfl, _, rfl, Fr.refl _ _, rfl, NewB.no (by decide)⟩
    · intro vals wq f h
      change wpList _ _ (Out _ _ _) _ _ wq
      simp only [fillA, fillT, List.setIfInBounds_toArray, List.set_cons_succ, List.set_cons_zero, Option.getD_some, Nat.zero_add, Nat.reduceAdd]
      have h0 : vals 0 = Value.pointer (some ⟨w.heap.size, 0, none⟩) := LocP.via (q := .eq (Value.pointer (some ⟨w.heap.size, 0, none⟩))) (h 0 (by kernel_rfl)) (by kernel_rfl)
      rw [h0]
      obtain ⟨k0, k1, k2⟩ := HQ.out wq f
      clear h
      go_wp2
      exact ⟨rfl, rfl, _, rfl, Fr.refl _ _, rfl, NewB.no (by decide)⟩
    · intro vals wq f h
      change wpList _ _ (Out _ _ _) _ _ wq
      simp only [fillA, fillT, List.setIfInBounds_toArray, List.set_cons_succ, List.set_cons_zero, Option.getD_some, Nat.zero_add, Nat.reduceAdd]
      obtain ⟨k0, k1, k2⟩ := HQ.out wq f
      clear h
      go_wp2
      exact ⟨rfl, rfl, _, rfl, Fr.refl _ _, rfl, NewB.no (by decide)⟩
    · intro vals wq f h
      change wpList _ _ (Out _ _ _) _ _ wq
      simp only [fillA, fillT, List.setIfInBounds_toArray, List.set_cons_succ, List.set_cons_zero, Option.getD_some, Nat.zero_add, Nat.reduceAdd]
      have h2 : vals 2 = Value.pointer (some ⟨w.heap.size, 1, none⟩) := LocP.via (q := .eq (Value.pointer (some ⟨w.heap.size, 1, none⟩))) (h 2 (by kernel_rfl)) (by kernel_rfl)
      rw [h2]
      obtain ⟨k0, k1, k2⟩ := HQ.out wq f
      clear h
      go_wp2
      exact ⟨rfl, rfl, _, rfl, Fr.refl _ _, rfl, NewB.no (by decide)⟩
    · intro vals wq f h
      change wpList _ _ (Out _ _ _) _ _ wq
      simp only [fillA, fillT, List.setIfInBounds_toArray, List.set_cons_succ, List.set_cons_zero, Option.getD_some, Nat.zero_add, Nat.reduceAdd]
      obtain ⟨k0, k1, k2⟩ := HQ.out wq f
      clear h
      go_wp2
      exact ⟨rfl, rfl, _, rfl, Fr.refl _ _, rfl, NewB.no (by decide)⟩
    · intro vals wq f h
      change wpList _ _ (Out _ _ _) _ _ wq
      simp only [fillA, fillT, List.setIfInBounds_toArray, List.set_cons_succ, List.set_cons_zero, Option.getD_some, Nat.zero_add, Nat.reduceAdd]
      have h4 : vals 4 = Value.pointer (some ⟨w.heap.size, 2, none⟩) := LocP.via (q := .eq (Value.pointer (some ⟨w.heap.size, 2, none⟩))) (h 4 (by kernel_rfl)) (by kernel_rfl)
      rw [h4]
      obtain ⟨k0, k1, k2⟩ := HQ.out wq f
      clear h
      go_wp2
      exact ⟨rfl, rfl, _, rfl, Fr.refl _ _, rfl, NewB.no (by decide)⟩
    · intro vals wq f h
      change wpList _ _ (Out _ _ _) _ _ wq
      simp only [fillA, fillT, List.setIfInBounds_toArray, List.set_cons_succ, List.set_cons_zero, Option.getD_some, Nat.zero_add, Nat.reduceAdd]
      have h5 : vals 5 = Value.slice none 0 0 := LocP.via (q := .eq (Value.slice none 0 0)) (h 5 (by kernel_rfl)) (by kernel_rfl)
      rw [h5]
      obtain ⟨k0, k1, k2⟩ := HQ.out wq f
      clear h
      have HL := HLe.out wq f
      have HFq := hid f
      clear f
      go_wp2_with fail
      refine (HFr.out wq HFq.out).mono ?_
      rintro e w6 ⟨g, rfl, r6, g6, f6⟩
      have HR6 := hid r6
      have HF6 := hid f6
      have hl6 := r6.lt
      clear r6 f6
      go_wp2
      exact ⟨rfl, rfl, _, rfl, HF6.out, ⟨g, rfl, HR6.out, by omega⟩, fun _ => ⟨g, rfl, g6, hl6⟩⟩
    · intro vals wq f h
      change wpList _ _ (Out _ _ _) _ _ wq
      simp only [fillA, fillT, List.setIfInBounds_toArray, List.set_cons_succ, List.set_cons_zero, Option.getD_some, Nat.zero_add, Nat.reduceAdd]
      obtain ⟨k0, k1, k2⟩ := HQ.out wq f
      clear h
      have HB := hid (Blk.new wq #[.int .i64 0] 3)
      have HL := hid (HLe.out wq f)
      go_wp2
      exact ⟨rfl, rfl, _, rfl, (Fr.refl _ wq).alloc _, ⟨_, rfl, HB.out, HL.out⟩, fun _ => ⟨_, rfl, Nat.le_refl _, by simp⟩⟩
    · intro vals wq f h
      change wpList _ _ (Out _ _ _) _ _ wq
      simp only [fillA, fillT, List.setIfInBounds_toArray, List.set_cons_succ, List.set_cons_zero, Option.getD_some, Nat.zero_add, Nat.reduceAdd]
      obtain ⟨k0, k1, k2⟩ := HQ.out wq f
      clear h
      have HB := hid (Blk.new wq #[.int .i64 0] 3)
      have HL := hid (HLe.out wq f)
      go_wp2
      exact ⟨rfl, rfl, _, rfl, (Fr.refl _ wq).alloc _, ⟨_, rfl, HB.out, HL.out⟩, fun _ => ⟨_, rfl, Nat.le_refl _, by simp⟩⟩
    · intro vals wq f h
      change wpList _ _ (Out _ _ _) _ _ wq
      simp only [fillA, fillT, List.setIfInBounds_toArray, List.set_cons_succ, List.set_cons_zero, Option.getD_some, Nat.zero_add, Nat.reduceAdd]
      obtain ⟨k0, k1, k2⟩ := HQ.out wq f
      clear h
      have HB := hid (Blk.new wq #[.slice none 0 0] 36)
      have HL := hid (HLe.out wq f)
      go_wp2
      exact ⟨rfl, rfl, _, rfl, (Fr.refl _ wq).alloc _, ⟨_, rfl, HB.out, HL.out⟩, fun _ => ⟨_, rfl, Nat.le_refl _, by simp⟩⟩
    · intro vals wq f h
      change wpList _ _ (OutN _ _) _ _ wq
      simp only [fillA, fillT, List.setIfInBounds_toArray, List.set_cons_succ, List.set_cons_zero, Nat.zero_add, Nat.reduceAdd]
      obtain ⟨b7, h7, B7, l7⟩ : BoxAt wq (vals 7) (w.heap.size + 1) #[.int .i64 0] 3 := LocP.via (q := .box (w.heap.size + 1) #[.int .i64 0] 3) (h 7 (by kernel_rfl)) (by kernel_rfl)
      rw [h7]
      have h1 : vals 1 = Value.int .i64 0 := LocP.via (q := .eq (Value.int .i64 0)) (h 1 (by kernel_rfl)) (by kernel_rfl)
      rw [h1]
      obtain ⟨k0, k1, k2⟩ := HQ.out wq f
      clear h
      have z : wq.cell? ⟨b7, 0, none⟩ = some (.int .i64 0) := by rw [B7.cell]; rfl
      have y := B7.thaw
      have HB := hid B7
      clear B7 f
      go_wp2
      exact ⟨rfl, rfl, (Fr.refl _ wq).setCell (p := ⟨b7, 0, none⟩) (fun _ => by first | rfl | (rw [h7]; rfl)) _, b7, (by first | rfl | exact h7), by simpa using HB.out.set 0 (.int .i64 0), l7⟩
    · intro vals wq f h
      change wpList _ _ (OutN _ _) _ _ wq
      simp only [fillA, fillT, List.setIfInBounds_toArray, List.set_cons_succ, List.set_cons_zero, Nat.zero_add, Nat.reduceAdd]
      obtain ⟨b8, h8, B8, l8⟩ : BoxAt wq (vals 8) (w.heap.size + 1) #[.int .i64 0] 3 := LocP.via (q := .box (w.heap.size + 1) #[.int .i64 0] 3) (h 8 (by kernel_rfl)) (by kernel_rfl)
      rw [h8]
      have h3 : vals 3 = Value.int .i64 0 := LocP.via (q := .eq (Value.int .i64 0)) (h 3 (by kernel_rfl)) (by kernel_rfl)
      rw [h3]
      obtain ⟨k0, k1, k2⟩ := HQ.out wq f
      clear h
      have z : wq.cell? ⟨b8, 0, none⟩ = some (.int .i64 0) := by rw [B8.cell]; rfl
      have y := B8.thaw
      have HB := hid B8
      clear B8 f
      go_wp2
      exact ⟨rfl, rfl, (Fr.refl _ wq).setCell (p := ⟨b8, 0, none⟩) (fun _ => by first | rfl | (rw [h8]; rfl)) _, b8, (by first | rfl | exact h8), by simpa using HB.out.set 0 (.int .i64 0), l8⟩
    · intro vals wq f h
      change wpList _ _ (OutN _ _) _ _ wq
      simp only [fillA, fillT, List.setIfInBounds_toArray, List.set_cons_succ, List.set_cons_zero, Nat.zero_add, Nat.reduceAdd]
      obtain ⟨b9, h9, B9, l9⟩ : BoxAt wq (vals 9) (w.heap.size + 1) #[.slice none 0 0] 36 := LocP.via (q := .box (w.heap.size + 1) #[.slice none 0 0] 36) (h 9 (by kernel_rfl)) (by kernel_rfl)
      rw [h9]
      obtain ⟨g6, h6, r6, m6⟩ : RowAtB wq (vals 6) (w.heap.size + 1) 0 (fun _ => 0) := LocP.via (q := .rowB (w.heap.size + 1) 0 (fun _ => 0)) (h 6 (by kernel_rfl)) (by kernel_rfl)
      rw [h6]
      obtain ⟨k0, k1, k2⟩ := HQ.out wq f
      clear h
      have z : wq.cell? ⟨b9, 0, none⟩ = some (.slice none 0 0) := by rw [B9.cell]; rfl
      have y := B9.thaw
      have HB := hid B9
      clear B9 f
      go_wp2
      exact ⟨rfl, rfl, (Fr.refl _ wq).setCell (p := ⟨b9, 0, none⟩) (fun _ => by first | rfl | (rw [h9]; rfl)) _, b9, (by first | rfl | exact h9), by simpa [h6] using HB.out.set 0 (.slice (some ⟨g6, 0, none⟩) 0 0), l9⟩
  case tail =>
    intro vals wq f h hA
    simp only [fillA, fillT, List.setIfInBounds_toArray, List.set_cons_succ, List.set_cons_zero, Nat.zero_add, Nat.reduceAdd]
    have ne67 := hA 6 7 (by omega) (by omega) (by decide) (by decide) (by omega)
    have ne68 := hA 6 8 (by omega) (by omega) (by decide) (by decide) (by omega)
    have ne69 := hA 6 9 (by omega) (by omega) (by decide) (by decide) (by omega)
    have ne78 := hA 7 8 (by omega) (by omega) (by decide) (by decide) (by omega)
    have ne79 := hA 7 9 (by omega) (by omega) (by decide) (by decide) (by omega)
    have ne89 := hA 8 9 (by omega) (by omega) (by decide) (by decide) (by omega)
    obtain ⟨g6, h6, r6, m6⟩ : RowAtB wq (vals 6) (w.heap.size + 1) 0 (fun _ => 0) := LocP.via (q := .rowB (w.heap.size + 1) 0 (fun _ => 0)) (h 6 (by omega)) (by kernel_rfl)
    rw [h6]
    obtain ⟨b7, h7, B7, l7⟩ : BoxAt wq (vals 7) (w.heap.size + 1) #[.int .i64 0] 3 := LocP.via (q := .box (w.heap.size + 1) #[.int .i64 0] 3) (h 7 (by omega)) (by kernel_rfl)
    rw [h7]
    obtain ⟨b8, h8, B8, l8⟩ : BoxAt wq (vals 8) (w.heap.size + 1) #[.int .i64 0] 3 := LocP.via (q := .box (w.heap.size + 1) #[.int .i64 0] 3) (h 8 (by omega)) (by kernel_rfl)
    rw [h8]
    obtain ⟨b9, h9, B9, l9⟩ : BoxAt wq (vals 9) (w.heap.size + 1) #[vals 6] 36 := LocP.via (q := .boxOf 6 (w.heap.size + 1) 36) (h 9 (by omega)) (by kernel_rfl)
    rw [h9]
    rw [h6, h7] at ne67
    rw [h6, h8] at ne68
    rw [h6, h9] at ne69
    rw [h7, h8] at ne78
    rw [h7, h9] at ne79
    rw [h8, h9] at ne89
    rw [h6] at B9
    have q67 : g6 ≠ b7 := fun e => ne67 (by rw [e] <;> rfl)
    have q68 : g6 ≠ b8 := fun e => ne68 (by rw [e] <;> rfl)
    have q69 : g6 ≠ b9 := fun e => ne69 (by rw [e] <;> rfl)
    have q78 : b7 ≠ b8 := fun e => ne78 (by rw [e] <;> rfl)
    have q79 : b7 ≠ b9 := fun e => ne79 (by rw [e] <;> rfl)
    have q89 : b8 ≠ b9 := fun e => ne89 (by rw [e] <;> rfl)
    have HR := hid (And.intro B7 (And.intro B8 (And.intro B9 r6)))
    have HFE := hid (HF2.out.trans' ((Fr.refl _ W2).drew.trans' f))
    clear h h6 h7 h8 h9 B7 B8 B9 r6 hA f ne67 ne68 ne69 ne78 ne79 ne89
    go_wp2
    go_ret
    exact ⟨b8, b9, b7, g6, rfl, HR.out.2.1, HR.out.2.2.1, HR.out.1, HR.out.2.2.2, by omega, by omega, by omega, by omega, fun e => q89 e.symm, fun e => q79 e.symm, fun e => q78 e.symm, q68, q69, q67, HFE.out⟩

set_option maxHeartbeats 1000000 in
theorem prows_go (X Y : Int) (a : Option Addr) (n cap : Nat) (V : Nat → Int) (b : Nat) (w : World) (hR : rightP X Y n = true) (hN : Nums w a n cap V b) (hn : n ≤ 1048576) :
    Calls Try.prog 34 #[.agg #[.int .i64 X, .int .i64 Y, .slice a n cap]] w fun e w' => RowsMade w w' e X Y n V := by
  have HN := hid hN
  have HNn := hid hn
  clear hN hn
  obtain ⟨W, hW⟩ : ∃ W, W = w.alloc (.cells #[.int .i64 X, .int .i64 Y, .slice a n cap] 38) := ⟨_, rfl⟩
  have F0 : Fr (fun _ => False) w W := by rw [hW]; exact (Fr.refl _ w).alloc _
  have O0 : Blk W w.heap.size #[.int .i64 X, .int .i64 Y, .slice a n cap] 38 := by rw [hW]; exact Blk.new _ _ _
  have HW := hid hW
  clear hW
  go_enter Try.func34, Try.ntmps34
  go_wp2_with fail
  rw [← HW.out]
  refine (pright_any X Y a n cap W).mono ?_
  rintro e w1 ⟨rfl, f1⟩
  rw [hR]
  have P0 := O0.fr f1 (fun h => h)
  have HF1 := hid (F0.trans' f1)
  clear O0 F0 f1 HW
  obtain ⟨W2, hW2⟩ : ∃ W2, W2 = w1 := ⟨_, rfl⟩
  have P2 := P0
  have HF2 := HF1
  rw [← hW2] at P2 HF2
  clear HF1 P0
  rw [← hW2]
  clear hW2
  go_wp2
  have HLe : Hid (∀ wq, Fr (fun _ => False) W2.drew wq → w.heap.size + 1 ≤ wq.heap.size) := by
    intro wq f
    have h1 := P2.lt
    have h2 : W2.heap.size ≤ wq.heap.size := f.size
    omega
  have HQ : Hid (∀ wq, Fr (fun _ => False) W2.drew wq → wq.cell? ⟨w.heap.size, 0, none⟩ = some (.int .i64 X) ∧ wq.cell? ⟨w.heap.size, 1, none⟩ = some (.int .i64 Y) ∧ wq.cell? ⟨w.heap.size, 2, none⟩ = some (.slice a n cap)) := by
    intro wq f
    have S0 := P2.fr ((Fr.refl _ W2).drew.trans' f) (fun h => h)
    exact ⟨by rw [S0.cell]; rfl, by rw [S0.cell]; rfl, by rw [S0.cell]; rfl⟩
  clear P2
  have HFr : Hid (∀ wq, Fr (fun _ => False) W2.drew wq → Calls Try.prog 39 #[.slice a n cap] wq fun e w' => ∃ g, e = .returned (.slice (some ⟨g, 0, none⟩) n n) ∧ Row w' g n V ∧ wq.heap.size ≤ g ∧ Fr (fun _ => False) wq w') := fun wq f => pfresh_any wq a n cap V b (HN.out.quiet (HF2.out.trans' ((Fr.refl _ W2).drew.trans' f))) HNn.out
  refine weaveL 10 [.eq (Value.pointer (some ⟨w.heap.size, 0, none⟩)), .eq (Value.int .i64 X), .eq (Value.pointer (some ⟨w.heap.size, 1, none⟩)), .eq (Value.int .i64 Y), .eq (Value.pointer (some ⟨w.heap.size, 2, none⟩)), .eq (Value.slice a n cap), .rowB (w.heap.size + 1) n V, .box (w.heap.size + 1) #[.int .i64 0] 3, .box (w.heap.size + 1) #[.int .i64 0] 3, .box (w.heap.size + 1) #[.slice none 0 0] 36] [(10, 7, .box (w.heap.size + 1) #[.int .i64 X] 3), (11, 8, .box (w.heap.size + 1) #[.int .i64 Y] 3), (12, 9, .boxOf 6 (w.heap.size + 1) 36)] [6, 7, 8, 9] (by kernel_rfl) (by kernel_rfl) (by kernel_rfl) (by decide) ?obls ?tail
  case obls =>
    refine ⟨?_, ?_, ?_, ?_, ?_, ?_, ?_, ?_, ?_, ?_, ?_, ?_, ?_, trivial⟩
    · intro vals wq f h
      change wpList _ _ (Out _ _ _) _ _ wq
      simp only [fillA, fillT, List.setIfInBounds_toArray, List.set_cons_succ, List.set_cons_zero, Option.getD_some, Nat.zero_add, Nat.reduceAdd]
      obtain ⟨k0, k1, k2⟩ := HQ.out wq f
      clear h
      go_wp2
      exact ⟨rfl, rfl, _, rfl, Fr.refl _ _, rfl, NewB.no (by decide)⟩
    · intro vals wq f h
      change wpList _ _ (Out _ _ _) _ _ wq
      simp only [fillA, fillT, List.setIfInBounds_toArray, List.set_cons_succ, List.set_cons_zero, Option.getD_some, Nat.zero_add, Nat.reduceAdd]
      have h0 : vals 0 = Value.pointer (some ⟨w.heap.size, 0, none⟩) := LocP.via (q := .eq (Value.pointer (some ⟨w.heap.size, 0, none⟩))) (h 0 (by kernel_rfl)) (by kernel_rfl)
      rw [h0]
      obtain ⟨k0, k1, k2⟩ := HQ.out wq f
      clear h
      go_wp2
      exact ⟨rfl, rfl, _, rfl, Fr.refl _ _, rfl, NewB.no (by decide)⟩
    · intro vals wq f h
      change wpList _ _ (Out _ _ _) _ _ wq
      simp only [fillA, fillT, List.setIfInBounds_toArray, List.set_cons_succ, List.set_cons_zero, Option.getD_some, Nat.zero_add, Nat.reduceAdd]
      obtain ⟨k0, k1, k2⟩ := HQ.out wq f
      clear h
      go_wp2
      exact ⟨rfl, rfl, _, rfl, Fr.refl _ _, rfl, NewB.no (by decide)⟩
    · intro vals wq f h
      change wpList _ _ (Out _ _ _) _ _ wq
      simp only [fillA, fillT, List.setIfInBounds_toArray, List.set_cons_succ, List.set_cons_zero, Option.getD_some, Nat.zero_add, Nat.reduceAdd]
      have h2 : vals 2 = Value.pointer (some ⟨w.heap.size, 1, none⟩) := LocP.via (q := .eq (Value.pointer (some ⟨w.heap.size, 1, none⟩))) (h 2 (by kernel_rfl)) (by kernel_rfl)
      rw [h2]
      obtain ⟨k0, k1, k2⟩ := HQ.out wq f
      clear h
      go_wp2
      exact ⟨rfl, rfl, _, rfl, Fr.refl _ _, rfl, NewB.no (by decide)⟩
    · intro vals wq f h
      change wpList _ _ (Out _ _ _) _ _ wq
      simp only [fillA, fillT, List.setIfInBounds_toArray, List.set_cons_succ, List.set_cons_zero, Option.getD_some, Nat.zero_add, Nat.reduceAdd]
      obtain ⟨k0, k1, k2⟩ := HQ.out wq f
      clear h
      go_wp2
      exact ⟨rfl, rfl, _, rfl, Fr.refl _ _, rfl, NewB.no (by decide)⟩
    · intro vals wq f h
      change wpList _ _ (Out _ _ _) _ _ wq
      simp only [fillA, fillT, List.setIfInBounds_toArray, List.set_cons_succ, List.set_cons_zero, Option.getD_some, Nat.zero_add, Nat.reduceAdd]
      have h4 : vals 4 = Value.pointer (some ⟨w.heap.size, 2, none⟩) := LocP.via (q := .eq (Value.pointer (some ⟨w.heap.size, 2, none⟩))) (h 4 (by kernel_rfl)) (by kernel_rfl)
      rw [h4]
      obtain ⟨k0, k1, k2⟩ := HQ.out wq f
      clear h
      go_wp2
      exact ⟨rfl, rfl, _, rfl, Fr.refl _ _, rfl, NewB.no (by decide)⟩
    · intro vals wq f h
      change wpList _ _ (Out _ _ _) _ _ wq
      simp only [fillA, fillT, List.setIfInBounds_toArray, List.set_cons_succ, List.set_cons_zero, Option.getD_some, Nat.zero_add, Nat.reduceAdd]
      have h5 : vals 5 = Value.slice a n cap := LocP.via (q := .eq (Value.slice a n cap)) (h 5 (by kernel_rfl)) (by kernel_rfl)
      rw [h5]
      obtain ⟨k0, k1, k2⟩ := HQ.out wq f
      clear h
      have HL := HLe.out wq f
      have HFq := hid f
      clear f
      go_wp2_with fail
      refine (HFr.out wq HFq.out).mono ?_
      rintro e w6 ⟨g, rfl, r6, g6, f6⟩
      have HR6 := hid r6
      have HF6 := hid f6
      have hl6 := r6.lt
      clear r6 f6
      go_wp2
      exact ⟨rfl, rfl, _, rfl, HF6.out, ⟨g, rfl, HR6.out, by omega⟩, fun _ => ⟨g, rfl, g6, hl6⟩⟩
    · intro vals wq f h
      change wpList _ _ (Out _ _ _) _ _ wq
      simp only [fillA, fillT, List.setIfInBounds_toArray, List.set_cons_succ, List.set_cons_zero, Option.getD_some, Nat.zero_add, Nat.reduceAdd]
      obtain ⟨k0, k1, k2⟩ := HQ.out wq f
      clear h
      have HB := hid (Blk.new wq #[.int .i64 0] 3)
      have HL := hid (HLe.out wq f)
      go_wp2
      exact ⟨rfl, rfl, _, rfl, (Fr.refl _ wq).alloc _, ⟨_, rfl, HB.out, HL.out⟩, fun _ => ⟨_, rfl, Nat.le_refl _, by simp⟩⟩
    · intro vals wq f h
      change wpList _ _ (Out _ _ _) _ _ wq
      simp only [fillA, fillT, List.setIfInBounds_toArray, List.set_cons_succ, List.set_cons_zero, Option.getD_some, Nat.zero_add, Nat.reduceAdd]
      obtain ⟨k0, k1, k2⟩ := HQ.out wq f
      clear h
      have HB := hid (Blk.new wq #[.int .i64 0] 3)
      have HL := hid (HLe.out wq f)
      go_wp2
      exact ⟨rfl, rfl, _, rfl, (Fr.refl _ wq).alloc _, ⟨_, rfl, HB.out, HL.out⟩, fun _ => ⟨_, rfl, Nat.le_refl _, by simp⟩⟩
    · intro vals wq f h
      change wpList _ _ (Out _ _ _) _ _ wq
      simp only [fillA, fillT, List.setIfInBounds_toArray, List.set_cons_succ, List.set_cons_zero, Option.getD_some, Nat.zero_add, Nat.reduceAdd]
      obtain ⟨k0, k1, k2⟩ := HQ.out wq f
      clear h
      have HB := hid (Blk.new wq #[.slice none 0 0] 36)
      have HL := hid (HLe.out wq f)
      go_wp2
      exact ⟨rfl, rfl, _, rfl, (Fr.refl _ wq).alloc _, ⟨_, rfl, HB.out, HL.out⟩, fun _ => ⟨_, rfl, Nat.le_refl _, by simp⟩⟩
    · intro vals wq f h
      change wpList _ _ (OutN _ _) _ _ wq
      simp only [fillA, fillT, List.setIfInBounds_toArray, List.set_cons_succ, List.set_cons_zero, Nat.zero_add, Nat.reduceAdd]
      obtain ⟨b7, h7, B7, l7⟩ : BoxAt wq (vals 7) (w.heap.size + 1) #[.int .i64 0] 3 := LocP.via (q := .box (w.heap.size + 1) #[.int .i64 0] 3) (h 7 (by kernel_rfl)) (by kernel_rfl)
      rw [h7]
      have h1 : vals 1 = Value.int .i64 X := LocP.via (q := .eq (Value.int .i64 X)) (h 1 (by kernel_rfl)) (by kernel_rfl)
      rw [h1]
      obtain ⟨k0, k1, k2⟩ := HQ.out wq f
      clear h
      have z : wq.cell? ⟨b7, 0, none⟩ = some (.int .i64 0) := by rw [B7.cell]; rfl
      have y := B7.thaw
      have HB := hid B7
      clear B7 f
      go_wp2
      exact ⟨rfl, rfl, (Fr.refl _ wq).setCell (p := ⟨b7, 0, none⟩) (fun _ => by first | rfl | (rw [h7]; rfl)) _, b7, (by first | rfl | exact h7), by simpa using HB.out.set 0 (.int .i64 X), l7⟩
    · intro vals wq f h
      change wpList _ _ (OutN _ _) _ _ wq
      simp only [fillA, fillT, List.setIfInBounds_toArray, List.set_cons_succ, List.set_cons_zero, Nat.zero_add, Nat.reduceAdd]
      obtain ⟨b8, h8, B8, l8⟩ : BoxAt wq (vals 8) (w.heap.size + 1) #[.int .i64 0] 3 := LocP.via (q := .box (w.heap.size + 1) #[.int .i64 0] 3) (h 8 (by kernel_rfl)) (by kernel_rfl)
      rw [h8]
      have h3 : vals 3 = Value.int .i64 Y := LocP.via (q := .eq (Value.int .i64 Y)) (h 3 (by kernel_rfl)) (by kernel_rfl)
      rw [h3]
      obtain ⟨k0, k1, k2⟩ := HQ.out wq f
      clear h
      have z : wq.cell? ⟨b8, 0, none⟩ = some (.int .i64 0) := by rw [B8.cell]; rfl
      have y := B8.thaw
      have HB := hid B8
      clear B8 f
      go_wp2
      exact ⟨rfl, rfl, (Fr.refl _ wq).setCell (p := ⟨b8, 0, none⟩) (fun _ => by first | rfl | (rw [h8]; rfl)) _, b8, (by first | rfl | exact h8), by simpa using HB.out.set 0 (.int .i64 Y), l8⟩
    · intro vals wq f h
      change wpList _ _ (OutN _ _) _ _ wq
      simp only [fillA, fillT, List.setIfInBounds_toArray, List.set_cons_succ, List.set_cons_zero, Nat.zero_add, Nat.reduceAdd]
      obtain ⟨b9, h9, B9, l9⟩ : BoxAt wq (vals 9) (w.heap.size + 1) #[.slice none 0 0] 36 := LocP.via (q := .box (w.heap.size + 1) #[.slice none 0 0] 36) (h 9 (by kernel_rfl)) (by kernel_rfl)
      rw [h9]
      obtain ⟨g6, h6, r6, m6⟩ : RowAtB wq (vals 6) (w.heap.size + 1) n V := LocP.via (q := .rowB (w.heap.size + 1) n V) (h 6 (by kernel_rfl)) (by kernel_rfl)
      rw [h6]
      obtain ⟨k0, k1, k2⟩ := HQ.out wq f
      clear h
      have z : wq.cell? ⟨b9, 0, none⟩ = some (.slice none 0 0) := by rw [B9.cell]; rfl
      have y := B9.thaw
      have HB := hid B9
      clear B9 f
      go_wp2
      exact ⟨rfl, rfl, (Fr.refl _ wq).setCell (p := ⟨b9, 0, none⟩) (fun _ => by first | rfl | (rw [h9]; rfl)) _, b9, (by first | rfl | exact h9), by simpa [h6] using HB.out.set 0 (.slice (some ⟨g6, 0, none⟩) n n), l9⟩
  case tail =>
    intro vals wq f h hA
    simp only [fillA, fillT, List.setIfInBounds_toArray, List.set_cons_succ, List.set_cons_zero, Nat.zero_add, Nat.reduceAdd]
    have ne67 := hA 6 7 (by omega) (by omega) (by decide) (by decide) (by omega)
    have ne68 := hA 6 8 (by omega) (by omega) (by decide) (by decide) (by omega)
    have ne69 := hA 6 9 (by omega) (by omega) (by decide) (by decide) (by omega)
    have ne78 := hA 7 8 (by omega) (by omega) (by decide) (by decide) (by omega)
    have ne79 := hA 7 9 (by omega) (by omega) (by decide) (by decide) (by omega)
    have ne89 := hA 8 9 (by omega) (by omega) (by decide) (by decide) (by omega)
    obtain ⟨g6, h6, r6, m6⟩ : RowAtB wq (vals 6) (w.heap.size + 1) n V := LocP.via (q := .rowB (w.heap.size + 1) n V) (h 6 (by omega)) (by kernel_rfl)
    rw [h6]
    obtain ⟨b7, h7, B7, l7⟩ : BoxAt wq (vals 7) (w.heap.size + 1) #[.int .i64 X] 3 := LocP.via (q := .box (w.heap.size + 1) #[.int .i64 X] 3) (h 7 (by omega)) (by kernel_rfl)
    rw [h7]
    obtain ⟨b8, h8, B8, l8⟩ : BoxAt wq (vals 8) (w.heap.size + 1) #[.int .i64 Y] 3 := LocP.via (q := .box (w.heap.size + 1) #[.int .i64 Y] 3) (h 8 (by omega)) (by kernel_rfl)
    rw [h8]
    obtain ⟨b9, h9, B9, l9⟩ : BoxAt wq (vals 9) (w.heap.size + 1) #[vals 6] 36 := LocP.via (q := .boxOf 6 (w.heap.size + 1) 36) (h 9 (by omega)) (by kernel_rfl)
    rw [h9]
    rw [h6, h7] at ne67
    rw [h6, h8] at ne68
    rw [h6, h9] at ne69
    rw [h7, h8] at ne78
    rw [h7, h9] at ne79
    rw [h8, h9] at ne89
    rw [h6] at B9
    have q67 : g6 ≠ b7 := fun e => ne67 (by rw [e] <;> rfl)
    have q68 : g6 ≠ b8 := fun e => ne68 (by rw [e] <;> rfl)
    have q69 : g6 ≠ b9 := fun e => ne69 (by rw [e] <;> rfl)
    have q78 : b7 ≠ b8 := fun e => ne78 (by rw [e] <;> rfl)
    have q79 : b7 ≠ b9 := fun e => ne79 (by rw [e] <;> rfl)
    have q89 : b8 ≠ b9 := fun e => ne89 (by rw [e] <;> rfl)
    have HR := hid (And.intro B7 (And.intro B8 (And.intro B9 r6)))
    have HFE := hid (HF2.out.trans' ((Fr.refl _ W2).drew.trans' f))
    clear h h6 h7 h8 h9 B7 B8 B9 r6 hA f ne67 ne68 ne69 ne78 ne79 ne89
    go_wp2
    go_ret
    exact ⟨b8, b9, b7, g6, rfl, HR.out.2.1, HR.out.2.2.1, HR.out.1, HR.out.2.2.2, by omega, by omega, by omega, by omega, fun e => q89 e.symm, fun e => q79 e.symm, fun e => q78 e.symm, q68, q69, q67, HFE.out⟩
end Go.Proofs.Ytgmainbgliejhaa
