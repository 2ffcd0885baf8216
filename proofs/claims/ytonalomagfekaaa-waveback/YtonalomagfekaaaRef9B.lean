/-
  The document's answer for layer 9: powers of two, planes that fit, sides that are padded.
-/
import Derived.Test.YtonalomagfekaaaRef7A
import Derived.Test.YtonalomagfekaaaWaveF
namespace Go.Proofs.Ytonalomagfekaaa
open Go.RowKit

/-- Two to a power. -/
theorem rpow_any (n : Nat) (hn : n ≤ 6) (w : World) :
    Calls Try.prog 25 #[.int .i64 (n : Int)] w fun e w' => e = .returned (.int .i64 ((2 ^ n : Nat) : Int)) ∧ w' = w := by
  go_enter Try.func25, Try.ntmps25
  go_wp2
  go_loopw [3, 4] (fun p i wr => ∃ k : Nat, k ≤ n ∧ p = .int .i64 ((2 ^ k : Nat) : Int) ∧ i = .int .i64 (k : Int) ∧ SameW wr w) (fun _ i _ => n - (intOf i).toNat)
  case atStart => exact ⟨0, Nat.zero_le _, rfl, rfl, SameW.rfl⟩
  case round =>
    obtain ⟨k, hk, rfl, rfl, hw⟩ := hrel
    obtain rfl : w = wr := Eq.symm hw
    have hp := (pow_small (k := k) (by omega)).2
    by_cases hlt : k < n
    · have hki : (k : Int) < (n : Int) := by omega
      have HU : Hid (2 ^ (k + 1) = 2 ^ k * 2) := hid (Nat.pow_succ 2 k)
      obtain ⟨u, hu⟩ : ∃ u, u = 2 ^ k := ⟨_, rfl⟩
      rw [← hu] at hp HU ⊢
      clear hu hw
      go_wp2
      go_roundw
      case rel => exact ⟨k + 1, by omega, by rw [HU.out]; go_num, by go_num, SameW.rfl⟩
      case measure => simp [intOf]; omega
    · have hki : ¬ (k : Int) < (n : Int) := by omega
      obtain rfl : k = n := by omega
      obtain ⟨u, hu⟩ : ∃ u, u = 2 ^ k := ⟨_, rfl⟩
      rw [← hu] at hp ⊢
      have HUU := hid hu
      clear hu hw
      go_wp2
      go_ret
      exact ⟨ret_int (by rw [HUU.out]; simp), rfl⟩

set_option maxRecDepth 100000 in
set_option maxHeartbeats 4000000 in
theorem rfits_any (X Y : Int) (a : Option Addr) (n cap : Nat) (d : Int) (w : World) :
    Calls Try.prog 10 #[.agg #[.int .i64 X, .int .i64 Y, .slice a n cap], .int .i64 d] w fun e w' => e = .returned (.bool (fitsP X Y n d)) ∧ Fr (fun _ => False) w w' := by
  obtain ⟨W, hW⟩ : ∃ W, W = w.alloc (.cells #[.int .i64 X, .int .i64 Y, .slice a n cap] 25) := ⟨_, rfl⟩
  have F0 : Fr (fun _ => False) w W := by rw [hW]; exact (Fr.refl _ w).alloc _
  have O0 : Blk W w.heap.size #[.int .i64 X, .int .i64 Y, .slice a n cap] 25 := by rw [hW]; exact Blk.new _ _ _
  have HC : Hid (∀ wq, Fr (fun _ => False) W.drew wq → wq.cell? ⟨w.heap.size, 0, none⟩ = some (.int .i64 X) ∧ wq.cell? ⟨w.heap.size, 1, none⟩ = some (.int .i64 Y) ∧ wq.cell? ⟨w.heap.size, 2, none⟩ = some (.slice a n cap)) := by
    intro wq f
    have B1 := O0.drew.fr f (fun h => h)
    exact ⟨by rw [B1.cell]; rfl, by rw [B1.cell]; rfl, by rw [B1.cell]; rfl⟩
  have HW := hid hW
  clear hW O0
  cases hR : rightP X Y n with
  | false =>
    as_aux_lemma =>
      have HR : Hid (fitsP X Y n d = false) := by show _ = _; simp [fitsP, hR]
      go_enter Try.func10, Try.ntmps10
      go_wp2
      rw [← HW.out]
      refine weaveS 26 [.eq (Value.agg #[.int .i64 X, .int .i64 Y, .slice a n cap]), .eq (Value.bool false), .eq (Value.bool false), .eq (undef), .eq (undef), .eq (Value.bool false), .eq (Value.bool false), .eq (undef), .eq (undef), .eq (Value.bool false), .eq (Value.bool false), .eq (undef), .eq (undef), .eq (undef), .eq (undef), .eq (undef), .eq (undef), .eq (Value.bool false), .eq (Value.bool false), .eq (undef), .eq (undef), .eq (undef), .eq (undef), .eq (undef), .eq (undef), .eq (Value.bool false)] (by kernel_rfl) (by kernel_rfl) ?obls ?tail
      case obls =>
        simp only [List.take_succ_cons, List.take_zero]
        refine ⟨?_, ?_, ?_, ?_, ?_, ?_, ?_, ?_, ?_, ?_, ?_, ?_, ?_, ?_, ?_, ?_, ?_, ?_, ?_, ?_, ?_, ?_, ?_, ?_, ?_, ?_, trivial⟩
        · intro vals wq f h
          simp only [fillA, fillT, List.setIfInBounds_toArray, List.set_cons_succ, List.set_cons_zero, Option.getD_some, Nat.zero_add, Nat.reduceAdd]
          obtain ⟨c0, c1, c2⟩ := HC.out wq f
          clear h
          go_wp2
          exact ⟨rfl, rfl, _, rfl, Fr.refl _ _, rfl⟩
        · intro vals wq f h
          simp only [fillA, fillT, List.setIfInBounds_toArray, List.set_cons_succ, List.set_cons_zero, Option.getD_some, Nat.zero_add, Nat.reduceAdd]
          have h0 : vals 0 = Value.agg #[.int .i64 X, .int .i64 Y, .slice a n cap] := h 0 (by kernel_rfl)
          rw [h0]
          obtain ⟨c0, c1, c2⟩ := HC.out wq f
          clear h
          go_wp2_with fail
          refine (rright_any X Y a n cap wq).mono ?_
          rintro e w6 ⟨rfl, f6⟩
          rw [hR]
          go_wp2
          exact ⟨rfl, rfl, _, rfl, f6, rfl⟩
        · intro vals wq f h
          simp only [fillA, fillT, List.setIfInBounds_toArray, List.set_cons_succ, List.set_cons_zero, Option.getD_some, Nat.zero_add, Nat.reduceAdd]
          have h1 : vals 1 = Value.bool false := h 1 (by kernel_rfl)
          rw [h1]
          obtain ⟨c0, c1, c2⟩ := HC.out wq f
          clear h
          go_wp2
          exact ⟨rfl, rfl, _, rfl, Fr.refl _ _, rfl⟩
        · intro vals wq f h
          simp only [fillA, fillT, List.setIfInBounds_toArray, List.set_cons_succ, List.set_cons_zero, Option.getD_some, Nat.zero_add, Nat.reduceAdd]
          have h2 : vals 2 = Value.bool false := h 2 (by kernel_rfl)
          rw [h2]
          obtain ⟨c0, c1, c2⟩ := HC.out wq f
          clear h
          go_wp2
          exact ⟨rfl, rfl, _, rfl, Fr.refl _ _, rfl⟩
        · intro vals wq f h
          simp only [fillA, fillT, List.setIfInBounds_toArray, List.set_cons_succ, List.set_cons_zero, Option.getD_some, Nat.zero_add, Nat.reduceAdd]
          have h3 : vals 3 = undef := h 3 (by kernel_rfl)
          rw [h3]
          have h2 : vals 2 = Value.bool false := h 2 (by kernel_rfl)
          rw [h2]
          obtain ⟨c0, c1, c2⟩ := HC.out wq f
          clear h
          go_wp2
          exact ⟨rfl, rfl, _, rfl, Fr.refl _ _, rfl⟩
        · intro vals wq f h
          simp only [fillA, fillT, List.setIfInBounds_toArray, List.set_cons_succ, List.set_cons_zero, Option.getD_some, Nat.zero_add, Nat.reduceAdd]
          have h2 : vals 2 = Value.bool false := h 2 (by kernel_rfl)
          rw [h2]
          have h4 : vals 4 = undef := h 4 (by kernel_rfl)
          rw [h4]
          obtain ⟨c0, c1, c2⟩ := HC.out wq f
          clear h
          go_wp2
          exact ⟨rfl, rfl, _, rfl, Fr.refl _ _, rfl⟩
        · intro vals wq f h
          simp only [fillA, fillT, List.setIfInBounds_toArray, List.set_cons_succ, List.set_cons_zero, Option.getD_some, Nat.zero_add, Nat.reduceAdd]
          have h5 : vals 5 = Value.bool false := h 5 (by kernel_rfl)
          rw [h5]
          obtain ⟨c0, c1, c2⟩ := HC.out wq f
          clear h
          go_wp2
          exact ⟨rfl, rfl, _, rfl, Fr.refl _ _, rfl⟩
        · intro vals wq f h
          simp only [fillA, fillT, List.setIfInBounds_toArray, List.set_cons_succ, List.set_cons_zero, Option.getD_some, Nat.zero_add, Nat.reduceAdd]
          have h6 : vals 6 = Value.bool false := h 6 (by kernel_rfl)
          rw [h6]
          obtain ⟨c0, c1, c2⟩ := HC.out wq f
          clear h
          go_wp2
          exact ⟨rfl, rfl, _, rfl, Fr.refl _ _, rfl⟩
        · intro vals wq f h
          simp only [fillA, fillT, List.setIfInBounds_toArray, List.set_cons_succ, List.set_cons_zero, Option.getD_some, Nat.zero_add, Nat.reduceAdd]
          have h7 : vals 7 = undef := h 7 (by kernel_rfl)
          rw [h7]
          have h6 : vals 6 = Value.bool false := h 6 (by kernel_rfl)
          rw [h6]
          obtain ⟨c0, c1, c2⟩ := HC.out wq f
          clear h
          go_wp2
          exact ⟨rfl, rfl, _, rfl, Fr.refl _ _, rfl⟩
        · intro vals wq f h
          simp only [fillA, fillT, List.setIfInBounds_toArray, List.set_cons_succ, List.set_cons_zero, Option.getD_some, Nat.zero_add, Nat.reduceAdd]
          have h6 : vals 6 = Value.bool false := h 6 (by kernel_rfl)
          rw [h6]
          have h8 : vals 8 = undef := h 8 (by kernel_rfl)
          rw [h8]
          obtain ⟨c0, c1, c2⟩ := HC.out wq f
          clear h
          go_wp2
          exact ⟨rfl, rfl, _, rfl, Fr.refl _ _, rfl⟩
        · intro vals wq f h
          simp only [fillA, fillT, List.setIfInBounds_toArray, List.set_cons_succ, List.set_cons_zero, Option.getD_some, Nat.zero_add, Nat.reduceAdd]
          have h9 : vals 9 = Value.bool false := h 9 (by kernel_rfl)
          rw [h9]
          obtain ⟨c0, c1, c2⟩ := HC.out wq f
          clear h
          go_wp2
          exact ⟨rfl, rfl, _, rfl, Fr.refl _ _, rfl⟩
        · intro vals wq f h
          simp only [fillA, fillT, List.setIfInBounds_toArray, List.set_cons_succ, List.set_cons_zero, Option.getD_some, Nat.zero_add, Nat.reduceAdd]
          have h10 : vals 10 = Value.bool false := h 10 (by kernel_rfl)
          rw [h10]
          obtain ⟨c0, c1, c2⟩ := HC.out wq f
          clear h
          go_wp2
          exact ⟨rfl, rfl, _, rfl, Fr.refl _ _, rfl⟩
        · intro vals wq f h
          simp only [fillA, fillT, List.setIfInBounds_toArray, List.set_cons_succ, List.set_cons_zero, Option.getD_some, Nat.zero_add, Nat.reduceAdd]
          have h11 : vals 11 = undef := h 11 (by kernel_rfl)
          rw [h11]
          have h10 : vals 10 = Value.bool false := h 10 (by kernel_rfl)
          rw [h10]
          obtain ⟨c0, c1, c2⟩ := HC.out wq f
          clear h
          go_wp2
          exact ⟨rfl, rfl, _, rfl, Fr.refl _ _, rfl⟩
        · intro vals wq f h
          simp only [fillA, fillT, List.setIfInBounds_toArray, List.set_cons_succ, List.set_cons_zero, Option.getD_some, Nat.zero_add, Nat.reduceAdd]
          have h10 : vals 10 = Value.bool false := h 10 (by kernel_rfl)
          rw [h10]
          obtain ⟨c0, c1, c2⟩ := HC.out wq f
          clear h
          go_wp2
          exact ⟨rfl, rfl, _, rfl, Fr.refl _ _, rfl⟩
        · intro vals wq f h
          simp only [fillA, fillT, List.setIfInBounds_toArray, List.set_cons_succ, List.set_cons_zero, Option.getD_some, Nat.zero_add, Nat.reduceAdd]
          have h13 : vals 13 = undef := h 13 (by kernel_rfl)
          rw [h13]
          have h10 : vals 10 = Value.bool false := h 10 (by kernel_rfl)
          rw [h10]
          obtain ⟨c0, c1, c2⟩ := HC.out wq f
          clear h
          go_wp2
          exact ⟨rfl, rfl, _, rfl, Fr.refl _ _, rfl⟩
        · intro vals wq f h
          simp only [fillA, fillT, List.setIfInBounds_toArray, List.set_cons_succ, List.set_cons_zero, Option.getD_some, Nat.zero_add, Nat.reduceAdd]
          have h12 : vals 12 = undef := h 12 (by kernel_rfl)
          rw [h12]
          have h14 : vals 14 = undef := h 14 (by kernel_rfl)
          rw [h14]
          have h10 : vals 10 = Value.bool false := h 10 (by kernel_rfl)
          rw [h10]
          obtain ⟨c0, c1, c2⟩ := HC.out wq f
          clear h
          go_wp2
          exact ⟨rfl, rfl, _, rfl, Fr.refl _ _, rfl⟩
        · intro vals wq f h
          simp only [fillA, fillT, List.setIfInBounds_toArray, List.set_cons_succ, List.set_cons_zero, Option.getD_some, Nat.zero_add, Nat.reduceAdd]
          have h15 : vals 15 = undef := h 15 (by kernel_rfl)
          rw [h15]
          have h10 : vals 10 = Value.bool false := h 10 (by kernel_rfl)
          rw [h10]
          obtain ⟨c0, c1, c2⟩ := HC.out wq f
          clear h
          go_wp2
          exact ⟨rfl, rfl, _, rfl, Fr.refl _ _, rfl⟩
        · intro vals wq f h
          simp only [fillA, fillT, List.setIfInBounds_toArray, List.set_cons_succ, List.set_cons_zero, Option.getD_some, Nat.zero_add, Nat.reduceAdd]
          have h10 : vals 10 = Value.bool false := h 10 (by kernel_rfl)
          rw [h10]
          have h16 : vals 16 = undef := h 16 (by kernel_rfl)
          rw [h16]
          obtain ⟨c0, c1, c2⟩ := HC.out wq f
          clear h
          go_wp2
          exact ⟨rfl, rfl, _, rfl, Fr.refl _ _, rfl⟩
        · intro vals wq f h
          simp only [fillA, fillT, List.setIfInBounds_toArray, List.set_cons_succ, List.set_cons_zero, Option.getD_some, Nat.zero_add, Nat.reduceAdd]
          have h17 : vals 17 = Value.bool false := h 17 (by kernel_rfl)
          rw [h17]
          obtain ⟨c0, c1, c2⟩ := HC.out wq f
          clear h
          go_wp2
          exact ⟨rfl, rfl, _, rfl, Fr.refl _ _, rfl⟩
        · intro vals wq f h
          simp only [fillA, fillT, List.setIfInBounds_toArray, List.set_cons_succ, List.set_cons_zero, Option.getD_some, Nat.zero_add, Nat.reduceAdd]
          have h18 : vals 18 = Value.bool false := h 18 (by kernel_rfl)
          rw [h18]
          obtain ⟨c0, c1, c2⟩ := HC.out wq f
          clear h
          go_wp2
          exact ⟨rfl, rfl, _, rfl, Fr.refl _ _, rfl⟩
        · intro vals wq f h
          simp only [fillA, fillT, List.setIfInBounds_toArray, List.set_cons_succ, List.set_cons_zero, Option.getD_some, Nat.zero_add, Nat.reduceAdd]
          have h19 : vals 19 = undef := h 19 (by kernel_rfl)
          rw [h19]
          have h18 : vals 18 = Value.bool false := h 18 (by kernel_rfl)
          rw [h18]
          obtain ⟨c0, c1, c2⟩ := HC.out wq f
          clear h
          go_wp2
          exact ⟨rfl, rfl, _, rfl, Fr.refl _ _, rfl⟩
        · intro vals wq f h
          simp only [fillA, fillT, List.setIfInBounds_toArray, List.set_cons_succ, List.set_cons_zero, Option.getD_some, Nat.zero_add, Nat.reduceAdd]
          have h18 : vals 18 = Value.bool false := h 18 (by kernel_rfl)
          rw [h18]
          obtain ⟨c0, c1, c2⟩ := HC.out wq f
          clear h
          go_wp2
          exact ⟨rfl, rfl, _, rfl, Fr.refl _ _, rfl⟩
        · intro vals wq f h
          simp only [fillA, fillT, List.setIfInBounds_toArray, List.set_cons_succ, List.set_cons_zero, Option.getD_some, Nat.zero_add, Nat.reduceAdd]
          have h21 : vals 21 = undef := h 21 (by kernel_rfl)
          rw [h21]
          have h18 : vals 18 = Value.bool false := h 18 (by kernel_rfl)
          rw [h18]
          obtain ⟨c0, c1, c2⟩ := HC.out wq f
          clear h
          go_wp2
          exact ⟨rfl, rfl, _, rfl, Fr.refl _ _, rfl⟩
        · intro vals wq f h
          simp only [fillA, fillT, List.setIfInBounds_toArray, List.set_cons_succ, List.set_cons_zero, Option.getD_some, Nat.zero_add, Nat.reduceAdd]
          have h20 : vals 20 = undef := h 20 (by kernel_rfl)
          rw [h20]
          have h22 : vals 22 = undef := h 22 (by kernel_rfl)
          rw [h22]
          have h18 : vals 18 = Value.bool false := h 18 (by kernel_rfl)
          rw [h18]
          obtain ⟨c0, c1, c2⟩ := HC.out wq f
          clear h
          go_wp2
          exact ⟨rfl, rfl, _, rfl, Fr.refl _ _, rfl⟩
        · intro vals wq f h
          simp only [fillA, fillT, List.setIfInBounds_toArray, List.set_cons_succ, List.set_cons_zero, Option.getD_some, Nat.zero_add, Nat.reduceAdd]
          have h23 : vals 23 = undef := h 23 (by kernel_rfl)
          rw [h23]
          have h18 : vals 18 = Value.bool false := h 18 (by kernel_rfl)
          rw [h18]
          obtain ⟨c0, c1, c2⟩ := HC.out wq f
          clear h
          go_wp2
          exact ⟨rfl, rfl, _, rfl, Fr.refl _ _, rfl⟩
        · intro vals wq f h
          simp only [fillA, fillT, List.setIfInBounds_toArray, List.set_cons_succ, List.set_cons_zero, Option.getD_some, Nat.zero_add, Nat.reduceAdd]
          have h18 : vals 18 = Value.bool false := h 18 (by kernel_rfl)
          rw [h18]
          have h24 : vals 24 = undef := h 24 (by kernel_rfl)
          rw [h24]
          obtain ⟨c0, c1, c2⟩ := HC.out wq f
          clear h
          go_wp2
          exact ⟨rfl, rfl, _, rfl, Fr.refl _ _, rfl⟩
      case tail =>
        intro vals wq f h
        simp only [List.take_succ_cons, List.take_zero, fillA, fillT, List.setIfInBounds_toArray, List.set_cons_succ, List.set_cons_zero, List.drop_succ_cons, List.drop_zero, Nat.zero_add, Nat.reduceAdd]
        have h25 : vals 25 = Value.bool false := h 25 (by omega)
        rw [h25]
        clear h h25
        gi_wp2
        go_wp2
        go_ret
        exact ⟨ret_bool HR.out.symm, F0.trans' ((Fr.refl _ W).drew.trans' f)⟩
  | true =>
    by_cases h0 : 0 ≤ d
    rotate_left
    · as_aux_lemma =>
      have HR : Hid (fitsP X Y n d = false) := by show _ = _; simp [fitsP, deepB, h0]
      have hd0 : decide (0 ≤ d) = false := decide_eq_false h0
      go_enter Try.func10, Try.ntmps10
      go_wp2
      rw [← HW.out]
      refine weaveS 26 [.eq (Value.agg #[.int .i64 X, .int .i64 Y, .slice a n cap]), .eq (Value.bool true), .eq (Value.bool true), .eq (Value.int .i64 d), .eq (Value.bool false), .eq (Value.bool false), .eq (Value.bool false), .eq (undef), .eq (undef), .eq (Value.bool false), .eq (Value.bool false), .eq (undef), .eq (undef), .eq (undef), .eq (undef), .eq (undef), .eq (undef), .eq (Value.bool false), .eq (Value.bool false), .eq (undef), .eq (undef), .eq (undef), .eq (undef), .eq (undef), .eq (undef), .eq (Value.bool false)] (by kernel_rfl) (by kernel_rfl) ?obls ?tail
      case obls =>
        simp only [List.take_succ_cons, List.take_zero]
        refine ⟨?_, ?_, ?_, ?_, ?_, ?_, ?_, ?_, ?_, ?_, ?_, ?_, ?_, ?_, ?_, ?_, ?_, ?_, ?_, ?_, ?_, ?_, ?_, ?_, ?_, ?_, trivial⟩
        · intro vals wq f h
          simp only [fillA, fillT, List.setIfInBounds_toArray, List.set_cons_succ, List.set_cons_zero, Option.getD_some, Nat.zero_add, Nat.reduceAdd]
          obtain ⟨c0, c1, c2⟩ := HC.out wq f
          clear h
          go_wp2
          exact ⟨rfl, rfl, _, rfl, Fr.refl _ _, rfl⟩
        · intro vals wq f h
          simp only [fillA, fillT, List.setIfInBounds_toArray, List.set_cons_succ, List.set_cons_zero, Option.getD_some, Nat.zero_add, Nat.reduceAdd]
          have h0 : vals 0 = Value.agg #[.int .i64 X, .int .i64 Y, .slice a n cap] := h 0 (by kernel_rfl)
          rw [h0]
          obtain ⟨c0, c1, c2⟩ := HC.out wq f
          clear h
          go_wp2_with fail
          refine (rright_any X Y a n cap wq).mono ?_
          rintro e w6 ⟨rfl, f6⟩
          rw [hR]
          go_wp2
          exact ⟨rfl, rfl, _, rfl, f6, rfl⟩
        · intro vals wq f h
          simp only [fillA, fillT, List.setIfInBounds_toArray, List.set_cons_succ, List.set_cons_zero, Option.getD_some, Nat.zero_add, Nat.reduceAdd]
          have h1 : vals 1 = Value.bool true := h 1 (by kernel_rfl)
          rw [h1]
          obtain ⟨c0, c1, c2⟩ := HC.out wq f
          clear h
          go_wp2
          exact ⟨rfl, rfl, _, rfl, Fr.refl _ _, rfl⟩
        · intro vals wq f h
          simp only [fillA, fillT, List.setIfInBounds_toArray, List.set_cons_succ, List.set_cons_zero, Option.getD_some, Nat.zero_add, Nat.reduceAdd]
          have h2 : vals 2 = Value.bool true := h 2 (by kernel_rfl)
          rw [h2]
          obtain ⟨c0, c1, c2⟩ := HC.out wq f
          clear h
          go_wp2
          exact ⟨rfl, rfl, _, rfl, Fr.refl _ _, rfl⟩
        · intro vals wq f h
          simp only [fillA, fillT, List.setIfInBounds_toArray, List.set_cons_succ, List.set_cons_zero, Option.getD_some, Nat.zero_add, Nat.reduceAdd]
          have h3 : vals 3 = Value.int .i64 d := h 3 (by kernel_rfl)
          rw [h3]
          have h2 : vals 2 = Value.bool true := h 2 (by kernel_rfl)
          rw [h2]
          obtain ⟨c0, c1, c2⟩ := HC.out wq f
          clear h
          go_wp2
          exact ⟨rfl, rfl, _, rfl, Fr.refl _ _, rfl⟩
        · intro vals wq f h
          simp only [fillA, fillT, List.setIfInBounds_toArray, List.set_cons_succ, List.set_cons_zero, Option.getD_some, Nat.zero_add, Nat.reduceAdd]
          have h2 : vals 2 = Value.bool true := h 2 (by kernel_rfl)
          rw [h2]
          have h4 : vals 4 = Value.bool false := h 4 (by kernel_rfl)
          rw [h4]
          obtain ⟨c0, c1, c2⟩ := HC.out wq f
          clear h
          go_wp2
          exact ⟨rfl, rfl, _, rfl, Fr.refl _ _, rfl⟩
        · intro vals wq f h
          simp only [fillA, fillT, List.setIfInBounds_toArray, List.set_cons_succ, List.set_cons_zero, Option.getD_some, Nat.zero_add, Nat.reduceAdd]
          have h5 : vals 5 = Value.bool false := h 5 (by kernel_rfl)
          rw [h5]
          obtain ⟨c0, c1, c2⟩ := HC.out wq f
          clear h
          go_wp2
          exact ⟨rfl, rfl, _, rfl, Fr.refl _ _, rfl⟩
        · intro vals wq f h
          simp only [fillA, fillT, List.setIfInBounds_toArray, List.set_cons_succ, List.set_cons_zero, Option.getD_some, Nat.zero_add, Nat.reduceAdd]
          have h6 : vals 6 = Value.bool false := h 6 (by kernel_rfl)
          rw [h6]
          obtain ⟨c0, c1, c2⟩ := HC.out wq f
          clear h
          go_wp2
          exact ⟨rfl, rfl, _, rfl, Fr.refl _ _, rfl⟩
        · intro vals wq f h
          simp only [fillA, fillT, List.setIfInBounds_toArray, List.set_cons_succ, List.set_cons_zero, Option.getD_some, Nat.zero_add, Nat.reduceAdd]
          have h7 : vals 7 = undef := h 7 (by kernel_rfl)
          rw [h7]
          have h6 : vals 6 = Value.bool false := h 6 (by kernel_rfl)
          rw [h6]
          obtain ⟨c0, c1, c2⟩ := HC.out wq f
          clear h
          go_wp2
          exact ⟨rfl, rfl, _, rfl, Fr.refl _ _, rfl⟩
        · intro vals wq f h
          simp only [fillA, fillT, List.setIfInBounds_toArray, List.set_cons_succ, List.set_cons_zero, Option.getD_some, Nat.zero_add, Nat.reduceAdd]
          have h6 : vals 6 = Value.bool false := h 6 (by kernel_rfl)
          rw [h6]
          have h8 : vals 8 = undef := h 8 (by kernel_rfl)
          rw [h8]
          obtain ⟨c0, c1, c2⟩ := HC.out wq f
          clear h
          go_wp2
          exact ⟨rfl, rfl, _, rfl, Fr.refl _ _, rfl⟩
        · intro vals wq f h
          simp only [fillA, fillT, List.setIfInBounds_toArray, List.set_cons_succ, List.set_cons_zero, Option.getD_some, Nat.zero_add, Nat.reduceAdd]
          have h9 : vals 9 = Value.bool false := h 9 (by kernel_rfl)
          rw [h9]
          obtain ⟨c0, c1, c2⟩ := HC.out wq f
          clear h
          go_wp2
          exact ⟨rfl, rfl, _, rfl, Fr.refl _ _, rfl⟩
        · intro vals wq f h
          simp only [fillA, fillT, List.setIfInBounds_toArray, List.set_cons_succ, List.set_cons_zero, Option.getD_some, Nat.zero_add, Nat.reduceAdd]
          have h10 : vals 10 = Value.bool false := h 10 (by kernel_rfl)
          rw [h10]
          obtain ⟨c0, c1, c2⟩ := HC.out wq f
          clear h
          go_wp2
          exact ⟨rfl, rfl, _, rfl, Fr.refl _ _, rfl⟩
        · intro vals wq f h
          simp only [fillA, fillT, List.setIfInBounds_toArray, List.set_cons_succ, List.set_cons_zero, Option.getD_some, Nat.zero_add, Nat.reduceAdd]
          have h11 : vals 11 = undef := h 11 (by kernel_rfl)
          rw [h11]
          have h10 : vals 10 = Value.bool false := h 10 (by kernel_rfl)
          rw [h10]
          obtain ⟨c0, c1, c2⟩ := HC.out wq f
          clear h
          go_wp2
          exact ⟨rfl, rfl, _, rfl, Fr.refl _ _, rfl⟩
        · intro vals wq f h
          simp only [fillA, fillT, List.setIfInBounds_toArray, List.set_cons_succ, List.set_cons_zero, Option.getD_some, Nat.zero_add, Nat.reduceAdd]
          have h10 : vals 10 = Value.bool false := h 10 (by kernel_rfl)
          rw [h10]
          obtain ⟨c0, c1, c2⟩ := HC.out wq f
          clear h
          go_wp2
          exact ⟨rfl, rfl, _, rfl, Fr.refl _ _, rfl⟩
        · intro vals wq f h
          simp only [fillA, fillT, List.setIfInBounds_toArray, List.set_cons_succ, List.set_cons_zero, Option.getD_some, Nat.zero_add, Nat.reduceAdd]
          have h13 : vals 13 = undef := h 13 (by kernel_rfl)
          rw [h13]
          have h10 : vals 10 = Value.bool false := h 10 (by kernel_rfl)
          rw [h10]
          obtain ⟨c0, c1, c2⟩ := HC.out wq f
          clear h
          go_wp2
          exact ⟨rfl, rfl, _, rfl, Fr.refl _ _, rfl⟩
        · intro vals wq f h
          simp only [fillA, fillT, List.setIfInBounds_toArray, List.set_cons_succ, List.set_cons_zero, Option.getD_some, Nat.zero_add, Nat.reduceAdd]
          have h12 : vals 12 = undef := h 12 (by kernel_rfl)
          rw [h12]
          have h14 : vals 14 = undef := h 14 (by kernel_rfl)
          rw [h14]
          have h10 : vals 10 = Value.bool false := h 10 (by kernel_rfl)
          rw [h10]
          obtain ⟨c0, c1, c2⟩ := HC.out wq f
          clear h
          go_wp2
          exact ⟨rfl, rfl, _, rfl, Fr.refl _ _, rfl⟩
        · intro vals wq f h
          simp only [fillA, fillT, List.setIfInBounds_toArray, List.set_cons_succ, List.set_cons_zero, Option.getD_some, Nat.zero_add, Nat.reduceAdd]
          have h15 : vals 15 = undef := h 15 (by kernel_rfl)
          rw [h15]
          have h10 : vals 10 = Value.bool false := h 10 (by kernel_rfl)
          rw [h10]
          obtain ⟨c0, c1, c2⟩ := HC.out wq f
          clear h
          go_wp2
          exact ⟨rfl, rfl, _, rfl, Fr.refl _ _, rfl⟩
        · intro vals wq f h
          simp only [fillA, fillT, List.setIfInBounds_toArray, List.set_cons_succ, List.set_cons_zero, Option.getD_some, Nat.zero_add, Nat.reduceAdd]
          have h10 : vals 10 = Value.bool false := h 10 (by kernel_rfl)
          rw [h10]
          have h16 : vals 16 = undef := h 16 (by kernel_rfl)
          rw [h16]
          obtain ⟨c0, c1, c2⟩ := HC.out wq f
          clear h
          go_wp2
          exact ⟨rfl, rfl, _, rfl, Fr.refl _ _, rfl⟩
        · intro vals wq f h
          simp only [fillA, fillT, List.setIfInBounds_toArray, List.set_cons_succ, List.set_cons_zero, Option.getD_some, Nat.zero_add, Nat.reduceAdd]
          have h17 : vals 17 = Value.bool false := h 17 (by kernel_rfl)
          rw [h17]
          obtain ⟨c0, c1, c2⟩ := HC.out wq f
          clear h
          go_wp2
          exact ⟨rfl, rfl, _, rfl, Fr.refl _ _, rfl⟩
        · intro vals wq f h
          simp only [fillA, fillT, List.setIfInBounds_toArray, List.set_cons_succ, List.set_cons_zero, Option.getD_some, Nat.zero_add, Nat.reduceAdd]
          have h18 : vals 18 = Value.bool false := h 18 (by kernel_rfl)
          rw [h18]
          obtain ⟨c0, c1, c2⟩ := HC.out wq f
          clear h
          go_wp2
          exact ⟨rfl, rfl, _, rfl, Fr.refl _ _, rfl⟩
        · intro vals wq f h
          simp only [fillA, fillT, List.setIfInBounds_toArray, List.set_cons_succ, List.set_cons_zero, Option.getD_some, Nat.zero_add, Nat.reduceAdd]
          have h19 : vals 19 = undef := h 19 (by kernel_rfl)
          rw [h19]
          have h18 : vals 18 = Value.bool false := h 18 (by kernel_rfl)
          rw [h18]
          obtain ⟨c0, c1, c2⟩ := HC.out wq f
          clear h
          go_wp2
          exact ⟨rfl, rfl, _, rfl, Fr.refl _ _, rfl⟩
        · intro vals wq f h
          simp only [fillA, fillT, List.setIfInBounds_toArray, List.set_cons_succ, List.set_cons_zero, Option.getD_some, Nat.zero_add, Nat.reduceAdd]
          have h18 : vals 18 = Value.bool false := h 18 (by kernel_rfl)
          rw [h18]
          obtain ⟨c0, c1, c2⟩ := HC.out wq f
          clear h
          go_wp2
          exact ⟨rfl, rfl, _, rfl, Fr.refl _ _, rfl⟩
        · intro vals wq f h
          simp only [fillA, fillT, List.setIfInBounds_toArray, List.set_cons_succ, List.set_cons_zero, Option.getD_some, Nat.zero_add, Nat.reduceAdd]
          have h21 : vals 21 = undef := h 21 (by kernel_rfl)
          rw [h21]
          have h18 : vals 18 = Value.bool false := h 18 (by kernel_rfl)
          rw [h18]
          obtain ⟨c0, c1, c2⟩ := HC.out wq f
          clear h
          go_wp2
          exact ⟨rfl, rfl, _, rfl, Fr.refl _ _, rfl⟩
        · intro vals wq f h
          simp only [fillA, fillT, List.setIfInBounds_toArray, List.set_cons_succ, List.set_cons_zero, Option.getD_some, Nat.zero_add, Nat.reduceAdd]
          have h20 : vals 20 = undef := h 20 (by kernel_rfl)
          rw [h20]
          have h22 : vals 22 = undef := h 22 (by kernel_rfl)
          rw [h22]
          have h18 : vals 18 = Value.bool false := h 18 (by kernel_rfl)
          rw [h18]
          obtain ⟨c0, c1, c2⟩ := HC.out wq f
          clear h
          go_wp2
          exact ⟨rfl, rfl, _, rfl, Fr.refl _ _, rfl⟩
        · intro vals wq f h
          simp only [fillA, fillT, List.setIfInBounds_toArray, List.set_cons_succ, List.set_cons_zero, Option.getD_some, Nat.zero_add, Nat.reduceAdd]
          have h23 : vals 23 = undef := h 23 (by kernel_rfl)
          rw [h23]
          have h18 : vals 18 = Value.bool false := h 18 (by kernel_rfl)
          rw [h18]
          obtain ⟨c0, c1, c2⟩ := HC.out wq f
          clear h
          go_wp2
          exact ⟨rfl, rfl, _, rfl, Fr.refl _ _, rfl⟩
        · intro vals wq f h
          simp only [fillA, fillT, List.setIfInBounds_toArray, List.set_cons_succ, List.set_cons_zero, Option.getD_some, Nat.zero_add, Nat.reduceAdd]
          have h18 : vals 18 = Value.bool false := h 18 (by kernel_rfl)
          rw [h18]
          have h24 : vals 24 = undef := h 24 (by kernel_rfl)
          rw [h24]
          obtain ⟨c0, c1, c2⟩ := HC.out wq f
          clear h
          go_wp2
          exact ⟨rfl, rfl, _, rfl, Fr.refl _ _, rfl⟩
      case tail =>
        intro vals wq f h
        simp only [List.take_succ_cons, List.take_zero, fillA, fillT, List.setIfInBounds_toArray, List.set_cons_succ, List.set_cons_zero, List.drop_succ_cons, List.drop_zero, Nat.zero_add, Nat.reduceAdd]
        have h25 : vals 25 = Value.bool false := h 25 (by omega)
        rw [h25]
        clear h h25
        gi_wp2
        go_wp2
        go_ret
        exact ⟨ret_bool HR.out.symm, F0.trans' ((Fr.refl _ W).drew.trans' f)⟩
    by_cases h6 : d ≤ 6
    rotate_left
    · as_aux_lemma =>
      have HR : Hid (fitsP X Y n d = false) := by show _ = _; simp [fitsP, deepB, h6]
      have hd0 : decide (0 ≤ d) = true := decide_eq_true h0
      have hd6 : decide (d ≤ 6) = false := decide_eq_false h6
      go_enter Try.func10, Try.ntmps10
      go_wp2
      rw [← HW.out]
      refine weaveS 26 [.eq (Value.agg #[.int .i64 X, .int .i64 Y, .slice a n cap]), .eq (Value.bool true), .eq (Value.bool true), .eq (Value.int .i64 d), .eq (Value.bool true), .eq (Value.bool true), .eq (Value.bool true), .eq (Value.int .i64 d), .eq (Value.bool false), .eq (Value.bool false), .eq (Value.bool false), .eq (undef), .eq (undef), .eq (undef), .eq (undef), .eq (undef), .eq (undef), .eq (Value.bool false), .eq (Value.bool false), .eq (undef), .eq (undef), .eq (undef), .eq (undef), .eq (undef), .eq (undef), .eq (Value.bool false)] (by kernel_rfl) (by kernel_rfl) ?obls ?tail
      case obls =>
        simp only [List.take_succ_cons, List.take_zero]
        refine ⟨?_, ?_, ?_, ?_, ?_, ?_, ?_, ?_, ?_, ?_, ?_, ?_, ?_, ?_, ?_, ?_, ?_, ?_, ?_, ?_, ?_, ?_, ?_, ?_, ?_, ?_, trivial⟩
        · intro vals wq f h
          simp only [fillA, fillT, List.setIfInBounds_toArray, List.set_cons_succ, List.set_cons_zero, Option.getD_some, Nat.zero_add, Nat.reduceAdd]
          obtain ⟨c0, c1, c2⟩ := HC.out wq f
          clear h
          go_wp2
          exact ⟨rfl, rfl, _, rfl, Fr.refl _ _, rfl⟩
        · intro vals wq f h
          simp only [fillA, fillT, List.setIfInBounds_toArray, List.set_cons_succ, List.set_cons_zero, Option.getD_some, Nat.zero_add, Nat.reduceAdd]
          have h0 : vals 0 = Value.agg #[.int .i64 X, .int .i64 Y, .slice a n cap] := h 0 (by kernel_rfl)
          rw [h0]
          obtain ⟨c0, c1, c2⟩ := HC.out wq f
          clear h
          go_wp2_with fail
          refine (rright_any X Y a n cap wq).mono ?_
          rintro e w6 ⟨rfl, f6⟩
          rw [hR]
          go_wp2
          exact ⟨rfl, rfl, _, rfl, f6, rfl⟩
        · intro vals wq f h
          simp only [fillA, fillT, List.setIfInBounds_toArray, List.set_cons_succ, List.set_cons_zero, Option.getD_some, Nat.zero_add, Nat.reduceAdd]
          have h1 : vals 1 = Value.bool true := h 1 (by kernel_rfl)
          rw [h1]
          obtain ⟨c0, c1, c2⟩ := HC.out wq f
          clear h
          go_wp2
          exact ⟨rfl, rfl, _, rfl, Fr.refl _ _, rfl⟩
        · intro vals wq f h
          simp only [fillA, fillT, List.setIfInBounds_toArray, List.set_cons_succ, List.set_cons_zero, Option.getD_some, Nat.zero_add, Nat.reduceAdd]
          have h2 : vals 2 = Value.bool true := h 2 (by kernel_rfl)
          rw [h2]
          obtain ⟨c0, c1, c2⟩ := HC.out wq f
          clear h
          go_wp2
          exact ⟨rfl, rfl, _, rfl, Fr.refl _ _, rfl⟩
        · intro vals wq f h
          simp only [fillA, fillT, List.setIfInBounds_toArray, List.set_cons_succ, List.set_cons_zero, Option.getD_some, Nat.zero_add, Nat.reduceAdd]
          have h3 : vals 3 = Value.int .i64 d := h 3 (by kernel_rfl)
          rw [h3]
          have h2 : vals 2 = Value.bool true := h 2 (by kernel_rfl)
          rw [h2]
          obtain ⟨c0, c1, c2⟩ := HC.out wq f
          clear h
          go_wp2
          exact ⟨rfl, rfl, _, rfl, Fr.refl _ _, rfl⟩
        · intro vals wq f h
          simp only [fillA, fillT, List.setIfInBounds_toArray, List.set_cons_succ, List.set_cons_zero, Option.getD_some, Nat.zero_add, Nat.reduceAdd]
          have h2 : vals 2 = Value.bool true := h 2 (by kernel_rfl)
          rw [h2]
          have h4 : vals 4 = Value.bool true := h 4 (by kernel_rfl)
          rw [h4]
          obtain ⟨c0, c1, c2⟩ := HC.out wq f
          clear h
          go_wp2
          exact ⟨rfl, rfl, _, rfl, Fr.refl _ _, rfl⟩
        · intro vals wq f h
          simp only [fillA, fillT, List.setIfInBounds_toArray, List.set_cons_succ, List.set_cons_zero, Option.getD_some, Nat.zero_add, Nat.reduceAdd]
          have h5 : vals 5 = Value.bool true := h 5 (by kernel_rfl)
          rw [h5]
          obtain ⟨c0, c1, c2⟩ := HC.out wq f
          clear h
          go_wp2
          exact ⟨rfl, rfl, _, rfl, Fr.refl _ _, rfl⟩
        · intro vals wq f h
          simp only [fillA, fillT, List.setIfInBounds_toArray, List.set_cons_succ, List.set_cons_zero, Option.getD_some, Nat.zero_add, Nat.reduceAdd]
          have h6 : vals 6 = Value.bool true := h 6 (by kernel_rfl)
          rw [h6]
          obtain ⟨c0, c1, c2⟩ := HC.out wq f
          clear h
          go_wp2
          exact ⟨rfl, rfl, _, rfl, Fr.refl _ _, rfl⟩
        · intro vals wq f h
          simp only [fillA, fillT, List.setIfInBounds_toArray, List.set_cons_succ, List.set_cons_zero, Option.getD_some, Nat.zero_add, Nat.reduceAdd]
          have h7 : vals 7 = Value.int .i64 d := h 7 (by kernel_rfl)
          rw [h7]
          have h6 : vals 6 = Value.bool true := h 6 (by kernel_rfl)
          rw [h6]
          obtain ⟨c0, c1, c2⟩ := HC.out wq f
          clear h
          go_wp2
          exact ⟨rfl, rfl, _, rfl, Fr.refl _ _, rfl⟩
        · intro vals wq f h
          simp only [fillA, fillT, List.setIfInBounds_toArray, List.set_cons_succ, List.set_cons_zero, Option.getD_some, Nat.zero_add, Nat.reduceAdd]
          have h6 : vals 6 = Value.bool true := h 6 (by kernel_rfl)
          rw [h6]
          have h8 : vals 8 = Value.bool false := h 8 (by kernel_rfl)
          rw [h8]
          obtain ⟨c0, c1, c2⟩ := HC.out wq f
          clear h
          go_wp2
          exact ⟨rfl, rfl, _, rfl, Fr.refl _ _, rfl⟩
        · intro vals wq f h
          simp only [fillA, fillT, List.setIfInBounds_toArray, List.set_cons_succ, List.set_cons_zero, Option.getD_some, Nat.zero_add, Nat.reduceAdd]
          have h9 : vals 9 = Value.bool false := h 9 (by kernel_rfl)
          rw [h9]
          obtain ⟨c0, c1, c2⟩ := HC.out wq f
          clear h
          go_wp2
          exact ⟨rfl, rfl, _, rfl, Fr.refl _ _, rfl⟩
        · intro vals wq f h
          simp only [fillA, fillT, List.setIfInBounds_toArray, List.set_cons_succ, List.set_cons_zero, Option.getD_some, Nat.zero_add, Nat.reduceAdd]
          have h10 : vals 10 = Value.bool false := h 10 (by kernel_rfl)
          rw [h10]
          obtain ⟨c0, c1, c2⟩ := HC.out wq f
          clear h
          go_wp2
          exact ⟨rfl, rfl, _, rfl, Fr.refl _ _, rfl⟩
        · intro vals wq f h
          simp only [fillA, fillT, List.setIfInBounds_toArray, List.set_cons_succ, List.set_cons_zero, Option.getD_some, Nat.zero_add, Nat.reduceAdd]
          have h11 : vals 11 = undef := h 11 (by kernel_rfl)
          rw [h11]
          have h10 : vals 10 = Value.bool false := h 10 (by kernel_rfl)
          rw [h10]
          obtain ⟨c0, c1, c2⟩ := HC.out wq f
          clear h
          go_wp2
          exact ⟨rfl, rfl, _, rfl, Fr.refl _ _, rfl⟩
        · intro vals wq f h
          simp only [fillA, fillT, List.setIfInBounds_toArray, List.set_cons_succ, List.set_cons_zero, Option.getD_some, Nat.zero_add, Nat.reduceAdd]
          have h10 : vals 10 = Value.bool false := h 10 (by kernel_rfl)
          rw [h10]
          obtain ⟨c0, c1, c2⟩ := HC.out wq f
          clear h
          go_wp2
          exact ⟨rfl, rfl, _, rfl, Fr.refl _ _, rfl⟩
        · intro vals wq f h
          simp only [fillA, fillT, List.setIfInBounds_toArray, List.set_cons_succ, List.set_cons_zero, Option.getD_some, Nat.zero_add, Nat.reduceAdd]
          have h13 : vals 13 = undef := h 13 (by kernel_rfl)
          rw [h13]
          have h10 : vals 10 = Value.bool false := h 10 (by kernel_rfl)
          rw [h10]
          obtain ⟨c0, c1, c2⟩ := HC.out wq f
          clear h
          go_wp2
          exact ⟨rfl, rfl, _, rfl, Fr.refl _ _, rfl⟩
        · intro vals wq f h
          simp only [fillA, fillT, List.setIfInBounds_toArray, List.set_cons_succ, List.set_cons_zero, Option.getD_some, Nat.zero_add, Nat.reduceAdd]
          have h12 : vals 12 = undef := h 12 (by kernel_rfl)
          rw [h12]
          have h14 : vals 14 = undef := h 14 (by kernel_rfl)
          rw [h14]
          have h10 : vals 10 = Value.bool false := h 10 (by kernel_rfl)
          rw [h10]
          obtain ⟨c0, c1, c2⟩ := HC.out wq f
          clear h
          go_wp2
          exact ⟨rfl, rfl, _, rfl, Fr.refl _ _, rfl⟩
        · intro vals wq f h
          simp only [fillA, fillT, List.setIfInBounds_toArray, List.set_cons_succ, List.set_cons_zero, Option.getD_some, Nat.zero_add, Nat.reduceAdd]
          have h15 : vals 15 = undef := h 15 (by kernel_rfl)
          rw [h15]
          have h10 : vals 10 = Value.bool false := h 10 (by kernel_rfl)
          rw [h10]
          obtain ⟨c0, c1, c2⟩ := HC.out wq f
          clear h
          go_wp2
          exact ⟨rfl, rfl, _, rfl, Fr.refl _ _, rfl⟩
        · intro vals wq f h
          simp only [fillA, fillT, List.setIfInBounds_toArray, List.set_cons_succ, List.set_cons_zero, Option.getD_some, Nat.zero_add, Nat.reduceAdd]
          have h10 : vals 10 = Value.bool false := h 10 (by kernel_rfl)
          rw [h10]
          have h16 : vals 16 = undef := h 16 (by kernel_rfl)
          rw [h16]
          obtain ⟨c0, c1, c2⟩ := HC.out wq f
          clear h
          go_wp2
          exact ⟨rfl, rfl, _, rfl, Fr.refl _ _, rfl⟩
        · intro vals wq f h
          simp only [fillA, fillT, List.setIfInBounds_toArray, List.set_cons_succ, List.set_cons_zero, Option.getD_some, Nat.zero_add, Nat.reduceAdd]
          have h17 : vals 17 = Value.bool false := h 17 (by kernel_rfl)
          rw [h17]
          obtain ⟨c0, c1, c2⟩ := HC.out wq f
          clear h
          go_wp2
          exact ⟨rfl, rfl, _, rfl, Fr.refl _ _, rfl⟩
        · intro vals wq f h
          simp only [fillA, fillT, List.setIfInBounds_toArray, List.set_cons_succ, List.set_cons_zero, Option.getD_some, Nat.zero_add, Nat.reduceAdd]
          have h18 : vals 18 = Value.bool false := h 18 (by kernel_rfl)
          rw [h18]
          obtain ⟨c0, c1, c2⟩ := HC.out wq f
          clear h
          go_wp2
          exact ⟨rfl, rfl, _, rfl, Fr.refl _ _, rfl⟩
        · intro vals wq f h
          simp only [fillA, fillT, List.setIfInBounds_toArray, List.set_cons_succ, List.set_cons_zero, Option.getD_some, Nat.zero_add, Nat.reduceAdd]
          have h19 : vals 19 = undef := h 19 (by kernel_rfl)
          rw [h19]
          have h18 : vals 18 = Value.bool false := h 18 (by kernel_rfl)
          rw [h18]
          obtain ⟨c0, c1, c2⟩ := HC.out wq f
          clear h
          go_wp2
          exact ⟨rfl, rfl, _, rfl, Fr.refl _ _, rfl⟩
        · intro vals wq f h
          simp only [fillA, fillT, List.setIfInBounds_toArray, List.set_cons_succ, List.set_cons_zero, Option.getD_some, Nat.zero_add, Nat.reduceAdd]
          have h18 : vals 18 = Value.bool false := h 18 (by kernel_rfl)
          rw [h18]
          obtain ⟨c0, c1, c2⟩ := HC.out wq f
          clear h
          go_wp2
          exact ⟨rfl, rfl, _, rfl, Fr.refl _ _, rfl⟩
        · intro vals wq f h
          simp only [fillA, fillT, List.setIfInBounds_toArray, List.set_cons_succ, List.set_cons_zero, Option.getD_some, Nat.zero_add, Nat.reduceAdd]
          have h21 : vals 21 = undef := h 21 (by kernel_rfl)
          rw [h21]
          have h18 : vals 18 = Value.bool false := h 18 (by kernel_rfl)
          rw [h18]
          obtain ⟨c0, c1, c2⟩ := HC.out wq f
          clear h
          go_wp2
          exact ⟨rfl, rfl, _, rfl, Fr.refl _ _, rfl⟩
        · intro vals wq f h
          simp only [fillA, fillT, List.setIfInBounds_toArray, List.set_cons_succ, List.set_cons_zero, Option.getD_some, Nat.zero_add, Nat.reduceAdd]
          have h20 : vals 20 = undef := h 20 (by kernel_rfl)
          rw [h20]
          have h22 : vals 22 = undef := h 22 (by kernel_rfl)
          rw [h22]
          have h18 : vals 18 = Value.bool false := h 18 (by kernel_rfl)
          rw [h18]
          obtain ⟨c0, c1, c2⟩ := HC.out wq f
          clear h
          go_wp2
          exact ⟨rfl, rfl, _, rfl, Fr.refl _ _, rfl⟩
        · intro vals wq f h
          simp only [fillA, fillT, List.setIfInBounds_toArray, List.set_cons_succ, List.set_cons_zero, Option.getD_some, Nat.zero_add, Nat.reduceAdd]
          have h23 : vals 23 = undef := h 23 (by kernel_rfl)
          rw [h23]
          have h18 : vals 18 = Value.bool false := h 18 (by kernel_rfl)
          rw [h18]
          obtain ⟨c0, c1, c2⟩ := HC.out wq f
          clear h
          go_wp2
          exact ⟨rfl, rfl, _, rfl, Fr.refl _ _, rfl⟩
        · intro vals wq f h
          simp only [fillA, fillT, List.setIfInBounds_toArray, List.set_cons_succ, List.set_cons_zero, Option.getD_some, Nat.zero_add, Nat.reduceAdd]
          have h18 : vals 18 = Value.bool false := h 18 (by kernel_rfl)
          rw [h18]
          have h24 : vals 24 = undef := h 24 (by kernel_rfl)
          rw [h24]
          obtain ⟨c0, c1, c2⟩ := HC.out wq f
          clear h
          go_wp2
          exact ⟨rfl, rfl, _, rfl, Fr.refl _ _, rfl⟩
      case tail =>
        intro vals wq f h
        simp only [List.take_succ_cons, List.take_zero, fillA, fillT, List.setIfInBounds_toArray, List.set_cons_succ, List.set_cons_zero, List.drop_succ_cons, List.drop_zero, Nat.zero_add, Nat.reduceAdd]
        have h25 : vals 25 = Value.bool false := h 25 (by omega)
        rw [h25]
        clear h h25
        gi_wp2
        go_wp2
        go_ret
        exact ⟨ret_bool HR.out.symm, F0.trans' ((Fr.refl _ W).drew.trans' f)⟩
    obtain ⟨k, rfl⟩ := Int.eq_ofNat_of_zero_le h0
    have hk : k ≤ 6 := by omega
    have hd : deepB (k : Int) = true := deepB_iff.2 ⟨by omega, by omega⟩
    obtain ⟨x, y, rfl, rfl, hx1, hx2, hy1, hy2, hn⟩ := rightP_nat hR
    obtain ⟨hu1, hu2⟩ := pow_small hk
    have HR : Hid (fitsP x y n k = (decide (x % 2 ^ k = 0) && decide (y % 2 ^ k = 0))) := by
      show _ = _
      rw [fitsP, hd, hR, Int.toNat_natCast]
      have e2 : ((2 : Int) ^ k) = ((2 ^ k : Nat) : Int) := by simp
      rw [e2, ← Int.natCast_emod, ← Int.natCast_emod]
      simp only [Bool.true_and]
      congr 1 <;> (apply decide_eq_decide.2; omega)
    have HPow := hid (fun w => rpow_any k hk w)
    obtain ⟨u, hu⟩ : ∃ u, u = 2 ^ k := ⟨_, rfl⟩
    rw [← hu] at hu1 hu2 HR HPow
    obtain ⟨cx, hcx⟩ : ∃ cx, cx = x % u := ⟨_, rfl⟩
    obtain ⟨cy, hcy⟩ : ∃ cy, cy = y % u := ⟨_, rfl⟩
    have hX : (x : Int) % (u : Int) = (cx : Int) := by rw [hcx, Int.natCast_emod]
    have hY : (y : Int) % (u : Int) = (cy : Int) := by rw [hcy, Int.natCast_emod]
    rw [← hcx, ← hcy] at HR
    have hu0 : ¬ (u : Int) = 0 := by omega
    have hd0 : decide (0 ≤ (k : Int)) = true := decide_eq_true h0
    have hd6 : decide ((k : Int) ≤ 6) = true := decide_eq_true h6
    clear hcx hcy hu hn hd
    by_cases hz : cx = 0
    rotate_left
    · as_aux_lemma =>
      have hb : ((cx : Int) == 0) = false := by rw [nat_beq0]; simpa using hz
      have HR : Hid (fitsP x y n k = false) := by show _ = _; rw [HR.out]; simp [hz]
      clear hz
      go_enter Try.func10, Try.ntmps10
      go_wp2
      rw [← HW.out]
      refine weaveS 26 [.eq (Value.agg #[.int .i64 (x : Int), .int .i64 (y : Int), .slice a n cap]), .eq (Value.bool true), .eq (Value.bool true), .eq (Value.int .i64 (k : Int)), .eq (Value.bool true), .eq (Value.bool true), .eq (Value.bool true), .eq (Value.int .i64 (k : Int)), .eq (Value.bool true), .eq (Value.bool true), .eq (Value.bool true), .eq (Value.pointer (some ⟨w.heap.size, 0, none⟩)), .eq (Value.int .i64 (x : Int)), .eq (Value.int .i64 (k : Int)), .eq (Value.int .i64 (u : Int)), .eq (Value.int .i64 (cx : Int)), .eq (Value.bool false), .eq (Value.bool false), .eq (Value.bool false), .eq (undef), .eq (undef), .eq (undef), .eq (undef), .eq (undef), .eq (undef), .eq (Value.bool false)] (by kernel_rfl) (by kernel_rfl) ?obls ?tail
      case obls =>
        simp only [List.take_succ_cons, List.take_zero]
        refine ⟨?_, ?_, ?_, ?_, ?_, ?_, ?_, ?_, ?_, ?_, ?_, ?_, ?_, ?_, ?_, ?_, ?_, ?_, ?_, ?_, ?_, ?_, ?_, ?_, ?_, ?_, trivial⟩
        · intro vals wq f h
          simp only [fillA, fillT, List.setIfInBounds_toArray, List.set_cons_succ, List.set_cons_zero, Option.getD_some, Nat.zero_add, Nat.reduceAdd]
          obtain ⟨c0, c1, c2⟩ := HC.out wq f
          clear h
          go_wp2
          exact ⟨rfl, rfl, _, rfl, Fr.refl _ _, rfl⟩
        · intro vals wq f h
          simp only [fillA, fillT, List.setIfInBounds_toArray, List.set_cons_succ, List.set_cons_zero, Option.getD_some, Nat.zero_add, Nat.reduceAdd]
          have h0 : vals 0 = Value.agg #[.int .i64 (x : Int), .int .i64 (y : Int), .slice a n cap] := h 0 (by kernel_rfl)
          rw [h0]
          obtain ⟨c0, c1, c2⟩ := HC.out wq f
          clear h
          go_wp2_with fail
          refine (rright_any (x : Int) (y : Int) a n cap wq).mono ?_
          rintro e w6 ⟨rfl, f6⟩
          rw [hR]
          go_wp2
          exact ⟨rfl, rfl, _, rfl, f6, rfl⟩
        · intro vals wq f h
          simp only [fillA, fillT, List.setIfInBounds_toArray, List.set_cons_succ, List.set_cons_zero, Option.getD_some, Nat.zero_add, Nat.reduceAdd]
          have h1 : vals 1 = Value.bool true := h 1 (by kernel_rfl)
          rw [h1]
          obtain ⟨c0, c1, c2⟩ := HC.out wq f
          clear h
          go_wp2
          exact ⟨rfl, rfl, _, rfl, Fr.refl _ _, rfl⟩
        · intro vals wq f h
          simp only [fillA, fillT, List.setIfInBounds_toArray, List.set_cons_succ, List.set_cons_zero, Option.getD_some, Nat.zero_add, Nat.reduceAdd]
          have h2 : vals 2 = Value.bool true := h 2 (by kernel_rfl)
          rw [h2]
          obtain ⟨c0, c1, c2⟩ := HC.out wq f
          clear h
          go_wp2
          exact ⟨rfl, rfl, _, rfl, Fr.refl _ _, rfl⟩
        · intro vals wq f h
          simp only [fillA, fillT, List.setIfInBounds_toArray, List.set_cons_succ, List.set_cons_zero, Option.getD_some, Nat.zero_add, Nat.reduceAdd]
          have h3 : vals 3 = Value.int .i64 (k : Int) := h 3 (by kernel_rfl)
          rw [h3]
          have h2 : vals 2 = Value.bool true := h 2 (by kernel_rfl)
          rw [h2]
          obtain ⟨c0, c1, c2⟩ := HC.out wq f
          clear h
          go_wp2
          exact ⟨rfl, rfl, _, rfl, Fr.refl _ _, rfl⟩
        · intro vals wq f h
          simp only [fillA, fillT, List.setIfInBounds_toArray, List.set_cons_succ, List.set_cons_zero, Option.getD_some, Nat.zero_add, Nat.reduceAdd]
          have h2 : vals 2 = Value.bool true := h 2 (by kernel_rfl)
          rw [h2]
          have h4 : vals 4 = Value.bool true := h 4 (by kernel_rfl)
          rw [h4]
          obtain ⟨c0, c1, c2⟩ := HC.out wq f
          clear h
          go_wp2
          exact ⟨rfl, rfl, _, rfl, Fr.refl _ _, rfl⟩
        · intro vals wq f h
          simp only [fillA, fillT, List.setIfInBounds_toArray, List.set_cons_succ, List.set_cons_zero, Option.getD_some, Nat.zero_add, Nat.reduceAdd]
          have h5 : vals 5 = Value.bool true := h 5 (by kernel_rfl)
          rw [h5]
          obtain ⟨c0, c1, c2⟩ := HC.out wq f
          clear h
          go_wp2
          exact ⟨rfl, rfl, _, rfl, Fr.refl _ _, rfl⟩
        · intro vals wq f h
          simp only [fillA, fillT, List.setIfInBounds_toArray, List.set_cons_succ, List.set_cons_zero, Option.getD_some, Nat.zero_add, Nat.reduceAdd]
          have h6 : vals 6 = Value.bool true := h 6 (by kernel_rfl)
          rw [h6]
          obtain ⟨c0, c1, c2⟩ := HC.out wq f
          clear h
          go_wp2
          exact ⟨rfl, rfl, _, rfl, Fr.refl _ _, rfl⟩
        · intro vals wq f h
          simp only [fillA, fillT, List.setIfInBounds_toArray, List.set_cons_succ, List.set_cons_zero, Option.getD_some, Nat.zero_add, Nat.reduceAdd]
          have h7 : vals 7 = Value.int .i64 (k : Int) := h 7 (by kernel_rfl)
          rw [h7]
          have h6 : vals 6 = Value.bool true := h 6 (by kernel_rfl)
          rw [h6]
          obtain ⟨c0, c1, c2⟩ := HC.out wq f
          clear h
          go_wp2
          exact ⟨rfl, rfl, _, rfl, Fr.refl _ _, rfl⟩
        · intro vals wq f h
          simp only [fillA, fillT, List.setIfInBounds_toArray, List.set_cons_succ, List.set_cons_zero, Option.getD_some, Nat.zero_add, Nat.reduceAdd]
          have h6 : vals 6 = Value.bool true := h 6 (by kernel_rfl)
          rw [h6]
          have h8 : vals 8 = Value.bool true := h 8 (by kernel_rfl)
          rw [h8]
          obtain ⟨c0, c1, c2⟩ := HC.out wq f
          clear h
          go_wp2
          exact ⟨rfl, rfl, _, rfl, Fr.refl _ _, rfl⟩
        · intro vals wq f h
          simp only [fillA, fillT, List.setIfInBounds_toArray, List.set_cons_succ, List.set_cons_zero, Option.getD_some, Nat.zero_add, Nat.reduceAdd]
          have h9 : vals 9 = Value.bool true := h 9 (by kernel_rfl)
          rw [h9]
          obtain ⟨c0, c1, c2⟩ := HC.out wq f
          clear h
          go_wp2
          exact ⟨rfl, rfl, _, rfl, Fr.refl _ _, rfl⟩
        · intro vals wq f h
          simp only [fillA, fillT, List.setIfInBounds_toArray, List.set_cons_succ, List.set_cons_zero, Option.getD_some, Nat.zero_add, Nat.reduceAdd]
          have h10 : vals 10 = Value.bool true := h 10 (by kernel_rfl)
          rw [h10]
          obtain ⟨c0, c1, c2⟩ := HC.out wq f
          clear h
          go_wp2
          exact ⟨rfl, rfl, _, rfl, Fr.refl _ _, rfl⟩
        · intro vals wq f h
          simp only [fillA, fillT, List.setIfInBounds_toArray, List.set_cons_succ, List.set_cons_zero, Option.getD_some, Nat.zero_add, Nat.reduceAdd]
          have h11 : vals 11 = Value.pointer (some ⟨w.heap.size, 0, none⟩) := h 11 (by kernel_rfl)
          rw [h11]
          have h10 : vals 10 = Value.bool true := h 10 (by kernel_rfl)
          rw [h10]
          obtain ⟨c0, c1, c2⟩ := HC.out wq f
          clear h
          go_wp2
          exact ⟨rfl, rfl, _, rfl, Fr.refl _ _, rfl⟩
        · intro vals wq f h
          simp only [fillA, fillT, List.setIfInBounds_toArray, List.set_cons_succ, List.set_cons_zero, Option.getD_some, Nat.zero_add, Nat.reduceAdd]
          have h10 : vals 10 = Value.bool true := h 10 (by kernel_rfl)
          rw [h10]
          obtain ⟨c0, c1, c2⟩ := HC.out wq f
          clear h
          go_wp2
          exact ⟨rfl, rfl, _, rfl, Fr.refl _ _, rfl⟩
        · intro vals wq f h
          simp only [fillA, fillT, List.setIfInBounds_toArray, List.set_cons_succ, List.set_cons_zero, Option.getD_some, Nat.zero_add, Nat.reduceAdd]
          have h13 : vals 13 = Value.int .i64 (k : Int) := h 13 (by kernel_rfl)
          rw [h13]
          have h10 : vals 10 = Value.bool true := h 10 (by kernel_rfl)
          rw [h10]
          obtain ⟨c0, c1, c2⟩ := HC.out wq f
          clear h
          go_wp2_with fail
          refine (HPow.out wq).mono ?_
          rintro e w6 ⟨rfl, rfl⟩
          go_wp2
          exact ⟨rfl, rfl, _, rfl, Fr.refl _ _, rfl⟩
        · intro vals wq f h
          simp only [fillA, fillT, List.setIfInBounds_toArray, List.set_cons_succ, List.set_cons_zero, Option.getD_some, Nat.zero_add, Nat.reduceAdd]
          have h12 : vals 12 = Value.int .i64 (x : Int) := h 12 (by kernel_rfl)
          rw [h12]
          have h14 : vals 14 = Value.int .i64 (u : Int) := h 14 (by kernel_rfl)
          rw [h14]
          have h10 : vals 10 = Value.bool true := h 10 (by kernel_rfl)
          rw [h10]
          obtain ⟨c0, c1, c2⟩ := HC.out wq f
          clear h
          go_wp2
          exact ⟨rfl, rfl, _, rfl, Fr.refl _ _, show Value.int .i64 ((x : Int) % (u : Int)) = Value.int .i64 (cx : Int) by rw [hX]⟩
        · intro vals wq f h
          simp only [fillA, fillT, List.setIfInBounds_toArray, List.set_cons_succ, List.set_cons_zero, Option.getD_some, Nat.zero_add, Nat.reduceAdd]
          have h15 : vals 15 = Value.int .i64 (cx : Int) := h 15 (by kernel_rfl)
          rw [h15]
          have h10 : vals 10 = Value.bool true := h 10 (by kernel_rfl)
          rw [h10]
          obtain ⟨c0, c1, c2⟩ := HC.out wq f
          clear h
          go_wp2
          exact ⟨rfl, rfl, _, rfl, Fr.refl _ _, rfl⟩
        · intro vals wq f h
          simp only [fillA, fillT, List.setIfInBounds_toArray, List.set_cons_succ, List.set_cons_zero, Option.getD_some, Nat.zero_add, Nat.reduceAdd]
          have h10 : vals 10 = Value.bool true := h 10 (by kernel_rfl)
          rw [h10]
          have h16 : vals 16 = Value.bool false := h 16 (by kernel_rfl)
          rw [h16]
          obtain ⟨c0, c1, c2⟩ := HC.out wq f
          clear h
          go_wp2
          exact ⟨rfl, rfl, _, rfl, Fr.refl _ _, rfl⟩
        · intro vals wq f h
          simp only [fillA, fillT, List.setIfInBounds_toArray, List.set_cons_succ, List.set_cons_zero, Option.getD_some, Nat.zero_add, Nat.reduceAdd]
          have h17 : vals 17 = Value.bool false := h 17 (by kernel_rfl)
          rw [h17]
          obtain ⟨c0, c1, c2⟩ := HC.out wq f
          clear h
          go_wp2
          exact ⟨rfl, rfl, _, rfl, Fr.refl _ _, rfl⟩
        · intro vals wq f h
          simp only [fillA, fillT, List.setIfInBounds_toArray, List.set_cons_succ, List.set_cons_zero, Option.getD_some, Nat.zero_add, Nat.reduceAdd]
          have h18 : vals 18 = Value.bool false := h 18 (by kernel_rfl)
          rw [h18]
          obtain ⟨c0, c1, c2⟩ := HC.out wq f
          clear h
          go_wp2
          exact ⟨rfl, rfl, _, rfl, Fr.refl _ _, rfl⟩
        · intro vals wq f h
          simp only [fillA, fillT, List.setIfInBounds_toArray, List.set_cons_succ, List.set_cons_zero, Option.getD_some, Nat.zero_add, Nat.reduceAdd]
          have h19 : vals 19 = undef := h 19 (by kernel_rfl)
          rw [h19]
          have h18 : vals 18 = Value.bool false := h 18 (by kernel_rfl)
          rw [h18]
          obtain ⟨c0, c1, c2⟩ := HC.out wq f
          clear h
          go_wp2
          exact ⟨rfl, rfl, _, rfl, Fr.refl _ _, rfl⟩
        · intro vals wq f h
          simp only [fillA, fillT, List.setIfInBounds_toArray, List.set_cons_succ, List.set_cons_zero, Option.getD_some, Nat.zero_add, Nat.reduceAdd]
          have h18 : vals 18 = Value.bool false := h 18 (by kernel_rfl)
          rw [h18]
          obtain ⟨c0, c1, c2⟩ := HC.out wq f
          clear h
          go_wp2
          exact ⟨rfl, rfl, _, rfl, Fr.refl _ _, rfl⟩
        · intro vals wq f h
          simp only [fillA, fillT, List.setIfInBounds_toArray, List.set_cons_succ, List.set_cons_zero, Option.getD_some, Nat.zero_add, Nat.reduceAdd]
          have h21 : vals 21 = undef := h 21 (by kernel_rfl)
          rw [h21]
          have h18 : vals 18 = Value.bool false := h 18 (by kernel_rfl)
          rw [h18]
          obtain ⟨c0, c1, c2⟩ := HC.out wq f
          clear h
          go_wp2
          exact ⟨rfl, rfl, _, rfl, Fr.refl _ _, rfl⟩
        · intro vals wq f h
          simp only [fillA, fillT, List.setIfInBounds_toArray, List.set_cons_succ, List.set_cons_zero, Option.getD_some, Nat.zero_add, Nat.reduceAdd]
          have h20 : vals 20 = undef := h 20 (by kernel_rfl)
          rw [h20]
          have h22 : vals 22 = undef := h 22 (by kernel_rfl)
          rw [h22]
          have h18 : vals 18 = Value.bool false := h 18 (by kernel_rfl)
          rw [h18]
          obtain ⟨c0, c1, c2⟩ := HC.out wq f
          clear h
          go_wp2
          exact ⟨rfl, rfl, _, rfl, Fr.refl _ _, rfl⟩
        · intro vals wq f h
          simp only [fillA, fillT, List.setIfInBounds_toArray, List.set_cons_succ, List.set_cons_zero, Option.getD_some, Nat.zero_add, Nat.reduceAdd]
          have h23 : vals 23 = undef := h 23 (by kernel_rfl)
          rw [h23]
          have h18 : vals 18 = Value.bool false := h 18 (by kernel_rfl)
          rw [h18]
          obtain ⟨c0, c1, c2⟩ := HC.out wq f
          clear h
          go_wp2
          exact ⟨rfl, rfl, _, rfl, Fr.refl _ _, rfl⟩
        · intro vals wq f h
          simp only [fillA, fillT, List.setIfInBounds_toArray, List.set_cons_succ, List.set_cons_zero, Option.getD_some, Nat.zero_add, Nat.reduceAdd]
          have h18 : vals 18 = Value.bool false := h 18 (by kernel_rfl)
          rw [h18]
          have h24 : vals 24 = undef := h 24 (by kernel_rfl)
          rw [h24]
          obtain ⟨c0, c1, c2⟩ := HC.out wq f
          clear h
          go_wp2
          exact ⟨rfl, rfl, _, rfl, Fr.refl _ _, rfl⟩
      case tail =>
        intro vals wq f h
        simp only [List.take_succ_cons, List.take_zero, fillA, fillT, List.setIfInBounds_toArray, List.set_cons_succ, List.set_cons_zero, List.drop_succ_cons, List.drop_zero, Nat.zero_add, Nat.reduceAdd]
        have h25 : vals 25 = Value.bool false := h 25 (by omega)
        rw [h25]
        clear h h25
        gi_wp2
        go_wp2
        go_ret
        exact ⟨ret_bool HR.out.symm, F0.trans' ((Fr.refl _ W).drew.trans' f)⟩
    · as_aux_lemma =>
      have hb : ((cx : Int) == 0) = true := by rw [nat_beq0]; simpa using hz
      have HR : Hid (fitsP x y n k = ((cy : Int) == 0)) := by show _ = _; rw [HR.out, nat_beq0]; simp [hz]
      clear hz
      go_enter Try.func10, Try.ntmps10
      go_wp2
      rw [← HW.out]
      refine weaveS 26 [.eq (Value.agg #[.int .i64 (x : Int), .int .i64 (y : Int), .slice a n cap]), .eq (Value.bool true), .eq (Value.bool true), .eq (Value.int .i64 (k : Int)), .eq (Value.bool true), .eq (Value.bool true), .eq (Value.bool true), .eq (Value.int .i64 (k : Int)), .eq (Value.bool true), .eq (Value.bool true), .eq (Value.bool true), .eq (Value.pointer (some ⟨w.heap.size, 0, none⟩)), .eq (Value.int .i64 (x : Int)), .eq (Value.int .i64 (k : Int)), .eq (Value.int .i64 (u : Int)), .eq (Value.int .i64 (cx : Int)), .eq (Value.bool true), .eq (Value.bool true), .eq (Value.bool true), .eq (Value.pointer (some ⟨w.heap.size, 1, none⟩)), .eq (Value.int .i64 (y : Int)), .eq (Value.int .i64 (k : Int)), .eq (Value.int .i64 (u : Int)), .eq (Value.int .i64 (cy : Int)), .eq (Value.bool ((cy : Int) == 0)), .eq (Value.bool ((cy : Int) == 0))] (by kernel_rfl) (by kernel_rfl) ?obls ?tail
      case obls =>
        simp only [List.take_succ_cons, List.take_zero]
        refine ⟨?_, ?_, ?_, ?_, ?_, ?_, ?_, ?_, ?_, ?_, ?_, ?_, ?_, ?_, ?_, ?_, ?_, ?_, ?_, ?_, ?_, ?_, ?_, ?_, ?_, ?_, trivial⟩
        · intro vals wq f h
          simp only [fillA, fillT, List.setIfInBounds_toArray, List.set_cons_succ, List.set_cons_zero, Option.getD_some, Nat.zero_add, Nat.reduceAdd]
          obtain ⟨c0, c1, c2⟩ := HC.out wq f
          clear h
          go_wp2
          exact ⟨rfl, rfl, _, rfl, Fr.refl _ _, rfl⟩
        · intro vals wq f h
          simp only [fillA, fillT, List.setIfInBounds_toArray, List.set_cons_succ, List.set_cons_zero, Option.getD_some, Nat.zero_add, Nat.reduceAdd]
          have h0 : vals 0 = Value.agg #[.int .i64 (x : Int), .int .i64 (y : Int), .slice a n cap] := h 0 (by kernel_rfl)
          rw [h0]
          obtain ⟨c0, c1, c2⟩ := HC.out wq f
          clear h
          go_wp2_with fail
          refine (rright_any (x : Int) (y : Int) a n cap wq).mono ?_
          rintro e w6 ⟨rfl, f6⟩
          rw [hR]
          go_wp2
          exact ⟨rfl, rfl, _, rfl, f6, rfl⟩
        · intro vals wq f h
          simp only [fillA, fillT, List.setIfInBounds_toArray, List.set_cons_succ, List.set_cons_zero, Option.getD_some, Nat.zero_add, Nat.reduceAdd]
          have h1 : vals 1 = Value.bool true := h 1 (by kernel_rfl)
          rw [h1]
          obtain ⟨c0, c1, c2⟩ := HC.out wq f
          clear h
          go_wp2
          exact ⟨rfl, rfl, _, rfl, Fr.refl _ _, rfl⟩
        · intro vals wq f h
          simp only [fillA, fillT, List.setIfInBounds_toArray, List.set_cons_succ, List.set_cons_zero, Option.getD_some, Nat.zero_add, Nat.reduceAdd]
          have h2 : vals 2 = Value.bool true := h 2 (by kernel_rfl)
          rw [h2]
          obtain ⟨c0, c1, c2⟩ := HC.out wq f
          clear h
          go_wp2
          exact ⟨rfl, rfl, _, rfl, Fr.refl _ _, rfl⟩
        · intro vals wq f h
          simp only [fillA, fillT, List.setIfInBounds_toArray, List.set_cons_succ, List.set_cons_zero, Option.getD_some, Nat.zero_add, Nat.reduceAdd]
          have h3 : vals 3 = Value.int .i64 (k : Int) := h 3 (by kernel_rfl)
          rw [h3]
          have h2 : vals 2 = Value.bool true := h 2 (by kernel_rfl)
          rw [h2]
          obtain ⟨c0, c1, c2⟩ := HC.out wq f
          clear h
          go_wp2
          exact ⟨rfl, rfl, _, rfl, Fr.refl _ _, rfl⟩
        · intro vals wq f h
          simp only [fillA, fillT, List.setIfInBounds_toArray, List.set_cons_succ, List.set_cons_zero, Option.getD_some, Nat.zero_add, Nat.reduceAdd]
          have h2 : vals 2 = Value.bool true := h 2 (by kernel_rfl)
          rw [h2]
          have h4 : vals 4 = Value.bool true := h 4 (by kernel_rfl)
          rw [h4]
          obtain ⟨c0, c1, c2⟩ := HC.out wq f
          clear h
          go_wp2
          exact ⟨rfl, rfl, _, rfl, Fr.refl _ _, rfl⟩
        · intro vals wq f h
          simp only [fillA, fillT, List.setIfInBounds_toArray, List.set_cons_succ, List.set_cons_zero, Option.getD_some, Nat.zero_add, Nat.reduceAdd]
          have h5 : vals 5 = Value.bool true := h 5 (by kernel_rfl)
          rw [h5]
          obtain ⟨c0, c1, c2⟩ := HC.out wq f
          clear h
          go_wp2
          exact ⟨rfl, rfl, _, rfl, Fr.refl _ _, rfl⟩
        · intro vals wq f h
          simp only [fillA, fillT, List.setIfInBounds_toArray, List.set_cons_succ, List.set_cons_zero, Option.getD_some, Nat.zero_add, Nat.reduceAdd]
          have h6 : vals 6 = Value.bool true := h 6 (by kernel_rfl)
          rw [h6]
          obtain ⟨c0, c1, c2⟩ := HC.out wq f
          clear h
          go_wp2
          exact ⟨rfl, rfl, _, rfl, Fr.refl _ _, rfl⟩
        · intro vals wq f h
          simp only [fillA, fillT, List.setIfInBounds_toArray, List.set_cons_succ, List.set_cons_zero, Option.getD_some, Nat.zero_add, Nat.reduceAdd]
          have h7 : vals 7 = Value.int .i64 (k : Int) := h 7 (by kernel_rfl)
          rw [h7]
          have h6 : vals 6 = Value.bool true := h 6 (by kernel_rfl)
          rw [h6]
          obtain ⟨c0, c1, c2⟩ := HC.out wq f
          clear h
          go_wp2
          exact ⟨rfl, rfl, _, rfl, Fr.refl _ _, rfl⟩
        · intro vals wq f h
          simp only [fillA, fillT, List.setIfInBounds_toArray, List.set_cons_succ, List.set_cons_zero, Option.getD_some, Nat.zero_add, Nat.reduceAdd]
          have h6 : vals 6 = Value.bool true := h 6 (by kernel_rfl)
          rw [h6]
          have h8 : vals 8 = Value.bool true := h 8 (by kernel_rfl)
          rw [h8]
          obtain ⟨c0, c1, c2⟩ := HC.out wq f
          clear h
          go_wp2
          exact ⟨rfl, rfl, _, rfl, Fr.refl _ _, rfl⟩
        · intro vals wq f h
          simp only [fillA, fillT, List.setIfInBounds_toArray, List.set_cons_succ, List.set_cons_zero, Option.getD_some, Nat.zero_add, Nat.reduceAdd]
          have h9 : vals 9 = Value.bool true := h 9 (by kernel_rfl)
          rw [h9]
          obtain ⟨c0, c1, c2⟩ := HC.out wq f
          clear h
          go_wp2
          exact ⟨rfl, rfl, _, rfl, Fr.refl _ _, rfl⟩
        · intro vals wq f h
          simp only [fillA, fillT, List.setIfInBounds_toArray, List.set_cons_succ, List.set_cons_zero, Option.getD_some, Nat.zero_add, Nat.reduceAdd]
          have h10 : vals 10 = Value.bool true := h 10 (by kernel_rfl)
          rw [h10]
          obtain ⟨c0, c1, c2⟩ := HC.out wq f
          clear h
          go_wp2
          exact ⟨rfl, rfl, _, rfl, Fr.refl _ _, rfl⟩
        · intro vals wq f h
          simp only [fillA, fillT, List.setIfInBounds_toArray, List.set_cons_succ, List.set_cons_zero, Option.getD_some, Nat.zero_add, Nat.reduceAdd]
          have h11 : vals 11 = Value.pointer (some ⟨w.heap.size, 0, none⟩) := h 11 (by kernel_rfl)
          rw [h11]
          have h10 : vals 10 = Value.bool true := h 10 (by kernel_rfl)
          rw [h10]
          obtain ⟨c0, c1, c2⟩ := HC.out wq f
          clear h
          go_wp2
          exact ⟨rfl, rfl, _, rfl, Fr.refl _ _, rfl⟩
        · intro vals wq f h
          simp only [fillA, fillT, List.setIfInBounds_toArray, List.set_cons_succ, List.set_cons_zero, Option.getD_some, Nat.zero_add, Nat.reduceAdd]
          have h10 : vals 10 = Value.bool true := h 10 (by kernel_rfl)
          rw [h10]
          obtain ⟨c0, c1, c2⟩ := HC.out wq f
          clear h
          go_wp2
          exact ⟨rfl, rfl, _, rfl, Fr.refl _ _, rfl⟩
        · intro vals wq f h
          simp only [fillA, fillT, List.setIfInBounds_toArray, List.set_cons_succ, List.set_cons_zero, Option.getD_some, Nat.zero_add, Nat.reduceAdd]
          have h13 : vals 13 = Value.int .i64 (k : Int) := h 13 (by kernel_rfl)
          rw [h13]
          have h10 : vals 10 = Value.bool true := h 10 (by kernel_rfl)
          rw [h10]
          obtain ⟨c0, c1, c2⟩ := HC.out wq f
          clear h
          go_wp2_with fail
          refine (HPow.out wq).mono ?_
          rintro e w6 ⟨rfl, rfl⟩
          go_wp2
          exact ⟨rfl, rfl, _, rfl, Fr.refl _ _, rfl⟩
        · intro vals wq f h
          simp only [fillA, fillT, List.setIfInBounds_toArray, List.set_cons_succ, List.set_cons_zero, Option.getD_some, Nat.zero_add, Nat.reduceAdd]
          have h12 : vals 12 = Value.int .i64 (x : Int) := h 12 (by kernel_rfl)
          rw [h12]
          have h14 : vals 14 = Value.int .i64 (u : Int) := h 14 (by kernel_rfl)
          rw [h14]
          have h10 : vals 10 = Value.bool true := h 10 (by kernel_rfl)
          rw [h10]
          obtain ⟨c0, c1, c2⟩ := HC.out wq f
          clear h
          go_wp2
          exact ⟨rfl, rfl, _, rfl, Fr.refl _ _, show Value.int .i64 ((x : Int) % (u : Int)) = Value.int .i64 (cx : Int) by rw [hX]⟩
        · intro vals wq f h
          simp only [fillA, fillT, List.setIfInBounds_toArray, List.set_cons_succ, List.set_cons_zero, Option.getD_some, Nat.zero_add, Nat.reduceAdd]
          have h15 : vals 15 = Value.int .i64 (cx : Int) := h 15 (by kernel_rfl)
          rw [h15]
          have h10 : vals 10 = Value.bool true := h 10 (by kernel_rfl)
          rw [h10]
          obtain ⟨c0, c1, c2⟩ := HC.out wq f
          clear h
          go_wp2
          exact ⟨rfl, rfl, _, rfl, Fr.refl _ _, rfl⟩
        · intro vals wq f h
          simp only [fillA, fillT, List.setIfInBounds_toArray, List.set_cons_succ, List.set_cons_zero, Option.getD_some, Nat.zero_add, Nat.reduceAdd]
          have h10 : vals 10 = Value.bool true := h 10 (by kernel_rfl)
          rw [h10]
          have h16 : vals 16 = Value.bool true := h 16 (by kernel_rfl)
          rw [h16]
          obtain ⟨c0, c1, c2⟩ := HC.out wq f
          clear h
          go_wp2
          exact ⟨rfl, rfl, _, rfl, Fr.refl _ _, rfl⟩
        · intro vals wq f h
          simp only [fillA, fillT, List.setIfInBounds_toArray, List.set_cons_succ, List.set_cons_zero, Option.getD_some, Nat.zero_add, Nat.reduceAdd]
          have h17 : vals 17 = Value.bool true := h 17 (by kernel_rfl)
          rw [h17]
          obtain ⟨c0, c1, c2⟩ := HC.out wq f
          clear h
          go_wp2
          exact ⟨rfl, rfl, _, rfl, Fr.refl _ _, rfl⟩
        · intro vals wq f h
          simp only [fillA, fillT, List.setIfInBounds_toArray, List.set_cons_succ, List.set_cons_zero, Option.getD_some, Nat.zero_add, Nat.reduceAdd]
          have h18 : vals 18 = Value.bool true := h 18 (by kernel_rfl)
          rw [h18]
          obtain ⟨c0, c1, c2⟩ := HC.out wq f
          clear h
          go_wp2
          exact ⟨rfl, rfl, _, rfl, Fr.refl _ _, rfl⟩
        · intro vals wq f h
          simp only [fillA, fillT, List.setIfInBounds_toArray, List.set_cons_succ, List.set_cons_zero, Option.getD_some, Nat.zero_add, Nat.reduceAdd]
          have h19 : vals 19 = Value.pointer (some ⟨w.heap.size, 1, none⟩) := h 19 (by kernel_rfl)
          rw [h19]
          have h18 : vals 18 = Value.bool true := h 18 (by kernel_rfl)
          rw [h18]
          obtain ⟨c0, c1, c2⟩ := HC.out wq f
          clear h
          go_wp2
          exact ⟨rfl, rfl, _, rfl, Fr.refl _ _, rfl⟩
        · intro vals wq f h
          simp only [fillA, fillT, List.setIfInBounds_toArray, List.set_cons_succ, List.set_cons_zero, Option.getD_some, Nat.zero_add, Nat.reduceAdd]
          have h18 : vals 18 = Value.bool true := h 18 (by kernel_rfl)
          rw [h18]
          obtain ⟨c0, c1, c2⟩ := HC.out wq f
          clear h
          go_wp2
          exact ⟨rfl, rfl, _, rfl, Fr.refl _ _, rfl⟩
        · intro vals wq f h
          simp only [fillA, fillT, List.setIfInBounds_toArray, List.set_cons_succ, List.set_cons_zero, Option.getD_some, Nat.zero_add, Nat.reduceAdd]
          have h21 : vals 21 = Value.int .i64 (k : Int) := h 21 (by kernel_rfl)
          rw [h21]
          have h18 : vals 18 = Value.bool true := h 18 (by kernel_rfl)
          rw [h18]
          obtain ⟨c0, c1, c2⟩ := HC.out wq f
          clear h
          go_wp2_with fail
          refine (HPow.out wq).mono ?_
          rintro e w6 ⟨rfl, rfl⟩
          go_wp2
          exact ⟨rfl, rfl, _, rfl, Fr.refl _ _, rfl⟩
        · intro vals wq f h
          simp only [fillA, fillT, List.setIfInBounds_toArray, List.set_cons_succ, List.set_cons_zero, Option.getD_some, Nat.zero_add, Nat.reduceAdd]
          have h20 : vals 20 = Value.int .i64 (y : Int) := h 20 (by kernel_rfl)
          rw [h20]
          have h22 : vals 22 = Value.int .i64 (u : Int) := h 22 (by kernel_rfl)
          rw [h22]
          have h18 : vals 18 = Value.bool true := h 18 (by kernel_rfl)
          rw [h18]
          obtain ⟨c0, c1, c2⟩ := HC.out wq f
          clear h
          go_wp2
          exact ⟨rfl, rfl, _, rfl, Fr.refl _ _, show Value.int .i64 ((y : Int) % (u : Int)) = Value.int .i64 (cy : Int) by rw [hY]⟩
        · intro vals wq f h
          simp only [fillA, fillT, List.setIfInBounds_toArray, List.set_cons_succ, List.set_cons_zero, Option.getD_some, Nat.zero_add, Nat.reduceAdd]
          have h23 : vals 23 = Value.int .i64 (cy : Int) := h 23 (by kernel_rfl)
          rw [h23]
          have h18 : vals 18 = Value.bool true := h 18 (by kernel_rfl)
          rw [h18]
          obtain ⟨c0, c1, c2⟩ := HC.out wq f
          clear h
          go_wp2
          exact ⟨rfl, rfl, _, rfl, Fr.refl _ _, rfl⟩
        · intro vals wq f h
          simp only [fillA, fillT, List.setIfInBounds_toArray, List.set_cons_succ, List.set_cons_zero, Option.getD_some, Nat.zero_add, Nat.reduceAdd]
          have h18 : vals 18 = Value.bool true := h 18 (by kernel_rfl)
          rw [h18]
          have h24 : vals 24 = Value.bool ((cy : Int) == 0) := h 24 (by kernel_rfl)
          rw [h24]
          obtain ⟨c0, c1, c2⟩ := HC.out wq f
          clear h
          go_wp2
          exact ⟨rfl, rfl, _, rfl, Fr.refl _ _, rfl⟩
      case tail =>
        intro vals wq f h
        simp only [List.take_succ_cons, List.take_zero, fillA, fillT, List.setIfInBounds_toArray, List.set_cons_succ, List.set_cons_zero, List.drop_succ_cons, List.drop_zero, Nat.zero_add, Nat.reduceAdd]
        have h25 : vals 25 = Value.bool ((cy : Int) == 0) := h 25 (by omega)
        rw [h25]
        clear h h25
        gi_wp2
        go_wp2
        go_ret
        exact ⟨ret_bool HR.out.symm, F0.trans' ((Fr.refl _ W).drew.trans' f)⟩


theorem padU_lo {n u : Nat} (hu : 1 ≤ u) : n ≤ padU n u ∧ padU n u < n + u ∧ padU n u % u = 0 := by
  unfold padU
  have h1 := Nat.div_add_mod (n + u - 1) u
  have h2 := Nat.mod_lt (n + u - 1) (show u > 0 by omega)
  rw [Nat.mul_comm] at h1
  exact ⟨by omega, by omega, Nat.mul_mod_left _ _⟩
theorem padU_least {n u z : Nat} (hu : 1 ≤ u) (h1 : n ≤ z) (h2 : z ≤ padU n u) (h3 : z % u = 0) : z = padU n u := by
  obtain ⟨a, b, c⟩ := padU_lo (n := n) hu
  have e1 := Nat.div_add_mod z u
  have e2 := Nat.div_add_mod (padU n u) u
  rw [h3] at e1
  rw [c] at e2
  generalize z / u = p at *
  generalize padU n u = P at *
  generalize P / u = q at *
  have : p = q := by
    rcases Nat.lt_trichotomy p q with h | h | h
    · have := Nat.mul_le_mul_left u (show p + 1 ≤ q from h)
      rw [Nat.mul_add, Nat.mul_one] at this
      omega
    · exact h
    · have := Nat.mul_le_mul_left u (show q + 1 ≤ p from h)
      rw [Nat.mul_add, Nat.mul_one] at this
      omega
  rw [this] at e1
  omega
theorem rpadded_any (z d : Int) (w : World) :
    Calls Try.prog 16 #[.int .i64 z, .int .i64 d] w fun e w' => e = .returned (.int .i64 (padN z d)) ∧ w' = w := by
  by_cases h1 : z < 1
  · have HR := hid (padN_out (z := z) (d := d) (by omega))
    have g1 : decide (z < 1) = true := decide_eq_true h1
    go_enter Try.func16, Try.ntmps16
    go_wp2
    go_ret
    exact ⟨ret_int HR.out.symm, rfl⟩
  have g1 : decide (z < 1) = false := decide_eq_false h1
  by_cases h2 : 1024 < z
  · have HR := hid (padN_out (z := z) (d := d) (by omega))
    have g2 : decide (1024 < z) = true := decide_eq_true h2
    go_enter Try.func16, Try.ntmps16
    go_wp2
    go_ret
    exact ⟨ret_int HR.out.symm, rfl⟩
  have g2 : decide (1024 < z) = false := decide_eq_false h2
  by_cases h3 : d < 0
  · have HR := hid (padN_out (z := z) (d := d) (by omega))
    have g3 : decide (d < 0) = true := decide_eq_true h3
    go_enter Try.func16, Try.ntmps16
    go_wp2
    go_ret
    exact ⟨ret_int HR.out.symm, rfl⟩
  have g3 : decide (d < 0) = false := decide_eq_false h3
  by_cases h4 : 6 < d
  · have HR := hid (padN_out (z := z) (d := d) (by omega))
    have g4 : decide (6 < d) = true := decide_eq_true h4
    go_enter Try.func16, Try.ntmps16
    go_wp2
    go_ret
    exact ⟨ret_int HR.out.symm, rfl⟩
  have g4 : decide (6 < d) = false := decide_eq_false h4
  obtain ⟨k, rfl⟩ := Int.eq_ofNat_of_zero_le (show 0 ≤ d by omega)
  obtain ⟨n, rfl⟩ := Int.eq_ofNat_of_zero_le (show 0 ≤ z by omega)
  have hk : k ≤ 6 := by omega
  have HR := hid (padN_in (n := n) (k := k) (by omega) (by omega) hk)
  obtain ⟨hu1, hu2⟩ := pow_small hk
  have HPow := hid (fun w => rpow_any k hk w)
  obtain ⟨u, hu⟩ : ∃ u, u = 2 ^ k := ⟨_, rfl⟩
  rw [← hu] at hu1 hu2 HR HPow
  have HLo := hid (padU_lo (n := n) (u := u) hu1)
  have HLeast := hid (fun z h1 h2 h3 => padU_least (n := n) (u := u) (z := z) hu1 h1 h2 h3)
  obtain ⟨p, hp⟩ : ∃ p, p = padU n u := ⟨_, rfl⟩
  rw [← hp] at HLo HLeast HR
  have hpm : p ≤ 2000 := by have := HLo.out; omega
  have hu0 : ¬ (u : Int) = 0 := by omega
  clear hu hp
  go_enter Try.func16, Try.ntmps16
  go_wp2
  go_loopw [0] (fun i wr => ∃ q : Nat, n ≤ q ∧ q ≤ p ∧ i = .int .i64 (q : Int) ∧ SameW wr w) (fun i _ => p - (intOf i).toNat)
  case atStart => exact ⟨n, Nat.le_refl _, HLo.out.1, rfl, SameW.rfl⟩
  case round =>
    obtain ⟨q, hnq, hqp, rfl, hw⟩ := hrel
    obtain rfl : w = wr := Eq.symm hw
    obtain ⟨c, hc⟩ : ∃ c, c = q % u := ⟨_, rfl⟩
    have hC : (q : Int) % (u : Int) = (c : Int) := by rw [hc, Int.natCast_emod]
    by_cases h0 : c = 0
    · have HQ : Hid (q = p) := HLeast.out q hnq hqp (by omega)
      subst h0
      clear hc hw
      go_wp2_with fail
      refine (HPow.out _).mono ?_
      rintro e w1 ⟨rfl, rfl⟩
      go_wp2
      go_ret
      exact ⟨ret_int (by rw [HR.out, HQ.out]), rfl⟩
    · have hb : ((c : Int) == 0) = false := by rw [nat_beq0]; simpa using h0
      have hb' : ((c : Int) != 0) = true := by rw [bne, hb]; rfl
      have hne : q ≠ p := fun e => h0 (by rw [hc, e]; exact HLo.out.2.2)
      have hlt : q < p := by omega
      clear hc hw hne h0
      go_wp2_with fail
      refine (HPow.out _).mono ?_
      rintro e w1 ⟨rfl, rfl⟩
      go_wp2
      go_roundw
      case rel => exact ⟨q + 1, by omega, by omega, by go_num, SameW.rfl⟩
      case measure => simp [intOf]; omega
end Go.Proofs.Ytonalomagfekaaa
