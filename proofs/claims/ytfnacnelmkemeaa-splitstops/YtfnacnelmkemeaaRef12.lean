/-
  The document's answer for layer 12: Right, List.
-/
import Derived.BigQuiet
import Derived.Maps.AppendAt
import Derived.Test.YtfnacnelmkemeaaSplitM
import Derived.Test.YtfnacnelmkemeaaWeaveN
namespace Go.Proofs.Ytfnacnelmkemeaa
open Go.RowKit

set_option maxHeartbeats 1000000 in
theorem rright12_any (x y m n : Int) (w : World) :
    Calls Try.prog 10 #[.int .i64 x, .int .i64 y, .int .i64 m, .int .i64 n] w fun e w' => e = .returned (.bool (splitOk x y m n)) ∧ w' = w := by
  by_cases h0 : 1 ≤ x
  rotate_left
  · have g0 : decide (1 ≤ x) = false := decide_eq_false h0
    have HR : Hid (splitOk x y m n = false) := by show _ = _; rw [← Bool.not_eq_true, splitOk_iff]; omega
    go_enter Try.func10, Try.ntmps10
    go_wp2
    go_ret
    exact ⟨ret_bool HR.out.symm, rfl⟩
  by_cases h1 : x ≤ 1024
  rotate_left
  · have g1 : decide (x ≤ 1024) = false := decide_eq_false h1
    have g0 : decide (1 ≤ x) = true := decide_eq_true h0
    have HR : Hid (splitOk x y m n = false) := by show _ = _; rw [← Bool.not_eq_true, splitOk_iff]; omega
    go_enter Try.func10, Try.ntmps10
    go_wp2
    go_ret
    exact ⟨ret_bool HR.out.symm, rfl⟩
  by_cases h2 : 1 ≤ y
  rotate_left
  · have g2 : decide (1 ≤ y) = false := decide_eq_false h2
    have g0 : decide (1 ≤ x) = true := decide_eq_true h0
    have g1 : decide (x ≤ 1024) = true := decide_eq_true h1
    have HR : Hid (splitOk x y m n = false) := by show _ = _; rw [← Bool.not_eq_true, splitOk_iff]; omega
    go_enter Try.func10, Try.ntmps10
    go_wp2
    go_ret
    exact ⟨ret_bool HR.out.symm, rfl⟩
  by_cases h3 : y ≤ 1024
  rotate_left
  · have g3 : decide (y ≤ 1024) = false := decide_eq_false h3
    have g0 : decide (1 ≤ x) = true := decide_eq_true h0
    have g1 : decide (x ≤ 1024) = true := decide_eq_true h1
    have g2 : decide (1 ≤ y) = true := decide_eq_true h2
    have HR : Hid (splitOk x y m n = false) := by show _ = _; rw [← Bool.not_eq_true, splitOk_iff]; omega
    go_enter Try.func10, Try.ntmps10
    go_wp2
    go_ret
    exact ⟨ret_bool HR.out.symm, rfl⟩
  by_cases h4 : 1 ≤ m
  rotate_left
  · have g4 : decide (1 ≤ m) = false := decide_eq_false h4
    have g0 : decide (1 ≤ x) = true := decide_eq_true h0
    have g1 : decide (x ≤ 1024) = true := decide_eq_true h1
    have g2 : decide (1 ≤ y) = true := decide_eq_true h2
    have g3 : decide (y ≤ 1024) = true := decide_eq_true h3
    have HR : Hid (splitOk x y m n = false) := by show _ = _; rw [← Bool.not_eq_true, splitOk_iff]; omega
    go_enter Try.func10, Try.ntmps10
    go_wp2
    go_ret
    exact ⟨ret_bool HR.out.symm, rfl⟩
  by_cases h5 : m ≤ 64
  rotate_left
  · have g5 : decide (m ≤ 64) = false := decide_eq_false h5
    have g0 : decide (1 ≤ x) = true := decide_eq_true h0
    have g1 : decide (x ≤ 1024) = true := decide_eq_true h1
    have g2 : decide (1 ≤ y) = true := decide_eq_true h2
    have g3 : decide (y ≤ 1024) = true := decide_eq_true h3
    have g4 : decide (1 ≤ m) = true := decide_eq_true h4
    have HR : Hid (splitOk x y m n = false) := by show _ = _; rw [← Bool.not_eq_true, splitOk_iff]; omega
    go_enter Try.func10, Try.ntmps10
    go_wp2
    go_ret
    exact ⟨ret_bool HR.out.symm, rfl⟩
  by_cases h6 : 1 ≤ n
  rotate_left
  · have g6 : decide (1 ≤ n) = false := decide_eq_false h6
    have g0 : decide (1 ≤ x) = true := decide_eq_true h0
    have g1 : decide (x ≤ 1024) = true := decide_eq_true h1
    have g2 : decide (1 ≤ y) = true := decide_eq_true h2
    have g3 : decide (y ≤ 1024) = true := decide_eq_true h3
    have g4 : decide (1 ≤ m) = true := decide_eq_true h4
    have g5 : decide (m ≤ 64) = true := decide_eq_true h5
    have HR : Hid (splitOk x y m n = false) := by show _ = _; rw [← Bool.not_eq_true, splitOk_iff]; omega
    go_enter Try.func10, Try.ntmps10
    go_wp2
    go_ret
    exact ⟨ret_bool HR.out.symm, rfl⟩
  by_cases h7 : n ≤ 64
  rotate_left
  · have g7 : decide (n ≤ 64) = false := decide_eq_false h7
    have g0 : decide (1 ≤ x) = true := decide_eq_true h0
    have g1 : decide (x ≤ 1024) = true := decide_eq_true h1
    have g2 : decide (1 ≤ y) = true := decide_eq_true h2
    have g3 : decide (y ≤ 1024) = true := decide_eq_true h3
    have g4 : decide (1 ≤ m) = true := decide_eq_true h4
    have g5 : decide (m ≤ 64) = true := decide_eq_true h5
    have g6 : decide (1 ≤ n) = true := decide_eq_true h6
    have HR : Hid (splitOk x y m n = false) := by show _ = _; rw [← Bool.not_eq_true, splitOk_iff]; omega
    go_enter Try.func10, Try.ntmps10
    go_wp2
    go_ret
    exact ⟨ret_bool HR.out.symm, rfl⟩
  have g0 : decide (1 ≤ x) = true := decide_eq_true h0
  have g1 : decide (x ≤ 1024) = true := decide_eq_true h1
  have g2 : decide (1 ≤ y) = true := decide_eq_true h2
  have g3 : decide (y ≤ 1024) = true := decide_eq_true h3
  have g4 : decide (1 ≤ m) = true := decide_eq_true h4
  have g5 : decide (m ≤ 64) = true := decide_eq_true h5
  have g6 : decide (1 ≤ n) = true := decide_eq_true h6
  have g7 : decide (n ≤ 64) = true := decide_eq_true h7
  have HR : Hid (splitOk x y m n = true) := by show _ = _; rw [splitOk_iff]; omega
  go_enter Try.func10, Try.ntmps10
  go_wp2
  go_ret
  exact ⟨ret_bool HR.out.symm, rfl⟩

set_option maxRecDepth 100000 in
set_option maxHeartbeats 2000000 in
theorem rlist12_go (x y d c : Nat) (w : World) (h1 : 1 ≤ x) (h2 : x ≤ 1024) (h3 : 1 ≤ y) (h4 : y ≤ 1024) (h5 : 1 ≤ d) (h6 : d ≤ 64) (h7 : 1 ≤ c) (h8 : c ≤ 64) :
    Calls Try.prog 8 #[.int .i64 (x : Int), .int .i64 (y : Int), .int .i64 (d : Int), .int .i64 (c : Int)] w fun e w' => PartsMade w w' e (c * d) (partK x y d c) := by
  have hok := splitOk_of h1 h2 h3 h4 h5 h6 h7 h8
  obtain ⟨i0, hi0, hz0, hz1, hz2⟩ := info_parts Try.info_rect
  have hned : (d : Int) ≠ 0 := by omega
  have hnec : (c : Int) ≠ 0 := by omega
  obtain ⟨C, hC⟩ : ∃ C, C = fun k => rectC (partK x y d c k) := ⟨_, rfl⟩
  have HC := hid hC
  have hCl : ∀ k, (C k).length = 4 := fun k => by rw [hC]; rfl
  clear hC
  go_enter Try.func8, Try.ntmps8
  go_wp2_with fail
  refine (rright12_any _ _ _ _ _).mono ?_
  rintro e w1 ⟨rfl, hw1⟩
  rw [hw1, hok]
  clear hw1 hok
  go_wp2
  go_loopw [9, 10] (fun v t wr => ∃ j : Nat, j ≤ c ∧ t = .int .i64 (j : Int) ∧ wr.ownsRow w.heap.size 28 4 v (j * d) (flatC C (j * d)) ∧ Fr (fun _ => False) w wr) (fun _ t _ => c - (intOf t).toNat)
  case atStart => exact ⟨0, Nat.zero_le _, rfl, by rw [Nat.zero_mul]; exact World.ownsRow_nil _ _ _ _, Fr.refl _ _⟩
  case round =>
    obtain ⟨j, hj, rfl, hO, hF⟩ := hrel
    have HO := hid hO
    have HF := hid hF
    clear hO hF
    by_cases hlt : j < c
    · have hki : (j : Int) < (c : Int) := by omega
      obtain ⟨w0, hw0⟩ : ∃ w0, w0 = wr := ⟨_, rfl⟩
      go_wp2
      go_loopw [9, 11] (fun v t wr => ∃ i : Nat, i ≤ d ∧ t = .int .i64 (i : Int) ∧ wr.ownsRow w.heap.size 28 4 v (j * d + i) (flatC C (j * d + i)) ∧ Fr (fun _ => False) w wr) (fun _ t _ => d - (intOf t).toNat)
      case atStart => exact ⟨0, Nat.zero_le _, rfl, HO.out, HF.out⟩
      case round =>
        obtain ⟨i, hi, rfl, hO, hF⟩ := hrel
        have HO := hid hO
        have HF := hid hF
        clear hO hF
        by_cases hil : i < d
        rotate_left
        · have hii : ¬ (i : Int) < (d : Int) := by omega
          obtain rfl : i = d := by omega
          go_wp2
          go_roundw
          case rel => exact ⟨j + 1, by omega, by go_num, by rw [Nat.succ_mul]; exact HO.out, HF.out⟩
          case measure => simp [intOf]; omega
        have hii : (i : Int) < (d : Int) := by omega
        obtain ⟨p0, hp0⟩ : ∃ p, cutP x d i = p := ⟨_, rfl⟩
        obtain ⟨q0, hq0⟩ : ∃ q, cutP y c j = q := ⟨_, rfl⟩
        obtain ⟨p1, hp1⟩ : ∃ p, cutP x d (i + 1) = p := ⟨_, rfl⟩
        obtain ⟨q1, hq1⟩ : ∃ q, cutP y c (j + 1) = q := ⟨_, rfl⟩
        have lp : p0 ≤ p1 := by rw [← hp0, ← hp1]; exact cutP_le (by omega)
        have lq : q0 ≤ q1 := by rw [← hq0, ← hq1]; exact cutP_le (by omega)
        have up : p1 ≤ 1024 := by rw [← hp1]; exact cutP_small h2 (by omega) (by omega)
        have uq : q1 ≤ 1024 := by rw [← hq1]; exact cutP_small h4 (by omega) (by omega)
        obtain ⟨sw, hsw⟩ : ∃ s, p1 - p0 = s := ⟨_, rfl⟩
        obtain ⟨sh, hsh⟩ : ∃ s, q1 - q0 = s := ⟨_, rfl⟩
        have hR : partK x y d c (j * d + i) = ⟨p0, q0, sw, sh⟩ := by
          rw [partK_flat hil]
          unfold rectP sideP
          rw [hp0, hq0, hp1, hq1, hsw, hsh]
        have swI : (p1 : Int) - (p0 : Int) = (sw : Int) := by omega
        have shI : (q1 : Int) - (q0 : Int) = (sh : Int) := by omega
        have swl : sw ≤ 1024 := by omega
        have shl : sh ≤ 1024 := by omega
        have p0l : p0 ≤ 1024 := by omega
        have q0l : q0 ≤ 1024 := by omega
        obtain ⟨i1, hi1⟩ : ∃ k, i + 1 = k := ⟨_, rfl⟩
        obtain ⟨j1, hj1⟩ : ∃ k, j + 1 = k := ⟨_, rfl⟩
        have i1I : (i : Int) + 1 = (i1 : Int) := by omega
        have j1I : (j : Int) + 1 = (j1 : Int) := by omega
        have i1l : i1 ≤ 64 := by omega
        have j1l : j1 ≤ 64 := by omega
        rw [hi1] at hp1
        rw [hj1] at hq1
        obtain ⟨s1, hs1⟩ : ∃ s, x * i = s := ⟨_, rfl⟩
        obtain ⟨s2, hs2⟩ : ∃ s, y * j = s := ⟨_, rfl⟩
        obtain ⟨s3, hs3⟩ : ∃ s, x * i1 = s := ⟨_, rfl⟩
        obtain ⟨s4, hs4⟩ : ∃ s, y * j1 = s := ⟨_, rfl⟩
        have s1I : (x : Int) * (i : Int) = (s1 : Int) := by rw [← hs1, Int.natCast_mul]
        have s2I : (y : Int) * (j : Int) = (s2 : Int) := by rw [← hs2, Int.natCast_mul]
        have s3I : (x : Int) * (i1 : Int) = (s3 : Int) := by rw [← hs3, Int.natCast_mul]
        have s4I : (y : Int) * (j1 : Int) = (s4 : Int) := by rw [← hs4, Int.natCast_mul]
        have s1l : s1 ≤ 65536 := by rw [← hs1]; exact Nat.mul_le_mul h2 (show i ≤ 64 by omega)
        have s2l : s2 ≤ 65536 := by rw [← hs2]; exact Nat.mul_le_mul h4 (show j ≤ 64 by omega)
        have s3l : s3 ≤ 65536 := by rw [← hs3]; exact Nat.mul_le_mul h2 i1l
        have s4l : s4 ≤ 65536 := by rw [← hs4]; exact Nat.mul_le_mul h4 j1l
        have d1I : (s1 : Int) / (d : Int) = (p0 : Int) := by rw [← hp0, ← hs1]; exact (Int.natCast_ediv _ _).symm
        have d2I : (s2 : Int) / (c : Int) = (q0 : Int) := by rw [← hq0, ← hs2]; exact (Int.natCast_ediv _ _).symm
        have d3I : (s3 : Int) / (d : Int) = (p1 : Int) := by rw [← hp1, ← hs3]; exact (Int.natCast_ediv _ _).symm
        have d4I : (s4 : Int) / (c : Int) = (q1 : Int) := by rw [← hq1, ← hs4]; exact (Int.natCast_ediv _ _).symm
        obtain ⟨ix, hix⟩ : ∃ k, j * d + i = k := ⟨_, rfl⟩
        have hixl : ix < 4096 := by
          have t1 : j * d + d ≤ c * d := by rw [← Nat.succ_mul]; exact Nat.mul_le_mul_right _ (by omega)
          have t2 : c * d ≤ 4096 := Nat.mul_le_mul h8 h6
          omega
        have HIX : Hid (j * d + (i + 1) = ix + 1) := (show j * d + (i + 1) = ix + 1 by omega)
        rw [hix] at hR HO
        have HCA : Hid (flatC C ix ++ rectC ⟨p0, q0, sw, sh⟩ = flatC C (ix + 1)) := by
          show _ = _
          rw [flatC_succ, HC.out]
          dsimp only
          rw [hR]
        clear hR hix hp0 hq0 hp1 hq1 hsw hsh hi1 hj1 hs1 hs2 hs3 hs4 lp lq
        go_wp2
        go_quiet (fail)
        obtain ⟨w3, hw3⟩ : ∃ w3, w3 = wr.drewN nq := ⟨_, rfl⟩
        have HO3 : Hid (w3.ownsRow w.heap.size 28 4 u9 ix (flatC C ix)) := by rw [hw3]; exact ownsRow_fr HO.out ((Fr.refl (fun _ => False) wr).drewN _) (fun _ _ h => h)
        have HFW : Hid (Fr (fun _ => False) w w3) := by rw [hw3]; exact HF.out.drewN _
        rw [← hw3]
        clear hw3 HO HF
        go_wp2
        refine weaveST 21 [.eq (u9), .eq (Value.int .i64 (p0 : Int)), .eq (Value.int .i64 (q0 : Int)), .eq (Value.int .i64 (x : Int)), .eq (Value.int .i64 (i : Int)), .eq (Value.int .i64 (i1 : Int)), .eq (Value.int .i64 (s3 : Int)), .eq (Value.int .i64 (d : Int)), .eq (Value.int .i64 (p1 : Int)), .eq (Value.int .i64 (p0 : Int)), .eq (Value.int .i64 (sw : Int)), .eq (Value.int .i64 (y : Int)), .eq (Value.int .i64 (j : Int)), .eq (Value.int .i64 (j1 : Int)), .eq (Value.int .i64 (s4 : Int)), .eq (Value.int .i64 (c : Int)), .eq (Value.int .i64 (q1 : Int)), .eq (Value.int .i64 (q0 : Int)), .eq (Value.int .i64 (sh : Int)), .eq (Value.agg #[.int .i64 (p0 : Int), .int .i64 (q0 : Int), .int .i64 (sw : Int), .int .i64 (sh : Int)]), .lit #[Value.int .i64 (p0 : Int), Value.int .i64 (q0 : Int), Value.int .i64 (sw : Int), Value.int .i64 (sh : Int)] 28 1] (by kernel_rfl) (by kernel_rfl) ?obls ?tail
        case obls =>
          simp only [List.take_succ_cons, List.take_zero]
          refine ⟨?_, ?_, ?_, ?_, ?_, ?_, ?_, ?_, ?_, ?_, ?_, ?_, ?_, ?_, ?_, ?_, ?_, ?_, ?_, ?_, ?_, trivial⟩
          · intro vals wq f h
            simp only [fillA, fillT, List.setIfInBounds_toArray, List.set_cons_succ, List.set_cons_zero, Option.getD_some, Nat.zero_add, Nat.reduceAdd]
            clear h
            go_wp2
            exact ⟨rfl, rfl, _, rfl, Fr.refl _ _, rfl⟩
          · intro vals wq f h
            simp only [fillA, fillT, List.setIfInBounds_toArray, List.set_cons_succ, List.set_cons_zero, Option.getD_some, Nat.zero_add, Nat.reduceAdd]
            clear h
            go_wp2
            exact ⟨rfl, rfl, _, rfl, Fr.refl _ _, rfl⟩
          · intro vals wq f h
            simp only [fillA, fillT, List.setIfInBounds_toArray, List.set_cons_succ, List.set_cons_zero, Option.getD_some, Nat.zero_add, Nat.reduceAdd]
            clear h
            go_wp2
            exact ⟨rfl, rfl, _, rfl, Fr.refl _ _, rfl⟩
          · intro vals wq f h
            simp only [fillA, fillT, List.setIfInBounds_toArray, List.set_cons_succ, List.set_cons_zero, Option.getD_some, Nat.zero_add, Nat.reduceAdd]
            clear h
            go_wp2
            exact ⟨rfl, rfl, _, rfl, Fr.refl _ _, rfl⟩
          · intro vals wq f h
            simp only [fillA, fillT, List.setIfInBounds_toArray, List.set_cons_succ, List.set_cons_zero, Option.getD_some, Nat.zero_add, Nat.reduceAdd]
            clear h
            go_wp2
            exact ⟨rfl, rfl, _, rfl, Fr.refl _ _, rfl⟩
          · intro vals wq f h
            simp only [fillA, fillT, List.setIfInBounds_toArray, List.set_cons_succ, List.set_cons_zero, Option.getD_some, Nat.zero_add, Nat.reduceAdd]
            have h4 : vals 4 = Value.int .i64 (i : Int) := h 4 (by kernel_rfl)
            rw [h4]
            clear h
            go_wp2
            exact ⟨rfl, rfl, _, rfl, Fr.refl _ _, rfl⟩
          · intro vals wq f h
            simp only [fillA, fillT, List.setIfInBounds_toArray, List.set_cons_succ, List.set_cons_zero, Option.getD_some, Nat.zero_add, Nat.reduceAdd]
            have h3 : vals 3 = Value.int .i64 (x : Int) := h 3 (by kernel_rfl)
            rw [h3]
            have h5 : vals 5 = Value.int .i64 (i1 : Int) := h 5 (by kernel_rfl)
            rw [h5]
            clear h
            go_wp2
            exact ⟨rfl, rfl, _, rfl, Fr.refl _ _, rfl⟩
          · intro vals wq f h
            simp only [fillA, fillT, List.setIfInBounds_toArray, List.set_cons_succ, List.set_cons_zero, Option.getD_some, Nat.zero_add, Nat.reduceAdd]
            clear h
            go_wp2
            exact ⟨rfl, rfl, _, rfl, Fr.refl _ _, rfl⟩
          · intro vals wq f h
            simp only [fillA, fillT, List.setIfInBounds_toArray, List.set_cons_succ, List.set_cons_zero, Option.getD_some, Nat.zero_add, Nat.reduceAdd]
            have h6 : vals 6 = Value.int .i64 (s3 : Int) := h 6 (by kernel_rfl)
            rw [h6]
            have h7 : vals 7 = Value.int .i64 (d : Int) := h 7 (by kernel_rfl)
            rw [h7]
            clear h
            go_wp2
            exact ⟨rfl, rfl, _, rfl, Fr.refl _ _, rfl⟩
          · intro vals wq f h
            simp only [fillA, fillT, List.setIfInBounds_toArray, List.set_cons_succ, List.set_cons_zero, Option.getD_some, Nat.zero_add, Nat.reduceAdd]
            clear h
            go_wp2
            exact ⟨rfl, rfl, _, rfl, Fr.refl _ _, rfl⟩
          · intro vals wq f h
            simp only [fillA, fillT, List.setIfInBounds_toArray, List.set_cons_succ, List.set_cons_zero, Option.getD_some, Nat.zero_add, Nat.reduceAdd]
            have h8 : vals 8 = Value.int .i64 (p1 : Int) := h 8 (by kernel_rfl)
            rw [h8]
            have h9 : vals 9 = Value.int .i64 (p0 : Int) := h 9 (by kernel_rfl)
            rw [h9]
            clear h
            go_wp2
            exact ⟨rfl, rfl, _, rfl, Fr.refl _ _, rfl⟩
          · intro vals wq f h
            simp only [fillA, fillT, List.setIfInBounds_toArray, List.set_cons_succ, List.set_cons_zero, Option.getD_some, Nat.zero_add, Nat.reduceAdd]
            clear h
            go_wp2
            exact ⟨rfl, rfl, _, rfl, Fr.refl _ _, rfl⟩
          · intro vals wq f h
            simp only [fillA, fillT, List.setIfInBounds_toArray, List.set_cons_succ, List.set_cons_zero, Option.getD_some, Nat.zero_add, Nat.reduceAdd]
            clear h
            go_wp2
            exact ⟨rfl, rfl, _, rfl, Fr.refl _ _, rfl⟩
          · intro vals wq f h
            simp only [fillA, fillT, List.setIfInBounds_toArray, List.set_cons_succ, List.set_cons_zero, Option.getD_some, Nat.zero_add, Nat.reduceAdd]
            have h12 : vals 12 = Value.int .i64 (j : Int) := h 12 (by kernel_rfl)
            rw [h12]
            clear h
            go_wp2
            exact ⟨rfl, rfl, _, rfl, Fr.refl _ _, rfl⟩
          · intro vals wq f h
            simp only [fillA, fillT, List.setIfInBounds_toArray, List.set_cons_succ, List.set_cons_zero, Option.getD_some, Nat.zero_add, Nat.reduceAdd]
            have h11 : vals 11 = Value.int .i64 (y : Int) := h 11 (by kernel_rfl)
            rw [h11]
            have h13 : vals 13 = Value.int .i64 (j1 : Int) := h 13 (by kernel_rfl)
            rw [h13]
            clear h
            go_wp2
            exact ⟨rfl, rfl, _, rfl, Fr.refl _ _, rfl⟩
          · intro vals wq f h
            simp only [fillA, fillT, List.setIfInBounds_toArray, List.set_cons_succ, List.set_cons_zero, Option.getD_some, Nat.zero_add, Nat.reduceAdd]
            clear h
            go_wp2
            exact ⟨rfl, rfl, _, rfl, Fr.refl _ _, rfl⟩
          · intro vals wq f h
            simp only [fillA, fillT, List.setIfInBounds_toArray, List.set_cons_succ, List.set_cons_zero, Option.getD_some, Nat.zero_add, Nat.reduceAdd]
            have h14 : vals 14 = Value.int .i64 (s4 : Int) := h 14 (by kernel_rfl)
            rw [h14]
            have h15 : vals 15 = Value.int .i64 (c : Int) := h 15 (by kernel_rfl)
            rw [h15]
            clear h
            go_wp2
            exact ⟨rfl, rfl, _, rfl, Fr.refl _ _, rfl⟩
          · intro vals wq f h
            simp only [fillA, fillT, List.setIfInBounds_toArray, List.set_cons_succ, List.set_cons_zero, Option.getD_some, Nat.zero_add, Nat.reduceAdd]
            clear h
            go_wp2
            exact ⟨rfl, rfl, _, rfl, Fr.refl _ _, rfl⟩
          · intro vals wq f h
            simp only [fillA, fillT, List.setIfInBounds_toArray, List.set_cons_succ, List.set_cons_zero, Option.getD_some, Nat.zero_add, Nat.reduceAdd]
            have h16 : vals 16 = Value.int .i64 (q1 : Int) := h 16 (by kernel_rfl)
            rw [h16]
            have h17 : vals 17 = Value.int .i64 (q0 : Int) := h 17 (by kernel_rfl)
            rw [h17]
            clear h
            go_wp2
            exact ⟨rfl, rfl, _, rfl, Fr.refl _ _, rfl⟩
          · intro vals wq f h
            simp only [fillA, fillT, List.setIfInBounds_toArray, List.set_cons_succ, List.set_cons_zero, Option.getD_some, Nat.zero_add, Nat.reduceAdd]
            have h1 : vals 1 = Value.int .i64 (p0 : Int) := h 1 (by kernel_rfl)
            rw [h1]
            have h2 : vals 2 = Value.int .i64 (q0 : Int) := h 2 (by kernel_rfl)
            rw [h2]
            have h10 : vals 10 = Value.int .i64 (sw : Int) := h 10 (by kernel_rfl)
            rw [h10]
            have h18 : vals 18 = Value.int .i64 (sh : Int) := h 18 (by kernel_rfl)
            rw [h18]
            clear h
            go_wp2
            exact ⟨rfl, rfl, _, rfl, Fr.refl _ _, rfl⟩
          · intro vals wq f h
            simp only [fillA, fillT, List.setIfInBounds_toArray, List.set_cons_succ, List.set_cons_zero, Option.getD_some, Nat.zero_add, Nat.reduceAdd]
            have h19 : vals 19 = Value.agg #[.int .i64 (p0 : Int), .int .i64 (q0 : Int), .int .i64 (sw : Int), .int .i64 (sh : Int)] := h 19 (by kernel_rfl)
            rw [h19]
            clear h
            have HB := hid (Blk.new wq #[Value.int .i64 (p0 : Int), Value.int .i64 (q0 : Int), Value.int .i64 (sw : Int), Value.int .i64 (sh : Int)] 28)
            go_wp2
            exact ⟨rfl, rfl, _, rfl, (Fr.refl _ wq).alloc _, _, rfl, HB.out⟩
        case tail =>
          intro vals wq f h
          simp only [List.take_succ_cons, List.take_zero, fillA, fillT, List.setIfInBounds_toArray, List.set_cons_succ, List.set_cons_zero, List.drop_succ_cons, List.drop_zero, Nat.zero_add, Nat.reduceAdd]
          have h0 : vals 0 = u9 := h 0 (by omega)
          rw [h0]
          obtain ⟨g20, h20, b20⟩ : ∃ g, vals 20 = Value.slice (some ⟨g, 0, none⟩) 1 1 ∧ Blk wq g #[Value.int .i64 (p0 : Int), Value.int .i64 (q0 : Int), Value.int .i64 (sw : Int), Value.int .i64 (sh : Int)] 28 := h 20 (by omega)
          rw [h20]
          have f7 := HFW.out.trans' ((Fr.refl (fun _ => False) w3).drew.trans' f)
          have O7 := ownsRow_fr HO3.out ((Fr.refl (fun _ => False) w3).drew.trans' f) (fun _ _ h => h)
          have hsz7 := f7.size
          have HB20 := hid b20
          clear h h0 h20 f b20
          (refine wpListIn_append_own _ rfl _ _ 24 rfl w.heap.size 28 i0 (.agg #[.int .i64 0, .int .i64 0, .int .i64 0, .int .i64 0]) 4 32 Try.underlying24 hi0 hz0 hz1 hz2 rfl (by decide) _ _ _ rfl O7 ⟨g20, 0, none⟩ 1 1 (rectC ⟨p0, q0, sw, sh⟩) rfl rfl (cells_blk HB20.out) (rectC_one _) (by unfold maxLen; omega) (by omega) (by omega) ?_)
          intro v' w8 O8 hg8 _
          have F8 : Fr (fun _ => False) w w8 := f7.grown hg8 (fun k e hk => by have := (O7.lt k e).1; omega)
          rw [HCA.out] at O8
          have HO8 := hid O8
          have HF8 := hid F8
          clear O7 O8 hg8 f7 F8
          gi_wp2
          go_wp2
          go_roundw
          case rel => exact ⟨i + 1, by omega, by go_num, by rw [HIX.out]; exact HO8.out, HF8.out⟩
          case measure => simp [intOf]; omega
    · have hki : ¬ (j : Int) < (c : Int) := by omega
      obtain rfl : j = c := by omega
      obtain ⟨a, cap, b, rfl, hCl2, hb⟩ := Cls.of_owns HO.out (fun k _ => hCl k)
      have HE : Hid (Rcs wr a (j * d) cap (partK x y d j) b) := by
        show Cls _ _ _ _ _ _ _
        rw [HC.out] at hCl2
        exact hCl2
      have HB := hid hb
      clear hb hCl2 HO
      go_wp2
      go_ret
      exact ⟨a, cap, b, rfl, HE.out, fun h => (HB.out h).1, HF.out⟩

set_option maxHeartbeats 1000000 in
theorem rlist12_any (x y m n : Int) (w : World) :
    Calls Try.prog 8 #[.int .i64 x, .int .i64 y, .int .i64 m, .int .i64 n] w fun e w' => PartsMade w w' e (partsN x y m n) (partsL x y m n) := by
  cases hok : splitOk x y m n with
  | true =>
    obtain ⟨u, v, i, j, rfl, rfl, rfl, rfl, h1, h2, h3, h4, h5, h6, h7, h8⟩ := splitOk_nat hok
    rw [partsN_nat hok]
    exact rlist12_go u v i j w h1 h2 h3 h4 h5 h6 h7 h8
  | false =>
    rw [partsN_no hok]
    go_enter Try.func8, Try.ntmps8
    go_wp2_with fail
    refine (rright12_any _ _ _ _ _).mono ?_
    rintro e w1 ⟨rfl, hw1⟩
    rw [hw1, hok]
    clear hw1
    go_wp2
    go_ret
    exact ⟨none, 0, 0, rfl, Cls.nil _ _ _ _, fun h => absurd h (by omega), Fr.refl _ _⟩
end Go.Proofs.Ytfnacnelmkemeaa
