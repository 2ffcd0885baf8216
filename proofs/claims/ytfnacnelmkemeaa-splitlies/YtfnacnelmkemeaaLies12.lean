/-
  Law 12, SplitLies: the walk.
-/
import Derived.BigQuiet
import Derived.Test.YtfnacnelmkemeaaFirst12
import Derived.Test.YtfnacnelmkemeaaRef12B
namespace Go.Proofs.Ytfnacnelmkemeaa
open Go.RowKit

set_option maxRecDepth 100000 in
set_option maxHeartbeats 4000000 in
theorem lies12_walk (X Y M N px py : Int) (w : World) :
    Calls Try.prog 3 #[.agg #[.int .i64 X, .int .i64 Y], .agg #[.int .i64 M, .int .i64 N], .agg #[.int .i64 px, .int .i64 py]] w fun e w' => e = .returned (.bool true) ∧ Below w.heap.size w w' := by
  obtain ⟨W, hW⟩ : ∃ W, W = ((w.alloc (.cells #[.int .i64 X, .int .i64 Y] 22)).alloc (.cells #[.int .i64 M, .int .i64 N] 22)).alloc (.cells #[.int .i64 px, .int .i64 py] 22) := ⟨_, rfl⟩
  have F0 : Fr (fun _ => False) w W := by rw [hW]; exact (((Fr.refl _ w).alloc _).alloc _).alloc _
  have O0 : Blk W w.heap.size #[.int .i64 X, .int .i64 Y] 22 := by rw [hW]; exact ((Blk.new _ _ _).alloc _).alloc _
  have O1 : Blk W (w.heap.size + 1) #[.int .i64 M, .int .i64 N] 22 := by
    rw [hW]
    have := Blk.new (w.alloc (.cells #[.int .i64 X, .int .i64 Y] 22)) #[.int .i64 M, .int .i64 N] 22
    simp at this
    exact this.alloc _
  have O2 : Blk W (w.heap.size + 2) #[.int .i64 px, .int .i64 py] 22 := by
    rw [hW]
    have := Blk.new ((w.alloc (.cells #[.int .i64 X, .int .i64 Y] 22)).alloc (.cells #[.int .i64 M, .int .i64 N] 22)) #[.int .i64 px, .int .i64 py] 22
    simpa using this
  have HW := hid hW
  obtain ⟨m, hm⟩ : ∃ m, partsN X Y M N = m := ⟨_, rfl⟩
  obtain ⟨L, hL⟩ : ∃ L, partsL X Y M N = L := ⟨_, rfl⟩
  obtain ⟨ok, hok⟩ : ∃ ok, splitOk X Y M N = ok := ⟨_, rfl⟩
  obtain ⟨z, hz⟩ : ∃ z, ofZ X Y M N px py = z := ⟨_, rfl⟩
  have hm4 : m ≤ 4096 := by rw [← hm]; exact partsN_most _ _ _ _
  have HLi := hid (fun w1 => slist_any X Y M N w1)
  have HRl := hid (fun w1 => rlist12_any X Y M N w1)
  have HRi := hid (fun w1 => sright_any X Y M N w1)
  have HRr := hid (fun w1 => rright12_any X Y M N w1)
  have HOf := hid (fun w1 => sof_any X Y M N px py w1)
  have HRo := hid (fun w1 => rof12_any X Y M N px py w1)
  rw [hm, hL] at HLi HRl
  rw [hok] at HRi HRr
  rw [hz] at HOf HRo
  clear hW hm hL hok hz
  go_enter Try.func3, Try.ntmps3
  go_wp2_with fail
  rw [← HW.out]
  refine (first12_any W).mono ?_
  rintro e w1 ⟨rfl, f1⟩
  have P0 := O0.fr f1 (fun h => h)
  have P1 := O1.fr f1 (fun h => h)
  have F1 := F0.trans' f1
  have c0 : w1.cell? ⟨w.heap.size, 0, none⟩ = some (.int .i64 X) := by rw [P0.cell]; rfl
  have c1 : w1.cell? ⟨w.heap.size, 1, none⟩ = some (.int .i64 Y) := by rw [P0.cell]; rfl
  have c2 : w1.cell? ⟨w.heap.size + 1, 0, none⟩ = some (.int .i64 M) := by rw [P1.cell]; rfl
  have c3 : w1.cell? ⟨w.heap.size + 1, 1, none⟩ = some (.int .i64 N) := by rw [P1.cell]; rfl
  have HP2 := hid (O2.fr f1 (fun h => h))
  have HF1 := hid F1
  clear O0 O1 O2 P0 P1 F0 F1 f1 HW
  go_wp2
  go_quiet (fail)
  obtain ⟨wa, hwa⟩ : ∃ wa, wa = w1.drewN nq := ⟨_, rfl⟩
  have HPa : Hid (Blk wa (w.heap.size + 2) #[.int .i64 px, .int .i64 py] 22) := by rw [hwa]; exact HP2.out.drewN _
  have HFa : Hid (Fr (fun _ => False) w wa) := by rw [hwa]; exact HF1.out.drewN _
  rw [← hwa]
  clear hwa HP2 HF1 c0 c1 c2 c3
  go_wp2_with fail
  refine (HLi.out wa).mono ?_
  rintro e w2 ⟨a2, cap2, b2, rfl, R2, _, f2⟩
  go_wp2_with fail
  refine (HRl.out w2).mono ?_
  rintro e w3 ⟨a3, cap3, b3, rfl, R3, _, f3⟩
  have HR2 := hid (R2.quiet f3)
  have HR3 := hid R3
  have HP3 := hid (HPa.out.fr (f2.trans' f3) (fun h => h))
  have HF3 := hid ((HFa.out.trans' f2).trans' f3)
  clear R2 R3 f2 f3 HPa HFa HLi HRl
  go_wp2_with fail
  refine (HRi.out w3).mono ?_
  rintro e w4 ⟨rfl, hw4⟩
  rw [hw4]
  clear hw4 HRi
  go_wp2_with fail
  refine (HRr.out w3).mono ?_
  rintro e w4 ⟨rfl, hw4⟩
  rw [hw4]
  clear hw4 HRr
  go_wp2
  go_loopw [54] (fun i wr => ∃ k : Nat, k ≤ m ∧ i = .int .i64 (k : Int) ∧ Fr (fun _ => False) w3 wr) (fun i _ => m - (intOf i).toNat)
  case atStart => exact ⟨0, Nat.zero_le _, rfl, Fr.refl _ _⟩
  case round =>
    obtain ⟨k, hk, rfl, hF⟩ := hrel
    by_cases hlt : k < m
    · have hki : (k : Int) < (m : Int) := by omega
      have r2 := HR2.out.quiet hF
      have r3 := HR3.out.quiet hF
      obtain rfl := r2.addr (by omega)
      obtain rfl := r3.addr (by omega)
      have q2 := r2.cells hlt
      have q3 := r3.cells hlt
      generalize L k = r at q2 q3
      obtain ⟨x0, x1, x2, x3⟩ := q2
      obtain ⟨y0, y1, y2, y3⟩ := q3
      have HF := hid hF
      clear hF r2 r3
      go_wp2
      go_quiet (fail)
      obtain ⟨w5, hw5⟩ : ∃ w5, w5 = wr.drewN nq := ⟨_, rfl⟩
      have HF5 : Hid (Fr (fun _ => False) w3 w5) := by rw [hw5]; exact HF.out.drewN _
      rw [← hw5]
      clear hw5 HF x0 x1 x2 x3 y0 y1 y2 y3
      go_wp2
      go_roundw
      case rel => exact ⟨k + 1, by omega, by go_num, HF5.out⟩
      case measure => simp [intOf]; omega
    · have hki : ¬ (k : Int) < (m : Int) := by omega
      obtain ⟨w5, hw5⟩ : ∃ w5, w5 = wr := ⟨_, rfl⟩
      rw [← hw5] at hF ⊢
      have HP5 := hid (HP3.out.fr hF (fun h => h))
      have HF5 := hid (HF3.out.trans' hF)
      have HQ : Hid (∀ wq, Fr (fun _ => False) w5.drew wq → wq.cell? ⟨w.heap.size + 2, 0, none⟩ = some (.int .i64 px) ∧ wq.cell? ⟨w.heap.size + 2, 1, none⟩ = some (.int .i64 py)) := fun wq f => by
        have h := HP5.out.fr ((Fr.refl (fun _ => False) w5).drew.trans' f) (fun h => h)
        exact ⟨by rw [h.cell]; rfl, by rw [h.cell]; rfl⟩
      clear hF hw5 HR2 HR3 HP3 HF3
      go_wp2
      refine weaveST 19 [.eq (Value.int .i64 X), .eq (Value.int .i64 Y), .eq (Value.int .i64 M), .eq (Value.int .i64 N), .eq (Value.pointer (some ⟨w.heap.size + 2, 0, none⟩)), .eq (Value.int .i64 px), .eq (Value.pointer (some ⟨w.heap.size + 2, 1, none⟩)), .eq (Value.int .i64 py), .eq (Value.int .i64 z), .eq (Value.int .i64 X), .eq (Value.int .i64 Y), .eq (Value.int .i64 M), .eq (Value.int .i64 N), .eq (Value.pointer (some ⟨w.heap.size + 2, 0, none⟩)), .eq (Value.int .i64 px), .eq (Value.pointer (some ⟨w.heap.size + 2, 1, none⟩)), .eq (Value.int .i64 py), .eq (Value.int .i64 z), .eq (Value.bool true)] (by kernel_rfl) (by kernel_rfl) ?obls ?tail
      case obls =>
        simp only [List.take_succ_cons, List.take_zero]
        refine ⟨?_, ?_, ?_, ?_, ?_, ?_, ?_, ?_, ?_, ?_, ?_, ?_, ?_, ?_, ?_, ?_, ?_, ?_, ?_, trivial⟩
        · intro vals wq f h
          simp only [fillA, fillT, List.setIfInBounds_toArray, List.set_cons_succ, List.set_cons_zero, Option.getD_some, Nat.zero_add, Nat.reduceAdd]
          obtain ⟨c0, c1⟩ := HQ.out wq f
          clear h
          go_wp2
          exact ⟨rfl, rfl, _, rfl, Fr.refl _ _, rfl⟩
        · intro vals wq f h
          simp only [fillA, fillT, List.setIfInBounds_toArray, List.set_cons_succ, List.set_cons_zero, Option.getD_some, Nat.zero_add, Nat.reduceAdd]
          obtain ⟨c0, c1⟩ := HQ.out wq f
          clear h
          go_wp2
          exact ⟨rfl, rfl, _, rfl, Fr.refl _ _, rfl⟩
        · intro vals wq f h
          simp only [fillA, fillT, List.setIfInBounds_toArray, List.set_cons_succ, List.set_cons_zero, Option.getD_some, Nat.zero_add, Nat.reduceAdd]
          obtain ⟨c0, c1⟩ := HQ.out wq f
          clear h
          go_wp2
          exact ⟨rfl, rfl, _, rfl, Fr.refl _ _, rfl⟩
        · intro vals wq f h
          simp only [fillA, fillT, List.setIfInBounds_toArray, List.set_cons_succ, List.set_cons_zero, Option.getD_some, Nat.zero_add, Nat.reduceAdd]
          obtain ⟨c0, c1⟩ := HQ.out wq f
          clear h
          go_wp2
          exact ⟨rfl, rfl, _, rfl, Fr.refl _ _, rfl⟩
        · intro vals wq f h
          simp only [fillA, fillT, List.setIfInBounds_toArray, List.set_cons_succ, List.set_cons_zero, Option.getD_some, Nat.zero_add, Nat.reduceAdd]
          obtain ⟨c0, c1⟩ := HQ.out wq f
          clear h
          go_wp2
          exact ⟨rfl, rfl, _, rfl, Fr.refl _ _, rfl⟩
        · intro vals wq f h
          simp only [fillA, fillT, List.setIfInBounds_toArray, List.set_cons_succ, List.set_cons_zero, Option.getD_some, Nat.zero_add, Nat.reduceAdd]
          have h4 : vals 4 = Value.pointer (some ⟨w.heap.size + 2, 0, none⟩) := h 4 (by kernel_rfl)
          rw [h4]
          obtain ⟨c0, c1⟩ := HQ.out wq f
          clear h
          go_wp2
          exact ⟨rfl, rfl, _, rfl, Fr.refl _ _, rfl⟩
        · intro vals wq f h
          simp only [fillA, fillT, List.setIfInBounds_toArray, List.set_cons_succ, List.set_cons_zero, Option.getD_some, Nat.zero_add, Nat.reduceAdd]
          obtain ⟨c0, c1⟩ := HQ.out wq f
          clear h
          go_wp2
          exact ⟨rfl, rfl, _, rfl, Fr.refl _ _, rfl⟩
        · intro vals wq f h
          simp only [fillA, fillT, List.setIfInBounds_toArray, List.set_cons_succ, List.set_cons_zero, Option.getD_some, Nat.zero_add, Nat.reduceAdd]
          have h6 : vals 6 = Value.pointer (some ⟨w.heap.size + 2, 1, none⟩) := h 6 (by kernel_rfl)
          rw [h6]
          obtain ⟨c0, c1⟩ := HQ.out wq f
          clear h
          go_wp2
          exact ⟨rfl, rfl, _, rfl, Fr.refl _ _, rfl⟩
        · intro vals wq f h
          simp only [fillA, fillT, List.setIfInBounds_toArray, List.set_cons_succ, List.set_cons_zero, Option.getD_some, Nat.zero_add, Nat.reduceAdd]
          have h0 : vals 0 = Value.int .i64 X := h 0 (by kernel_rfl)
          rw [h0]
          have h1 : vals 1 = Value.int .i64 Y := h 1 (by kernel_rfl)
          rw [h1]
          have h2 : vals 2 = Value.int .i64 M := h 2 (by kernel_rfl)
          rw [h2]
          have h3 : vals 3 = Value.int .i64 N := h 3 (by kernel_rfl)
          rw [h3]
          have h5 : vals 5 = Value.int .i64 px := h 5 (by kernel_rfl)
          rw [h5]
          have h7 : vals 7 = Value.int .i64 py := h 7 (by kernel_rfl)
          rw [h7]
          obtain ⟨c0, c1⟩ := HQ.out wq f
          clear h
          go_wp2_with fail
          refine (HOf.out wq).mono ?_
          rintro e w6 ⟨rfl, hw6⟩
          rw [hw6]
          clear hw6
          go_wp2
          exact ⟨rfl, rfl, _, rfl, Fr.refl _ _, rfl⟩
        · intro vals wq f h
          simp only [fillA, fillT, List.setIfInBounds_toArray, List.set_cons_succ, List.set_cons_zero, Option.getD_some, Nat.zero_add, Nat.reduceAdd]
          obtain ⟨c0, c1⟩ := HQ.out wq f
          clear h
          go_wp2
          exact ⟨rfl, rfl, _, rfl, Fr.refl _ _, rfl⟩
        · intro vals wq f h
          simp only [fillA, fillT, List.setIfInBounds_toArray, List.set_cons_succ, List.set_cons_zero, Option.getD_some, Nat.zero_add, Nat.reduceAdd]
          obtain ⟨c0, c1⟩ := HQ.out wq f
          clear h
          go_wp2
          exact ⟨rfl, rfl, _, rfl, Fr.refl _ _, rfl⟩
        · intro vals wq f h
          simp only [fillA, fillT, List.setIfInBounds_toArray, List.set_cons_succ, List.set_cons_zero, Option.getD_some, Nat.zero_add, Nat.reduceAdd]
          obtain ⟨c0, c1⟩ := HQ.out wq f
          clear h
          go_wp2
          exact ⟨rfl, rfl, _, rfl, Fr.refl _ _, rfl⟩
        · intro vals wq f h
          simp only [fillA, fillT, List.setIfInBounds_toArray, List.set_cons_succ, List.set_cons_zero, Option.getD_some, Nat.zero_add, Nat.reduceAdd]
          obtain ⟨c0, c1⟩ := HQ.out wq f
          clear h
          go_wp2
          exact ⟨rfl, rfl, _, rfl, Fr.refl _ _, rfl⟩
        · intro vals wq f h
          simp only [fillA, fillT, List.setIfInBounds_toArray, List.set_cons_succ, List.set_cons_zero, Option.getD_some, Nat.zero_add, Nat.reduceAdd]
          obtain ⟨c0, c1⟩ := HQ.out wq f
          clear h
          go_wp2
          exact ⟨rfl, rfl, _, rfl, Fr.refl _ _, rfl⟩
        · intro vals wq f h
          simp only [fillA, fillT, List.setIfInBounds_toArray, List.set_cons_succ, List.set_cons_zero, Option.getD_some, Nat.zero_add, Nat.reduceAdd]
          have h13 : vals 13 = Value.pointer (some ⟨w.heap.size + 2, 0, none⟩) := h 13 (by kernel_rfl)
          rw [h13]
          obtain ⟨c0, c1⟩ := HQ.out wq f
          clear h
          go_wp2
          exact ⟨rfl, rfl, _, rfl, Fr.refl _ _, rfl⟩
        · intro vals wq f h
          simp only [fillA, fillT, List.setIfInBounds_toArray, List.set_cons_succ, List.set_cons_zero, Option.getD_some, Nat.zero_add, Nat.reduceAdd]
          obtain ⟨c0, c1⟩ := HQ.out wq f
          clear h
          go_wp2
          exact ⟨rfl, rfl, _, rfl, Fr.refl _ _, rfl⟩
        · intro vals wq f h
          simp only [fillA, fillT, List.setIfInBounds_toArray, List.set_cons_succ, List.set_cons_zero, Option.getD_some, Nat.zero_add, Nat.reduceAdd]
          have h15 : vals 15 = Value.pointer (some ⟨w.heap.size + 2, 1, none⟩) := h 15 (by kernel_rfl)
          rw [h15]
          obtain ⟨c0, c1⟩ := HQ.out wq f
          clear h
          go_wp2
          exact ⟨rfl, rfl, _, rfl, Fr.refl _ _, rfl⟩
        · intro vals wq f h
          simp only [fillA, fillT, List.setIfInBounds_toArray, List.set_cons_succ, List.set_cons_zero, Option.getD_some, Nat.zero_add, Nat.reduceAdd]
          have h9 : vals 9 = Value.int .i64 X := h 9 (by kernel_rfl)
          rw [h9]
          have h10 : vals 10 = Value.int .i64 Y := h 10 (by kernel_rfl)
          rw [h10]
          have h11 : vals 11 = Value.int .i64 M := h 11 (by kernel_rfl)
          rw [h11]
          have h12 : vals 12 = Value.int .i64 N := h 12 (by kernel_rfl)
          rw [h12]
          have h14 : vals 14 = Value.int .i64 px := h 14 (by kernel_rfl)
          rw [h14]
          have h16 : vals 16 = Value.int .i64 py := h 16 (by kernel_rfl)
          rw [h16]
          obtain ⟨c0, c1⟩ := HQ.out wq f
          clear h
          go_wp2_with fail
          refine (HRo.out wq).mono ?_
          rintro e w6 ⟨rfl, f6⟩
          go_wp2
          exact ⟨rfl, rfl, _, rfl, f6, rfl⟩
        · intro vals wq f h
          simp only [fillA, fillT, List.setIfInBounds_toArray, List.set_cons_succ, List.set_cons_zero, Option.getD_some, Nat.zero_add, Nat.reduceAdd]
          have h8 : vals 8 = Value.int .i64 z := h 8 (by kernel_rfl)
          rw [h8]
          have h17 : vals 17 = Value.int .i64 z := h 17 (by kernel_rfl)
          rw [h17]
          obtain ⟨c0, c1⟩ := HQ.out wq f
          clear h
          go_wp2
          exact ⟨rfl, rfl, _, rfl, Fr.refl _ _, rfl⟩
      case tail =>
        intro vals wq f h
        simp only [List.take_succ_cons, List.take_zero, fillA, fillT, List.setIfInBounds_toArray, List.set_cons_succ, List.set_cons_zero, List.drop_succ_cons, List.drop_zero, Nat.zero_add, Nat.reduceAdd]
        have h18 : vals 18 = Value.bool true := h 18 (by omega)
        rw [h18]
        have HE := hid ((HF5.out.trans' ((Fr.refl (fun _ => False) w5).drew.trans' f)).below (Nat.le_refl _) (fun _ _ h => h))
        clear h h18 f
        gi_wp2
        go_wp2
        go_ret
        exact ⟨rfl, HE.out⟩
end Go.Proofs.Ytfnacnelmkemeaa
