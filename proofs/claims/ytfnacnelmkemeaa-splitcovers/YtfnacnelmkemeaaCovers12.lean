/-
  Law 12, SplitCovers: the closure that is told places, and the walk.
-/
import Derived.BigQuiet
import Derived.Deep.DeepCutAuto
import Derived.Test.YtfnacnelmkemeaaFirst12
import Derived.Test.YtfnacnelmkemeaaSplitC
import Derived.Test.YtfnacnelmkemeaaSplitT
import Derived.Test.YtfnacnelmkemeaaWeaveP
import Derived.Test.YtfnacnelmkemeaaWeaveL
namespace Go.Proofs.Ytfnacnelmkemeaa
open Go.RowKit

theorem wrap64_nat (a b : Nat) (h : a + b ≤ 1000000) : wrap64 ((a : Int) + (b : Int)) = ((a + b : Nat) : Int) := by unfold wrap64; omega
/-- The places of a part that Points tells, as numbers. -/
theorem pointsPart (R : RectN) (hw : R.w ≤ 1024) (hh : R.h ≤ 1024) : ∃ (X' Y' : Int) (u v : Nat), u ≤ 1024 ∧ v ≤ 1024 ∧ u * v = R.w * R.h ∧ (if pointsOk (R.w : Int) (R.h : Int) then #[Value.int .i64 (R.x : Int), Value.int .i64 (R.y : Int), Value.int .i64 (R.w : Int), Value.int .i64 (R.h : Int)] else #[Value.int .i64 0, Value.int .i64 0, Value.int .i64 0, Value.int .i64 0]) = #[Value.int .i64 X', Value.int .i64 Y', Value.int .i64 (u : Int), Value.int .i64 (v : Int)] ∧ (0 < u * v → X' = (R.x : Int) ∧ Y' = (R.y : Int) ∧ u = R.w) := by
  cases h : pointsOk (R.w : Int) (R.h : Int) with
  | true => exact ⟨R.x, R.y, R.w, R.h, hw, hh, rfl, rfl, fun _ => ⟨rfl, rfl, rfl⟩⟩
  | false =>
    refine ⟨0, 0, 0, 0, by omega, by omega, ?_, rfl, fun h => absurd h (by omega)⟩
    have : R.w = 0 ∨ R.h = 0 := by
      simp only [pointsOk, Bool.and_eq_false_iff, amongZ_false] at h
      omega
    rcases this with e | e <;> rw [e] <;> simp

set_option maxHeartbeats 2000000 in
/-- The closure that is told places. -/
theorem covers1_go (x y d c k px py n : Nat) (V : Nat → Int) (gs bs ba bb bm bn bi : Nat) (w : World) (h1 : 1 ≤ x) (h2 : x ≤ 60) (h3 : 1 ≤ y) (h4 : y ≤ 60) (h5 : 1 ≤ d) (h6 : d ≤ 64) (h7 : 1 ≤ c) (h8 : c ≤ 64)
    (hpx : px < x) (hpy : py < y) (hk : ofK x y d c px py = k) (hn : x * y = n) (hV : V (py * x + px) = 0)
    (hR : Row w gs n V) (hBs : Blk w bs #[.slice (some ⟨gs, 0, none⟩) n n] 41) (hBa : Blk w ba #[.int .i64 (x : Int)] 3) (hBb : Blk w bb #[.int .i64 (y : Int)] 3) (hBm : Blk w bm #[.int .i64 (d : Int)] 3) (hBn : Blk w bn #[.int .i64 (c : Int)] 3) (hBi : Blk w bi #[.int .i64 (k : Int)] 3)
    (n1 : gs ≠ ba) (n2 : gs ≠ bb) (n3 : gs ≠ bm) (n4 : gs ≠ bn) (n5 : gs ≠ bi) :
    Calls Try.prog 17 #[.int .i64 (px : Int), .int .i64 (py : Int), .pointer (some ⟨bs, 0, none⟩), .pointer (some ⟨ba, 0, none⟩), .pointer (some ⟨bb, 0, none⟩), .pointer (some ⟨bm, 0, none⟩), .pointer (some ⟨bn, 0, none⟩), .pointer (some ⟨bi, 0, none⟩)] w fun e w' =>
      e = .returned (.bool true) ∧ Row w' gs n (fun j => if j = py * x + px then 1 else V j) ∧ Fr (fun j => j = gs) w w' := by
  obtain ⟨s, hs⟩ : ∃ s, py * x = s := ⟨_, rfl⟩
  obtain ⟨j, hj⟩ : ∃ j, s + px = j := ⟨_, rfl⟩
  have hsI : (py : Int) * (x : Int) = (s : Int) := by rw [← hs, Int.natCast_mul]
  have hjI : (s : Int) + (px : Int) = (j : Int) := by omega
  have hsl : s ≤ 3600 := by rw [← hs]; exact Nat.mul_le_mul (show py ≤ 60 by omega) h2
  have hjn : j < n := by
    have : py * x + x ≤ y * x := by rw [← Nat.succ_mul]; exact Nat.mul_le_mul_right _ (by omega)
    rw [Nat.mul_comm y, hn] at this; omega
  have hn36 : n ≤ 3600 := by rw [← hn]; exact Nat.mul_le_mul h2 h4
  rw [hs, hj] at hV ⊢
  have c0 := hR.cell hjn
  rw [hV] at c0
  have t0 := hR.thaw j
  have cs : w.cell? ⟨bs, 0, none⟩ = some (.slice (some ⟨gs, 0, none⟩) n n) := by rw [hBs.cell]; rfl
  have ca : w.cell? ⟨ba, 0, none⟩ = some (.int .i64 (x : Int)) := by rw [hBa.cell]; rfl
  obtain ⟨W, hW⟩ : ∃ W, W = w.setCell ⟨gs, j, none⟩ (.int .i64 1) := ⟨_, rfl⟩
  have F1 : Fr (fun j => j = gs) w W := by rw [hW]; exact (Fr.refl (fun j => j = gs) w).setCell (p := ⟨gs, j, none⟩) (fun _ => rfl) _
  have R1 : Row W gs n (fun i => if i = j then 1 else V i) := by rw [hW]; exact hR.set j 1
  have d1 : W.cell? ⟨ba, 0, none⟩ = some (.int .i64 (x : Int)) := by rw [(hBa.fr F1 (by omega)).cell]; rfl
  have d2 : W.cell? ⟨bb, 0, none⟩ = some (.int .i64 (y : Int)) := by rw [(hBb.fr F1 (by omega)).cell]; rfl
  have d3 : W.cell? ⟨bm, 0, none⟩ = some (.int .i64 (d : Int)) := by rw [(hBm.fr F1 (by omega)).cell]; rfl
  have d4 : W.cell? ⟨bn, 0, none⟩ = some (.int .i64 (c : Int)) := by rw [(hBn.fr F1 (by omega)).cell]; rfl
  have d5 : W.cell? ⟨bi, 0, none⟩ = some (.int .i64 (k : Int)) := by rw [(hBi.fr F1 (by omega)).cell]; rfl
  have HOf : Hid (∀ wz, Calls Try.prog 11 #[.int .i64 (x : Int), .int .i64 (y : Int), .int .i64 (d : Int), .int .i64 (c : Int), .int .i64 (px : Int), .int .i64 (py : Int)] wz fun e w' => e = .returned (.int .i64 (k : Int)) ∧ w' = wz) := fun wz => by
    have := sof_any x y d c px py wz
    rwa [ofZ_nat (splitOk_of h1 (by omega) h3 (by omega) h5 h6 h7 h8) hpx hpy, hk] at this
  have HW := hid hW
  have HR1 := hid R1
  have HF1 := hid F1
  clear hW R1 F1 hs hj hn hk hV hR hBs hBa hBb hBm hBn hBi
  go_enter Try.func17, Try.ntmps17
  go_wp2
  rw [← HW.out]
  clear c0 t0 cs ca
  go_quiet (first | (go_at_call 11; exact Calls.quiet_of_same (HOf.out _)))
  obtain ⟨w3, hw3⟩ : ∃ w3, w3 = W.drewN nq := ⟨_, rfl⟩
  have HR3 : Hid (Row w3 gs n (fun i => if i = j then 1 else V i)) := by rw [hw3]; exact HR1.out.quiet ((Fr.refl _ W).drewN _)
  have HF3 : Hid (Fr (fun j => j = gs) w w3) := by rw [hw3]; exact HF1.out.drewN _
  rw [← hw3]
  clear hw3 HW HR1 HF1
  go_wp2
  go_ret
  exact ⟨rfl, HR3.out, HF3.out⟩

set_option maxRecDepth 100000 in
set_option maxHeartbeats 4000000 in
theorem covers12_walk (a0 a1 p0 p1 : Nat) (b0 : a0 < 256) (b1 : a1 < 256) (e0 : p0 < 256) (e1 : p1 < 256) (w : World) :
    Calls Try.prog 5 #[.int .u8 (a0 : Int), .int .u8 (a1 : Int), .agg #[.int .u8 (p0 : Int), .int .u8 (p1 : Int)]] w fun e w' => e = .returned (.bool true) ∧ Below w.heap.size w w' := by
  obtain ⟨W, hW⟩ : ∃ W, W = w.alloc (.cells #[.int .u8 (p0 : Int), .int .u8 (p1 : Int)] 40) := ⟨_, rfl⟩
  have F0 : Fr (fun _ => False) w W := by rw [hW]; exact (Fr.refl _ w).alloc _
  have O0 : Blk W w.heap.size #[.int .u8 (p0 : Int), .int .u8 (p1 : Int)] 40 := by rw [hW]; exact Blk.new _ _ _
  have HW := hid hW
  clear hW
  obtain ⟨r0, hr0⟩ : ∃ r, a0 % 60 = r := ⟨_, rfl⟩
  obtain ⟨r1, hr1⟩ : ∃ r, a1 % 60 = r := ⟨_, rfl⟩
  obtain ⟨s0, hs0⟩ : ∃ r, p0 % 64 = r := ⟨_, rfl⟩
  obtain ⟨s1, hs1⟩ : ∃ r, p1 % 64 = r := ⟨_, rfl⟩
  obtain ⟨x, hx⟩ : ∃ x, 1 + r0 = x := ⟨_, rfl⟩
  obtain ⟨y, hy⟩ : ∃ y, 1 + r1 = y := ⟨_, rfl⟩
  obtain ⟨d, hd⟩ : ∃ d, 1 + s0 = d := ⟨_, rfl⟩
  obtain ⟨c, hc⟩ : ∃ c, 1 + s1 = c := ⟨_, rfl⟩
  have m0 : (a0 : Int) % 60 = (r0 : Int) := by omega
  have m1 : (a1 : Int) % 60 = (r1 : Int) := by omega
  have m2 : (p0 : Int) % 64 = (s0 : Int) := by omega
  have m3 : (p1 : Int) % 64 = (s1 : Int) := by omega
  have u0 : 1 + (r0 : Int) = (x : Int) := by omega
  have u1 : 1 + (r1 : Int) = (y : Int) := by omega
  have u2 : 1 + (s0 : Int) = (d : Int) := by omega
  have u3 : 1 + (s1 : Int) = (c : Int) := by omega
  have hx1 : 1 ≤ x := by omega
  have hx2 : x ≤ 60 := by omega
  have hy1 : 1 ≤ y := by omega
  have hy2 : y ≤ 60 := by omega
  have hd1 : 1 ≤ d := by omega
  have hd2 : d ≤ 64 := by omega
  have hc1 : 1 ≤ c := by omega
  have hc2 : c ≤ 64 := by omega
  have v0 : r0 < 60 := by omega
  have v1 : r1 < 60 := by omega
  have v2 : s0 < 64 := by omega
  have v3 : s1 < 64 := by omega
  have HM := hid (And.intro m0 (And.intro m1 (And.intro m2 m3)))
  clear hr0 hr1 hs0 hs1 hx hy hd hc m0 m1 m2 m3
  go_enter Try.func5, Try.ntmps5
  go_wp2_with fail
  rw [← HW.out]
  refine (first12_any W).mono ?_
  rintro e w1 ⟨rfl, f1⟩
  have HP0 := hid (O0.fr f1 (fun h => h))
  have HF1 := hid (F0.trans' f1)
  have hsz1 : w.heap.size + 1 ≤ w1.heap.size := by have := HP0.out.lt; omega
  clear O0 F0 f1 HW
  go_upto_region 3 with (fail)
  go_cut [7, 8, 9, 10] (fun t7 t8 t9 t10 wx => ∃ q0 q1 q2 q3, t7 = .pointer (some ⟨q0, 0, none⟩) ∧ t8 = .pointer (some ⟨q1, 0, none⟩) ∧ t9 = .pointer (some ⟨q2, 0, none⟩) ∧ t10 = .pointer (some ⟨q3, 0, none⟩) ∧ Blk wx q0 #[.int .i64 (x : Int)] 3 ∧ Blk wx q1 #[.int .i64 (y : Int)] 3 ∧ Blk wx q2 #[.int .i64 (d : Int)] 3 ∧ Blk wx q3 #[.int .i64 (c : Int)] 3 ∧ w.heap.size + 1 ≤ q0 ∧ w.heap.size + 1 ≤ q1 ∧ w.heap.size + 1 ≤ q2 ∧ w.heap.size + 1 ≤ q3 ∧ Fr (fun _ => False) w wx)
  case first =>
    have HQ : Hid (∀ wq, Fr (fun _ => False) w1.drew wq → wq.cell? ⟨w.heap.size, 0, none⟩ = some (.int .u8 (p0 : Int)) ∧ wq.cell? ⟨w.heap.size, 1, none⟩ = some (.int .u8 (p1 : Int)) ∧ w.heap.size + 1 ≤ wq.heap.size) := fun wq f => by
      have f' := (Fr.refl (fun _ => False) w1).drew.trans' f
      have h := HP0.out.fr f' (fun h => h)
      exact ⟨by rw [h.cell]; rfl, by rw [h.cell]; rfl, by have := f'.size; omega⟩
    refine weaveL 22 [.eq (Value.int .u8 (a0 : Int)), .eq (Value.int .u8 (r0 : Int)), .eq (Value.int .i64 (r0 : Int)), .eq (Value.int .i64 (x : Int)), .eq (Value.int .u8 (a1 : Int)), .eq (Value.int .u8 (r1 : Int)), .eq (Value.int .i64 (r1 : Int)), .eq (Value.int .i64 (y : Int)), .eq (Value.pointer (some ⟨w.heap.size, 0, none⟩)), .eq (Value.int .u8 (p0 : Int)), .eq (Value.int .u8 (s0 : Int)), .eq (Value.int .i64 (s0 : Int)), .eq (Value.int .i64 (d : Int)), .eq (Value.pointer (some ⟨w.heap.size, 1, none⟩)), .eq (Value.int .u8 (p1 : Int)), .eq (Value.int .u8 (s1 : Int)), .eq (Value.int .i64 (s1 : Int)), .eq (Value.int .i64 (c : Int)), .box (w.heap.size + 1) #[Value.int .i64 0] 3, .box (w.heap.size + 1) #[Value.int .i64 0] 3, .box (w.heap.size + 1) #[Value.int .i64 0] 3, .box (w.heap.size + 1) #[Value.int .i64 0] 3] [(22, 18, .box (w.heap.size + 1) #[Value.int .i64 (x : Int)] 3), (23, 19, .box (w.heap.size + 1) #[Value.int .i64 (y : Int)] 3), (24, 20, .box (w.heap.size + 1) #[Value.int .i64 (d : Int)] 3), (25, 21, .box (w.heap.size + 1) #[Value.int .i64 (c : Int)] 3)] [18, 19, 20, 21] (by kernel_rfl) (by kernel_rfl) (by kernel_rfl) (by decide) ?obls ?tail
    case obls =>
      refine ⟨?_, ?_, ?_, ?_, ?_, ?_, ?_, ?_, ?_, ?_, ?_, ?_, ?_, ?_, ?_, ?_, ?_, ?_, ?_, ?_, ?_, ?_, ?_, ?_, ?_, ?_, trivial⟩
      · intro vals wq f h
        change wpList _ _ (Out _ _ _) _ _ wq
        simp only [fillA, fillT, List.setIfInBounds_toArray, List.set_cons_succ, List.set_cons_zero, Option.getD_some, Nat.zero_add, Nat.reduceAdd]
        obtain ⟨y0, y1, hszq⟩ := HQ.out wq f
        clear h
        go_wp2
        exact ⟨rfl, rfl, _, rfl, Fr.refl _ _, rfl, NewB.no (by decide)⟩
      · intro vals wq f h
        change wpList _ _ (Out _ _ _) _ _ wq
        simp only [fillA, fillT, List.setIfInBounds_toArray, List.set_cons_succ, List.set_cons_zero, Option.getD_some, Nat.zero_add, Nat.reduceAdd]
        have h0 : vals 0 = Value.int .u8 (a0 : Int) := LocP.via (q := .eq (Value.int .u8 (a0 : Int))) (h 0 (by kernel_rfl)) (by kernel_rfl)
        rw [h0]
        obtain ⟨y0, y1, hszq⟩ := HQ.out wq f
        clear h
        go_wp2
        exact ⟨rfl, rfl, _, rfl, Fr.refl _ _, congrArg (Value.int .u8) HM.out.1, NewB.no (by decide)⟩
      · intro vals wq f h
        change wpList _ _ (Out _ _ _) _ _ wq
        simp only [fillA, fillT, List.setIfInBounds_toArray, List.set_cons_succ, List.set_cons_zero, Option.getD_some, Nat.zero_add, Nat.reduceAdd]
        have h1 : vals 1 = Value.int .u8 (r0 : Int) := LocP.via (q := .eq (Value.int .u8 (r0 : Int))) (h 1 (by kernel_rfl)) (by kernel_rfl)
        rw [h1]
        obtain ⟨y0, y1, hszq⟩ := HQ.out wq f
        clear h
        go_wp2
        exact ⟨rfl, rfl, _, rfl, Fr.refl _ _, rfl, NewB.no (by decide)⟩
      · intro vals wq f h
        change wpList _ _ (Out _ _ _) _ _ wq
        simp only [fillA, fillT, List.setIfInBounds_toArray, List.set_cons_succ, List.set_cons_zero, Option.getD_some, Nat.zero_add, Nat.reduceAdd]
        have h2 : vals 2 = Value.int .i64 (r0 : Int) := LocP.via (q := .eq (Value.int .i64 (r0 : Int))) (h 2 (by kernel_rfl)) (by kernel_rfl)
        rw [h2]
        obtain ⟨y0, y1, hszq⟩ := HQ.out wq f
        clear h
        go_wp2
        exact ⟨rfl, rfl, _, rfl, Fr.refl _ _, rfl, NewB.no (by decide)⟩
      · intro vals wq f h
        change wpList _ _ (Out _ _ _) _ _ wq
        simp only [fillA, fillT, List.setIfInBounds_toArray, List.set_cons_succ, List.set_cons_zero, Option.getD_some, Nat.zero_add, Nat.reduceAdd]
        obtain ⟨y0, y1, hszq⟩ := HQ.out wq f
        clear h
        go_wp2
        exact ⟨rfl, rfl, _, rfl, Fr.refl _ _, rfl, NewB.no (by decide)⟩
      · intro vals wq f h
        change wpList _ _ (Out _ _ _) _ _ wq
        simp only [fillA, fillT, List.setIfInBounds_toArray, List.set_cons_succ, List.set_cons_zero, Option.getD_some, Nat.zero_add, Nat.reduceAdd]
        have h4 : vals 4 = Value.int .u8 (a1 : Int) := LocP.via (q := .eq (Value.int .u8 (a1 : Int))) (h 4 (by kernel_rfl)) (by kernel_rfl)
        rw [h4]
        obtain ⟨y0, y1, hszq⟩ := HQ.out wq f
        clear h
        go_wp2
        exact ⟨rfl, rfl, _, rfl, Fr.refl _ _, congrArg (Value.int .u8) HM.out.2.1, NewB.no (by decide)⟩
      · intro vals wq f h
        change wpList _ _ (Out _ _ _) _ _ wq
        simp only [fillA, fillT, List.setIfInBounds_toArray, List.set_cons_succ, List.set_cons_zero, Option.getD_some, Nat.zero_add, Nat.reduceAdd]
        have h5 : vals 5 = Value.int .u8 (r1 : Int) := LocP.via (q := .eq (Value.int .u8 (r1 : Int))) (h 5 (by kernel_rfl)) (by kernel_rfl)
        rw [h5]
        obtain ⟨y0, y1, hszq⟩ := HQ.out wq f
        clear h
        go_wp2
        exact ⟨rfl, rfl, _, rfl, Fr.refl _ _, rfl, NewB.no (by decide)⟩
      · intro vals wq f h
        change wpList _ _ (Out _ _ _) _ _ wq
        simp only [fillA, fillT, List.setIfInBounds_toArray, List.set_cons_succ, List.set_cons_zero, Option.getD_some, Nat.zero_add, Nat.reduceAdd]
        have h6 : vals 6 = Value.int .i64 (r1 : Int) := LocP.via (q := .eq (Value.int .i64 (r1 : Int))) (h 6 (by kernel_rfl)) (by kernel_rfl)
        rw [h6]
        obtain ⟨y0, y1, hszq⟩ := HQ.out wq f
        clear h
        go_wp2
        exact ⟨rfl, rfl, _, rfl, Fr.refl _ _, rfl, NewB.no (by decide)⟩
      · intro vals wq f h
        change wpList _ _ (Out _ _ _) _ _ wq
        simp only [fillA, fillT, List.setIfInBounds_toArray, List.set_cons_succ, List.set_cons_zero, Option.getD_some, Nat.zero_add, Nat.reduceAdd]
        obtain ⟨y0, y1, hszq⟩ := HQ.out wq f
        clear h
        go_wp2
        exact ⟨rfl, rfl, _, rfl, Fr.refl _ _, rfl, NewB.no (by decide)⟩
      · intro vals wq f h
        change wpList _ _ (Out _ _ _) _ _ wq
        simp only [fillA, fillT, List.setIfInBounds_toArray, List.set_cons_succ, List.set_cons_zero, Option.getD_some, Nat.zero_add, Nat.reduceAdd]
        have h8 : vals 8 = Value.pointer (some ⟨w.heap.size, 0, none⟩) := LocP.via (q := .eq (Value.pointer (some ⟨w.heap.size, 0, none⟩))) (h 8 (by kernel_rfl)) (by kernel_rfl)
        rw [h8]
        obtain ⟨y0, y1, hszq⟩ := HQ.out wq f
        clear h
        go_wp2
        exact ⟨rfl, rfl, _, rfl, Fr.refl _ _, rfl, NewB.no (by decide)⟩
      · intro vals wq f h
        change wpList _ _ (Out _ _ _) _ _ wq
        simp only [fillA, fillT, List.setIfInBounds_toArray, List.set_cons_succ, List.set_cons_zero, Option.getD_some, Nat.zero_add, Nat.reduceAdd]
        have h9 : vals 9 = Value.int .u8 (p0 : Int) := LocP.via (q := .eq (Value.int .u8 (p0 : Int))) (h 9 (by kernel_rfl)) (by kernel_rfl)
        rw [h9]
        obtain ⟨y0, y1, hszq⟩ := HQ.out wq f
        clear h
        go_wp2
        exact ⟨rfl, rfl, _, rfl, Fr.refl _ _, congrArg (Value.int .u8) HM.out.2.2.1, NewB.no (by decide)⟩
      · intro vals wq f h
        change wpList _ _ (Out _ _ _) _ _ wq
        simp only [fillA, fillT, List.setIfInBounds_toArray, List.set_cons_succ, List.set_cons_zero, Option.getD_some, Nat.zero_add, Nat.reduceAdd]
        have h10 : vals 10 = Value.int .u8 (s0 : Int) := LocP.via (q := .eq (Value.int .u8 (s0 : Int))) (h 10 (by kernel_rfl)) (by kernel_rfl)
        rw [h10]
        obtain ⟨y0, y1, hszq⟩ := HQ.out wq f
        clear h
        go_wp2
        exact ⟨rfl, rfl, _, rfl, Fr.refl _ _, rfl, NewB.no (by decide)⟩
      · intro vals wq f h
        change wpList _ _ (Out _ _ _) _ _ wq
        simp only [fillA, fillT, List.setIfInBounds_toArray, List.set_cons_succ, List.set_cons_zero, Option.getD_some, Nat.zero_add, Nat.reduceAdd]
        have h11 : vals 11 = Value.int .i64 (s0 : Int) := LocP.via (q := .eq (Value.int .i64 (s0 : Int))) (h 11 (by kernel_rfl)) (by kernel_rfl)
        rw [h11]
        obtain ⟨y0, y1, hszq⟩ := HQ.out wq f
        clear h
        go_wp2
        exact ⟨rfl, rfl, _, rfl, Fr.refl _ _, rfl, NewB.no (by decide)⟩
      · intro vals wq f h
        change wpList _ _ (Out _ _ _) _ _ wq
        simp only [fillA, fillT, List.setIfInBounds_toArray, List.set_cons_succ, List.set_cons_zero, Option.getD_some, Nat.zero_add, Nat.reduceAdd]
        obtain ⟨y0, y1, hszq⟩ := HQ.out wq f
        clear h
        go_wp2
        exact ⟨rfl, rfl, _, rfl, Fr.refl _ _, rfl, NewB.no (by decide)⟩
      · intro vals wq f h
        change wpList _ _ (Out _ _ _) _ _ wq
        simp only [fillA, fillT, List.setIfInBounds_toArray, List.set_cons_succ, List.set_cons_zero, Option.getD_some, Nat.zero_add, Nat.reduceAdd]
        have h13 : vals 13 = Value.pointer (some ⟨w.heap.size, 1, none⟩) := LocP.via (q := .eq (Value.pointer (some ⟨w.heap.size, 1, none⟩))) (h 13 (by kernel_rfl)) (by kernel_rfl)
        rw [h13]
        obtain ⟨y0, y1, hszq⟩ := HQ.out wq f
        clear h
        go_wp2
        exact ⟨rfl, rfl, _, rfl, Fr.refl _ _, rfl, NewB.no (by decide)⟩
      · intro vals wq f h
        change wpList _ _ (Out _ _ _) _ _ wq
        simp only [fillA, fillT, List.setIfInBounds_toArray, List.set_cons_succ, List.set_cons_zero, Option.getD_some, Nat.zero_add, Nat.reduceAdd]
        have h14 : vals 14 = Value.int .u8 (p1 : Int) := LocP.via (q := .eq (Value.int .u8 (p1 : Int))) (h 14 (by kernel_rfl)) (by kernel_rfl)
        rw [h14]
        obtain ⟨y0, y1, hszq⟩ := HQ.out wq f
        clear h
        go_wp2
        exact ⟨rfl, rfl, _, rfl, Fr.refl _ _, congrArg (Value.int .u8) HM.out.2.2.2, NewB.no (by decide)⟩
      · intro vals wq f h
        change wpList _ _ (Out _ _ _) _ _ wq
        simp only [fillA, fillT, List.setIfInBounds_toArray, List.set_cons_succ, List.set_cons_zero, Option.getD_some, Nat.zero_add, Nat.reduceAdd]
        have h15 : vals 15 = Value.int .u8 (s1 : Int) := LocP.via (q := .eq (Value.int .u8 (s1 : Int))) (h 15 (by kernel_rfl)) (by kernel_rfl)
        rw [h15]
        obtain ⟨y0, y1, hszq⟩ := HQ.out wq f
        clear h
        go_wp2
        exact ⟨rfl, rfl, _, rfl, Fr.refl _ _, rfl, NewB.no (by decide)⟩
      · intro vals wq f h
        change wpList _ _ (Out _ _ _) _ _ wq
        simp only [fillA, fillT, List.setIfInBounds_toArray, List.set_cons_succ, List.set_cons_zero, Option.getD_some, Nat.zero_add, Nat.reduceAdd]
        have h16 : vals 16 = Value.int .i64 (s1 : Int) := LocP.via (q := .eq (Value.int .i64 (s1 : Int))) (h 16 (by kernel_rfl)) (by kernel_rfl)
        rw [h16]
        obtain ⟨y0, y1, hszq⟩ := HQ.out wq f
        clear h
        go_wp2
        exact ⟨rfl, rfl, _, rfl, Fr.refl _ _, rfl, NewB.no (by decide)⟩
      · intro vals wq f h
        change wpList _ _ (Out _ _ _) _ _ wq
        simp only [fillA, fillT, List.setIfInBounds_toArray, List.set_cons_succ, List.set_cons_zero, Option.getD_some, Nat.zero_add, Nat.reduceAdd]
        obtain ⟨y0, y1, hszq⟩ := HQ.out wq f
        clear h
        have HB := hid (Blk.new wq #[Value.int .i64 0] 3)
        have HL := hid hszq
        go_wp2
        exact ⟨rfl, rfl, _, rfl, (Fr.refl _ wq).alloc _, ⟨_, rfl, HB.out, HL.out⟩, fun _ => ⟨_, rfl, Nat.le_refl _, by simp⟩⟩
      · intro vals wq f h
        change wpList _ _ (Out _ _ _) _ _ wq
        simp only [fillA, fillT, List.setIfInBounds_toArray, List.set_cons_succ, List.set_cons_zero, Option.getD_some, Nat.zero_add, Nat.reduceAdd]
        obtain ⟨y0, y1, hszq⟩ := HQ.out wq f
        clear h
        have HB := hid (Blk.new wq #[Value.int .i64 0] 3)
        have HL := hid hszq
        go_wp2
        exact ⟨rfl, rfl, _, rfl, (Fr.refl _ wq).alloc _, ⟨_, rfl, HB.out, HL.out⟩, fun _ => ⟨_, rfl, Nat.le_refl _, by simp⟩⟩
      · intro vals wq f h
        change wpList _ _ (Out _ _ _) _ _ wq
        simp only [fillA, fillT, List.setIfInBounds_toArray, List.set_cons_succ, List.set_cons_zero, Option.getD_some, Nat.zero_add, Nat.reduceAdd]
        obtain ⟨y0, y1, hszq⟩ := HQ.out wq f
        clear h
        have HB := hid (Blk.new wq #[Value.int .i64 0] 3)
        have HL := hid hszq
        go_wp2
        exact ⟨rfl, rfl, _, rfl, (Fr.refl _ wq).alloc _, ⟨_, rfl, HB.out, HL.out⟩, fun _ => ⟨_, rfl, Nat.le_refl _, by simp⟩⟩
      · intro vals wq f h
        change wpList _ _ (Out _ _ _) _ _ wq
        simp only [fillA, fillT, List.setIfInBounds_toArray, List.set_cons_succ, List.set_cons_zero, Option.getD_some, Nat.zero_add, Nat.reduceAdd]
        obtain ⟨y0, y1, hszq⟩ := HQ.out wq f
        clear h
        have HB := hid (Blk.new wq #[Value.int .i64 0] 3)
        have HL := hid hszq
        go_wp2
        exact ⟨rfl, rfl, _, rfl, (Fr.refl _ wq).alloc _, ⟨_, rfl, HB.out, HL.out⟩, fun _ => ⟨_, rfl, Nat.le_refl _, by simp⟩⟩
      · intro vals wq f h
        change wpList _ _ (OutN _ _) _ _ wq
        simp only [fillA, fillT, List.setIfInBounds_toArray, List.set_cons_succ, List.set_cons_zero, Nat.zero_add, Nat.reduceAdd]
        obtain ⟨b18, h18, B18, l18⟩ : BoxAt wq (vals 18) (w.heap.size + 1) #[Value.int .i64 0] 3 := LocP.via (q := .box (w.heap.size + 1) #[Value.int .i64 0] 3) (h 18 (by kernel_rfl)) (by kernel_rfl)
        rw [h18]
        have h3 : vals 3 = Value.int .i64 (x : Int) := LocP.via (q := .eq (Value.int .i64 (x : Int))) (h 3 (by kernel_rfl)) (by kernel_rfl)
        rw [h3]
        obtain ⟨y0, y1, hszq⟩ := HQ.out wq f
        clear h
        have zt : wq.cell? ⟨b18, 0, none⟩ = some (.int .i64 0) := by rw [B18.cell]; rfl
        have yt := B18.thaw
        have HB := hid B18
        clear B18 f
        go_wp2
        exact ⟨rfl, rfl, (Fr.refl _ wq).setCell (p := ⟨b18, 0, none⟩) (fun _ => by first | rfl | (rw [h18]; rfl)) _, b18, (by first | rfl | exact h18), by simpa using HB.out.set 0 (.int .i64 (x : Int)), l18⟩
      · intro vals wq f h
        change wpList _ _ (OutN _ _) _ _ wq
        simp only [fillA, fillT, List.setIfInBounds_toArray, List.set_cons_succ, List.set_cons_zero, Nat.zero_add, Nat.reduceAdd]
        obtain ⟨b19, h19, B19, l19⟩ : BoxAt wq (vals 19) (w.heap.size + 1) #[Value.int .i64 0] 3 := LocP.via (q := .box (w.heap.size + 1) #[Value.int .i64 0] 3) (h 19 (by kernel_rfl)) (by kernel_rfl)
        rw [h19]
        have h7 : vals 7 = Value.int .i64 (y : Int) := LocP.via (q := .eq (Value.int .i64 (y : Int))) (h 7 (by kernel_rfl)) (by kernel_rfl)
        rw [h7]
        obtain ⟨y0, y1, hszq⟩ := HQ.out wq f
        clear h
        have zt : wq.cell? ⟨b19, 0, none⟩ = some (.int .i64 0) := by rw [B19.cell]; rfl
        have yt := B19.thaw
        have HB := hid B19
        clear B19 f
        go_wp2
        exact ⟨rfl, rfl, (Fr.refl _ wq).setCell (p := ⟨b19, 0, none⟩) (fun _ => by first | rfl | (rw [h19]; rfl)) _, b19, (by first | rfl | exact h19), by simpa using HB.out.set 0 (.int .i64 (y : Int)), l19⟩
      · intro vals wq f h
        change wpList _ _ (OutN _ _) _ _ wq
        simp only [fillA, fillT, List.setIfInBounds_toArray, List.set_cons_succ, List.set_cons_zero, Nat.zero_add, Nat.reduceAdd]
        obtain ⟨b20, h20, B20, l20⟩ : BoxAt wq (vals 20) (w.heap.size + 1) #[Value.int .i64 0] 3 := LocP.via (q := .box (w.heap.size + 1) #[Value.int .i64 0] 3) (h 20 (by kernel_rfl)) (by kernel_rfl)
        rw [h20]
        have h12 : vals 12 = Value.int .i64 (d : Int) := LocP.via (q := .eq (Value.int .i64 (d : Int))) (h 12 (by kernel_rfl)) (by kernel_rfl)
        rw [h12]
        obtain ⟨y0, y1, hszq⟩ := HQ.out wq f
        clear h
        have zt : wq.cell? ⟨b20, 0, none⟩ = some (.int .i64 0) := by rw [B20.cell]; rfl
        have yt := B20.thaw
        have HB := hid B20
        clear B20 f
        go_wp2
        exact ⟨rfl, rfl, (Fr.refl _ wq).setCell (p := ⟨b20, 0, none⟩) (fun _ => by first | rfl | (rw [h20]; rfl)) _, b20, (by first | rfl | exact h20), by simpa using HB.out.set 0 (.int .i64 (d : Int)), l20⟩
      · intro vals wq f h
        change wpList _ _ (OutN _ _) _ _ wq
        simp only [fillA, fillT, List.setIfInBounds_toArray, List.set_cons_succ, List.set_cons_zero, Nat.zero_add, Nat.reduceAdd]
        obtain ⟨b21, h21, B21, l21⟩ : BoxAt wq (vals 21) (w.heap.size + 1) #[Value.int .i64 0] 3 := LocP.via (q := .box (w.heap.size + 1) #[Value.int .i64 0] 3) (h 21 (by kernel_rfl)) (by kernel_rfl)
        rw [h21]
        have h17 : vals 17 = Value.int .i64 (c : Int) := LocP.via (q := .eq (Value.int .i64 (c : Int))) (h 17 (by kernel_rfl)) (by kernel_rfl)
        rw [h17]
        obtain ⟨y0, y1, hszq⟩ := HQ.out wq f
        clear h
        have zt : wq.cell? ⟨b21, 0, none⟩ = some (.int .i64 0) := by rw [B21.cell]; rfl
        have yt := B21.thaw
        have HB := hid B21
        clear B21 f
        go_wp2
        exact ⟨rfl, rfl, (Fr.refl _ wq).setCell (p := ⟨b21, 0, none⟩) (fun _ => by first | rfl | (rw [h21]; rfl)) _, b21, (by first | rfl | exact h21), by simpa using HB.out.set 0 (.int .i64 (c : Int)), l21⟩
    case tail =>
      intro vals wq f h hA
      simp only [fillA, fillT, List.setIfInBounds_toArray, List.set_cons_succ, List.set_cons_zero, Nat.zero_add, Nat.reduceAdd]
      obtain ⟨b18, h18, B18, l18⟩ : BoxAt wq (vals 18) (w.heap.size + 1) #[Value.int .i64 (x : Int)] 3 := LocP.via (q := .box (w.heap.size + 1) #[Value.int .i64 (x : Int)] 3) (h 18 (by omega)) (by kernel_rfl)
      rw [h18]
      obtain ⟨b19, h19, B19, l19⟩ : BoxAt wq (vals 19) (w.heap.size + 1) #[Value.int .i64 (y : Int)] 3 := LocP.via (q := .box (w.heap.size + 1) #[Value.int .i64 (y : Int)] 3) (h 19 (by omega)) (by kernel_rfl)
      rw [h19]
      obtain ⟨b20, h20, B20, l20⟩ : BoxAt wq (vals 20) (w.heap.size + 1) #[Value.int .i64 (d : Int)] 3 := LocP.via (q := .box (w.heap.size + 1) #[Value.int .i64 (d : Int)] 3) (h 20 (by omega)) (by kernel_rfl)
      rw [h20]
      obtain ⟨b21, h21, B21, l21⟩ : BoxAt wq (vals 21) (w.heap.size + 1) #[Value.int .i64 (c : Int)] 3 := LocP.via (q := .box (w.heap.size + 1) #[Value.int .i64 (c : Int)] 3) (h 21 (by omega)) (by kernel_rfl)
      rw [h21]
      have HFE := hid (HF1.out.trans' ((Fr.refl (fun _ => False) w1).drew.trans' f))
      have HR := hid (And.intro B18 (And.intro B19 (And.intro B20 B21)))
      have HL := hid (And.intro l18 (And.intro l19 (And.intro l20 l21)))
      clear h h18 h19 h20 h21 B18 B19 B20 B21 l18 l19 l20 l21 hA f
      go_wp2
      go_meet
      exact ⟨b18, b19, b20, b21, rfl, rfl, rfl, rfl, HR.out.1, HR.out.2.1, HR.out.2.2.1, HR.out.2.2.2, HL.out.1, HL.out.2.1, HL.out.2.2.1, HL.out.2.2.2, HFE.out⟩
  case rest =>
    obtain ⟨q0, q1, q2, q3, rfl, rfl, rfl, rfl, B0, B1, B2, B3, l0, l1, l2, l3, F⟩ := hcut
    obtain ⟨n, hn⟩ : ∃ n, x * y = n := ⟨_, rfl⟩
    have hnI : (x : Int) * (y : Int) = (n : Int) := by rw [← hn, Int.natCast_mul]
    have hn36 : n ≤ 3600 := by rw [← hn]; exact Nat.mul_le_mul hx2 hy2
    have HN := hid hn
    have HB := hid (And.intro B0 (And.intro B1 (And.intro B2 B3)))
    have HFc := hid F
    have HLow := hid (And.intro l0 (And.intro l1 (And.intro l2 l3)))
    have HUp := hid (And.intro B0.lt (And.intro B1.lt (And.intro B2.lt B3.lt)))
    have c0 : wc.cell? ⟨q0, 0, none⟩ = some (.int .i64 (x : Int)) := by rw [B0.cell]; rfl
    have c1 : wc.cell? ⟨q1, 0, none⟩ = some (.int .i64 (y : Int)) := by rw [B1.cell]; rfl
    clear hn B0 B1 B2 B3 F l0 l1 l2 l3 HM u0 u1 u2 u3 v0 v1 v2 v3 HF1 HP0 hsz1
    have hmk : ∀ w : World, (Instr.makeSlice 41 (.int .i64 (n : Int)) (.int .i64 (n : Int))).run Try.prog w = .ok (.slice (some ⟨w.heap.size, 0, none⟩) n n) (w.alloc (.cells (madeCells #[.int .i64 0] n) 3)) := run_make_row' (P := Try.prog) 41 3 (.int .i64 0) 8 Try.underlying41 Try.info_int rfl .i64 .i64 n (by omega) (by omega)
    obtain ⟨W5, hW5⟩ : ∃ W5, W5 = (((wc.alloc (.cells (madeCells #[.int .i64 0] n) 3)).alloc (.cells #[.slice (some ⟨wc.heap.size, 0, none⟩) n n] 41))) := ⟨_, rfl⟩
    have f5 : Fr (fun _ => False) wc W5 := by rw [hW5]; exact ((Fr.refl _ wc).alloc _).alloc _
    have R5 : Row W5 wc.heap.size n (fun _ => 0) := by rw [hW5]; exact (Row.made wc n).quiet ((Fr.refl _ _).alloc _)
    have S5 : Blk W5 (wc.heap.size + 1) #[.slice (some ⟨wc.heap.size, 0, none⟩) n n] 41 := by
      rw [hW5]
      have := Blk.new (wc.alloc (.cells (madeCells #[.int .i64 0] n) 3)) #[.slice (some ⟨wc.heap.size, 0, none⟩) n n] 41
      simpa using this
    have c05 : W5.cell? ⟨q0, 0, none⟩ = some (.int .i64 (x : Int)) := by rw [(HB.out.1.fr f5 (fun h => h)).cell]; rfl
    have HW5 := hid hW5
    clear hW5
    go_upto_region 5 with (fail)
    rw [← HW5.out]
    clear c0 c1 hmk HW5
    go_upto_region 6 with (fail)
    obtain ⟨W6, hW6⟩ : ∃ W6, W6 = W5.alloc (.cells #[.int .i64 (x : Int), .int .i64 0] 22) := ⟨_, rfl⟩
    have f6 : Fr (fun _ => False) W5 W6 := by rw [hW6]; exact (Fr.refl _ W5).alloc _
    have D6 : Blk W6 W5.heap.size #[.int .i64 (x : Int), .int .i64 0] 22 := by rw [hW6]; exact Blk.new _ _ _
    rw [← hW6]
    obtain ⟨gs, hgs⟩ : ∃ g, wc.heap.size = g := ⟨_, rfl⟩
    obtain ⟨bw, hbw⟩ : ∃ g, W5.heap.size = g := ⟨_, rfl⟩
    have hls := S5.lt
    rw [hgs] at R5 S5 hls HUp ⊢
    rw [hbw] at D6 hls ⊢
    have f56 := f5.trans' f6
    have HB6 : Hid (Blk W6 q0 #[.int .i64 (x : Int)] 3 ∧ Blk W6 q1 #[.int .i64 (y : Int)] 3 ∧ Blk W6 q2 #[.int .i64 (d : Int)] 3 ∧ Blk W6 q3 #[.int .i64 (c : Int)] 3 ∧ Blk W6 (gs + 1) #[.slice (some ⟨gs, 0, none⟩) n n] 41) :=
      ⟨HB.out.1.fr f56 (fun h => h), HB.out.2.1.fr f56 (fun h => h), HB.out.2.2.1.fr f56 (fun h => h), HB.out.2.2.2.fr f56 (fun h => h), S5.fr f6 (fun h => h)⟩
    have HF6 := hid (HFc.out.trans' f56)
    have HR6 := hid (R5.quiet f6)
    have HD6 := hid D6
    have hlow : w.heap.size ≤ gs := by have := HLow.out.1; have := HUp.out.1; omega
    have hup6 : bw < W6.heap.size := D6.lt
    have c0 : W6.cell? ⟨q0, 0, none⟩ = some (.int .i64 (x : Int)) := by rw [HB6.out.1.cell]; rfl
    have c1 : W6.cell? ⟨q1, 0, none⟩ = some (.int .i64 (y : Int)) := by rw [HB6.out.2.1.cell]; rfl
    have c2 : W6.cell? ⟨q2, 0, none⟩ = some (.int .i64 (d : Int)) := by rw [HB6.out.2.2.1.cell]; rfl
    have c3 : W6.cell? ⟨q3, 0, none⟩ = some (.int .i64 (c : Int)) := by rw [HB6.out.2.2.2.1.cell]; rfl
    have hok := splitOk_of hx1 (show x ≤ 1024 by omega) hy1 (show y ≤ 1024 by omega) hd1 hd2 hc1 hc2
    have hpn := partsN_nat hok
    have HLi := hid (slist_any x y d c W6)
    rw [hpn] at HLi
    obtain ⟨q, hq⟩ : ∃ q, c * d = q := ⟨_, rfl⟩
    have hq4 : q ≤ 4096 := by rw [← hq]; exact Nat.mul_le_mul hc2 hd2
    rw [hq] at HLi
    have HQ := hid hq
    clear hW6 hgs hbw c05 f5 f6 f56 R5 S5 D6 HB HFc hok hpn hq
    go_wp2_with fail
    refine HLi.out.mono ?_
    rintro e W7 ⟨a7, cap7, b7, rfl, R7, hb7, f7⟩
    have HR7 : Hid (Rcs W7 a7 q cap7 (partK x y d c) b7) := R7
    have hb7l : 0 < q → b7 < W7.heap.size := fun h => R7.lt h
    have HB7 : Hid (Blk W7 q0 #[.int .i64 (x : Int)] 3 ∧ Blk W7 q1 #[.int .i64 (y : Int)] 3 ∧ Blk W7 q2 #[.int .i64 (d : Int)] 3 ∧ Blk W7 q3 #[.int .i64 (c : Int)] 3 ∧ Blk W7 (gs + 1) #[.slice (some ⟨gs, 0, none⟩) n n] 41) :=
      ⟨HB6.out.1.fr f7 (fun h => h), HB6.out.2.1.fr f7 (fun h => h), HB6.out.2.2.1.fr f7 (fun h => h), HB6.out.2.2.2.1.fr f7 (fun h => h), HB6.out.2.2.2.2.fr f7 (fun h => h)⟩
    have HF7 := hid (HF6.out.trans' f7)
    have HRow7 := hid (HR6.out.quiet f7)
    have HD7 := hid (HD6.out.fr f7 (fun h => h))
    have hsz7 := f7.size
    obtain ⟨nr, hnr⟩ : ∃ nr, x / d = nr := ⟨_, rfl⟩
    have hnrx : nr ≤ x := by rw [← hnr]; exact Nat.div_le_self _ _
    have HNr : Hid (∀ k, nr ≤ (partK x y d c k).w ∧ (partK x y d c k).w ≤ nr + 1) := fun k => by rw [← hnr]; exact wide_near hd1
    clear R7 f7 HB6 HF6 HR6 HD6 HLi c0 c1 c2 c3 hnr
    go_wp2
    go_loopw [49] (fun i wr => ∃ k : Nat, k ≤ q ∧ i = .int .i64 (k : Int) ∧ Row wr gs n (fun j => ((covP x y d c k 0 j : Nat) : Int)) ∧ (∃ lo hi : Nat, nr ≤ lo ∧ lo ≤ 60 ∧ hi ≤ nr + 1 ∧ Blk wr bw #[.int .i64 (lo : Int), .int .i64 (hi : Int)] 22) ∧ Fr (fun j => j = gs ∨ j = bw) W7 wr) (fun i _ => q - (intOf i).toNat)
    case atStart => exact ⟨0, Nat.zero_le _, rfl, HRow7.out.congr (fun j _ => by rw [covP_zero]; rfl), ⟨x, 0, hnrx, hx2, by omega, HD7.out⟩, Fr.refl _ _⟩
    case round =>
      obtain ⟨k, hk, rfl, hRow, ⟨lo, hi, hlo, hlo2, hhi, hD⟩, hF⟩ := hrel
      by_cases hlt : k < q
      · have hki : (k : Int) < (q : Int) := by omega
        have hRr := HR7.out.fr hF (fun h => by have := hb7 h; omega)
        have hcl := hRr.cells hlt
        obtain rfl := hRr.addr (by omega)
        have hnk := HNr.out k
        have hkd : k < d * c := by have := HQ.out; rw [Nat.mul_comm]; omega
        have hwi := partK_within (w := x) (h := y) hd1 hc1 hkd
        obtain ⟨R, hRe⟩ : ∃ R, partK x y d c k = R := ⟨_, rfl⟩
        rw [hRe] at hcl hnk hwi
        obtain ⟨k0, k1, k2, k3⟩ := hcl
        obtain ⟨X', Y', u, v, hu, hv, huv, hcs, hpos⟩ := pointsPart R (by omega) (by omega)
        have HPt := hid (fun wz => spoints_any (R.x : Int) (R.y : Int) (R.w : Int) (R.h : Int) wz)
        rw [hcs] at HPt
        obtain ⟨lo2, hlo2e⟩ : ∃ l, min lo R.w = l := ⟨_, rfl⟩
        obtain ⟨hi2, hhi2e⟩ : ∃ l, max hi R.w = l := ⟨_, rfl⟩
        have HMin : Hid ((if R.w < lo then (R.w : Int) else (lo : Int)) = (lo2 : Int)) := by show _ = _; split <;> omega
        have HMax : Hid ((if hi < R.w then (R.w : Int) else (hi : Int)) = (hi2 : Int)) := by show _ = _; split <;> omega
        have HLH : Hid (nr ≤ lo2 ∧ lo2 ≤ 60 ∧ hi2 ≤ nr + 1) := ⟨by omega, by omega, by omega⟩
        obtain ⟨W8, hW8⟩ : ∃ W8, W8 = (wr.alloc (.cells #[.int .i64 (k : Int)] 3)).alloc (.cells #[.int .i64 (R.x : Int), .int .i64 (R.y : Int), .int .i64 (R.w : Int), .int .i64 (R.h : Int)] 28) := ⟨_, rfl⟩
        have f8 : Fr (fun _ => False) wr W8 := by rw [hW8]; exact ((Fr.refl _ wr).alloc _).alloc _
        have Bi8 : Blk W8 wr.heap.size #[.int .i64 (k : Int)] 3 := by rw [hW8]; exact (Blk.new _ _ _).alloc _
        have Br8 : Blk W8 (wr.heap.size + 1) #[.int .i64 (R.x : Int), .int .i64 (R.y : Int), .int .i64 (R.w : Int), .int .i64 (R.h : Int)] 28 := by
          rw [hW8]
          have := Blk.new (wr.alloc (.cells #[.int .i64 (k : Int)] 3)) #[.int .i64 (R.x : Int), .int .i64 (R.y : Int), .int .i64 (R.w : Int), .int .i64 (R.h : Int)] 28
          simpa using this
        have D8 := hD.fr f8 (fun h => h)
        have hszF := hF.size
        have hszr : W7.heap.size ≤ wr.heap.size := hszF
        have HW8 := hid hW8
        have d0 : W8.cell? ⟨bw, 0, none⟩ = some (.int .i64 (lo : Int)) := by rw [D8.cell]; rfl
        have d1 : W8.cell? ⟨bw, 1, none⟩ = some (.int .i64 (hi : Int)) := by rw [D8.cell]; rfl
        have dt := D8.thaw
        have r0 : W8.cell? ⟨wr.heap.size + 1, 0, none⟩ = some (.int .i64 (R.x : Int)) := by rw [Br8.cell]; rfl
        have r1 : W8.cell? ⟨wr.heap.size + 1, 1, none⟩ = some (.int .i64 (R.y : Int)) := by rw [Br8.cell]; rfl
        have r2 : W8.cell? ⟨wr.heap.size + 1, 2, none⟩ = some (.int .i64 (R.w : Int)) := by rw [Br8.cell]; rfl
        have r3 : W8.cell? ⟨wr.heap.size + 1, 3, none⟩ = some (.int .i64 (R.h : Int)) := by rw [Br8.cell]; rfl
        obtain ⟨W9, hW9⟩ : ∃ W9, W9 = (W8.setCell ⟨bw, 0, none⟩ (.int .i64 (lo2 : Int))).setCell ⟨bw, 1, none⟩ (.int .i64 (hi2 : Int)) := ⟨_, rfl⟩
        have f9 : Fr (fun j => j = bw) W8 W9 := by rw [hW9]; exact ((Fr.refl (fun j => j = bw) W8).setCell (p := ⟨bw, 0, none⟩) (fun _ => rfl) _).setCell (p := ⟨bw, 1, none⟩) (fun _ => rfl) _
        have D9 : Blk W9 bw #[.int .i64 (lo2 : Int), .int .i64 (hi2 : Int)] 22 := by
          rw [hW9]
          simpa using (D8.set 0 (.int .i64 (lo2 : Int))).set 1 (.int .i64 (hi2 : Int))
        have hbi : wr.heap.size < W8.heap.size := Bi8.lt
        have hbr : wr.heap.size + 1 < W8.heap.size := Br8.lt
        have Bi9 := Bi8.fr f9 (by omega)
        have Br9 := Br8.fr f9 (by omega)
        have s0 : W9.cell? ⟨wr.heap.size + 1, 0, none⟩ = some (.int .i64 (R.x : Int)) := by rw [Br9.cell]; rfl
        have s1 : W9.cell? ⟨wr.heap.size + 1, 1, none⟩ = some (.int .i64 (R.y : Int)) := by rw [Br9.cell]; rfl
        have s2 : W9.cell? ⟨wr.heap.size + 1, 2, none⟩ = some (.int .i64 (R.w : Int)) := by rw [Br9.cell]; rfl
        have s3 : W9.cell? ⟨wr.heap.size + 1, 3, none⟩ = some (.int .i64 (R.h : Int)) := by rw [Br9.cell]; rfl
        have F9 : Fr (fun j => j = gs ∨ j = bw) W7 W9 := (hF.trans f8 (fun _ _ h => h.elim)).trans f9 (fun i _ e => .inr e)
        have Row9 := (hRow.quiet f8).fr f9 (by omega)
        have HW9 := hid hW9
        have HBi := hid Bi9
        have HD9 := hid D9
        have HF9 := hid F9
        have HRow9 := hid Row9
        have HHu := hid (And.intro huv hpos)
        have hRwl : R.w ≤ 60 := by omega
        have hRhl : R.h ≤ 60 := by omega
        have hRxl : R.x ≤ 60 := by omega
        have hRyl : R.y ≤ 60 := by omega
        have HRe := hid hRe
        have hsz9 := f9.size
        clear hRow hD hF hRr hnk hwi hRe huv hcs hpos hlo2e hhi2e hW8 f8 Bi8 Br8 D8 hW9 f9 D9 Bi9 Br9 F9 Row9 hlo hlo2 hhi hszF
        go_upto_region 9 with (fail)
        rw [← HW8.out]
        clear k0 k1 k2 k3
        go_upto_region 10 with (fail)
        rw [HMin.out, HMax.out, ← HW9.out]
        clear d0 d1 dt r0 r1 r2 r3
        go_wp2_with fail
        refine (HPt.out W9).mono ?_
        rintro e W10 ⟨br, rfl, Br, hbr10, f10⟩
        obtain ⟨bi, hbi2⟩ : ∃ b, wr.heap.size = b := ⟨_, rfl⟩
        rw [hbi2] at HBi hszr hbi ⊢
        have HB10 : Hid (Blk W10 q0 #[.int .i64 (x : Int)] 3 ∧ Blk W10 q1 #[.int .i64 (y : Int)] 3 ∧ Blk W10 q2 #[.int .i64 (d : Int)] 3 ∧ Blk W10 q3 #[.int .i64 (c : Int)] 3 ∧ Blk W10 (gs + 1) #[.slice (some ⟨gs, 0, none⟩) n n] 41 ∧ Blk W10 bi #[.int .i64 (k : Int)] 3) := by
          have up := HUp.out
          have F10 := HF9.out.trans f10 (fun _ _ h => h.elim)
          exact ⟨HB7.out.1.fr F10 (by omega), HB7.out.2.1.fr F10 (by omega), HB7.out.2.2.1.fr F10 (by omega), HB7.out.2.2.2.1.fr F10 (by omega), HB7.out.2.2.2.2.fr F10 (by omega), HBi.out.fr f10 (fun h => h)⟩
        have HR10 := hid (HRow9.out.quiet f10)
        have HD10 := hid (HD9.out.fr f10 (fun h => h))
        have HF10 : Hid (Fr (fun j => j = gs ∨ j = bw) W7 W10) := HF9.out.trans f10 (fun _ _ h => h.elim)
        have HC1 : Hid (Calls Try.prog 20 #[.func (.func 17) #[] #[.pointer (some ⟨gs + 1, 0, none⟩), .pointer (some ⟨q0, 0, none⟩), .pointer (some ⟨q1, 0, none⟩), .pointer (some ⟨q2, 0, none⟩), .pointer (some ⟨q3, 0, none⟩), .pointer (some ⟨bi, 0, none⟩)], .pointer (some ⟨br, 0, none⟩)] W10 fun e w' => e = .returned (.tuple #[]) ∧ Row w' gs n (fun j => ((covP x y d c (k + 1) 0 j : Nat) : Int)) ∧ Fr (fun j => j = gs) W10 w') := by
          obtain ⟨huv, hpos⟩ := HHu.out
          have hRe := HRe.out
          have hkd : k < d * c := by have := HQ.out; rw [Nat.mul_comm]; omega
          have hbg : gs < br := by omega
          refine (spoints1_call 17 #[.pointer (some ⟨gs + 1, 0, none⟩), .pointer (some ⟨q0, 0, none⟩), .pointer (some ⟨q1, 0, none⟩), .pointer (some ⟨q2, 0, none⟩), .pointer (some ⟨q3, 0, none⟩), .pointer (some ⟨bi, 0, none⟩)] br u v X' Y'
            (fun N wz => Blk wz br #[.int .i64 X', .int .i64 Y', .int .i64 (u : Int), .int .i64 (v : Int)] 28 ∧ Row wz gs n (fun j => ((covP x y d c k N j : Nat) : Int)) ∧ Fr (fun j => j = gs) W10 wz)
            (fun _ _ => False) W10 hu hv (fun _ _ => rfl) (fun _ _ h => h.1) ?_ ⟨Br, HR10.out, Fr.refl _ _⟩).mono ?_
          · rintro N wz hN ⟨j1, j2, j3⟩
            obtain ⟨e1, e2, e3⟩ := hpos (by omega)
            rw [e1, e2, e3]
            have hN2 : N < (partK x y d c k).w * (partK x y d c k).h := by rw [hRe]; omega
            obtain ⟨⟨a1, a2⟩, a3⟩ := place_in hx1 hy1 hd1 hc1 hkd hN2
            have hz := covP_here hx1 hy1 hd1 hc1 hkd hN2
            have hst := fun j => covP_step hx1 hy1 hd1 hc1 hkd hN2 j
            rw [hRe] at a1 a2 a3 hz hst
            have w1' : wrap64 ((R.x : Int) + ((N % R.w : Nat) : Int)) = ((R.x + N % R.w : Nat) : Int) := wrap64_nat _ _ (by omega)
            have w2' : wrap64 ((R.y : Int) + ((N / R.w : Nat) : Int)) = ((R.y + N / R.w : Nat) : Int) := wrap64_nat _ _ (by omega)
            rw [w1', w2']
            obtain ⟨z0, z1, z2, z3, z4, z5⟩ := HB10.out
            have up := HUp.out
            refine (covers1_go x y d c k (R.x + N % R.w) (R.y + N / R.w) n _ gs (gs + 1) q0 q1 q2 q3 bi wz hx1 hx2 hy1 hy2 hd1 hd2 hc1 hc2 a1 a2 a3 HN.out (by unfold atP12 at hz; rw [hz]; rfl) j2 (z4.fr j3 (by omega)) (z0.fr j3 (by omega)) (z1.fr j3 (by omega)) (z2.fr j3 (by omega)) (z3.fr j3 (by omega)) (z5.fr j3 (by omega)) (by omega) (by omega) (by omega) (by omega) (by omega)).mono ?_
            rintro e w' ⟨rfl, k2, k3⟩
            have j5 := j1.fr k3 (by omega)
            rw [e1, e2, e3] at j5
            exact .inl ⟨rfl, j5, k2.congr (fun j _ => by rw [hst]; unfold atP12; split <;> rfl), j3.trans' k3⟩
          · rintro e w' ⟨rfl, (⟨_, k2, k3⟩ | ⟨_, _, h⟩)⟩
            · refine ⟨rfl, k2.congr (fun j _ => ?_), k3⟩
              have := covP_next (x := x) (y := y) (d := d) (c := c) (k := k) hx1 hy1 hd1 hc1 j
              rw [hRe] at this
              rw [huv, this]
            · exact h.elim
        clear HB10 HR10 Br f10 HPt HRow9 HD9 HF9 s0 s1 s2 s3
        go_wp2_with fail
        refine HC1.out.mono ?_
        rintro e W11 ⟨rfl, R11, f11⟩
        have HR11 := hid R11
        have HF11 : Hid (Fr (fun j => j = gs ∨ j = bw) W7 W11) := HF10.out.trans f11 (fun i _ e => .inl e)
        have HD11 := hid (HD10.out.fr f11 (by omega))
        clear HC1 R11 f11 HF10 HD10
        go_wp2
        go_roundw
        case rel => exact ⟨k + 1, by omega, by go_num, HR11.out, ⟨lo2, hi2, HLH.out.1, HLH.out.2.1, HLH.out.2.2, HD11.out⟩, HF11.out⟩
        case measure => simp [intOf]; omega
      · have hki : ¬ (k : Int) < (q : Int) := by omega
        obtain rfl : k = q := by omega
        have hkd : k = d * c := by have := HQ.out; rw [Nat.mul_comm]; exact this.symm
        have HR8 : Hid (Row wr gs n (fun _ => 1)) := hRow.congr (fun j hj => by rw [hkd, covP_all hx1 hd1 hc1 (by rw [HN.out]; exact hj)]; rfl)
        have HW8 : Hid (Fr (fun _ => False) w wr) := HF7.out.trans hF (fun i hi e => by
          have := HLow.out.1
          have := HUp.out.1
          omega)
        have HE := hid (HW8.out.below (Nat.le_refl _) (fun _ _ h => h))
        have HD8 := hid hD
        have cs : wr.cell? ⟨gs + 1, 0, none⟩ = some (.slice (some ⟨gs, 0, none⟩) n n) := by rw [(HB7.out.2.2.2.2.fr hF (by omega)).cell]; rfl
        obtain ⟨t, ht⟩ : ∃ t : Int, (hi : Int) - (lo : Int) = t := ⟨_, rfl⟩
        have ht1 : t ≤ 1 := by omega
        have ht2 : -100 ≤ t := by omega
        have HT := hid ht
        obtain ⟨w0, hw0⟩ : ∃ w0, w0 = wr := ⟨_, rfl⟩
        rw [← hw0] at HR8 HE HD8 cs ⊢
        have hhi3 : hi ≤ 61 := by omega
        clear hw0 hRow hD hF hkd ht HR7 HB7 HF7 HRow7 HD7 HNr HW8 hlo hhi
        go_wp2
        go_loopw [72] (fun i wr => ∃ j : Nat, j ≤ n ∧ i = .int .i64 (j : Int) ∧ SameW wr w0) (fun i _ => n - (intOf i).toNat)
        case atStart => exact ⟨0, Nat.zero_le _, rfl, SameW.rfl⟩
        case round =>
          obtain ⟨j, hj, rfl, hs⟩ := hrel
          obtain rfl : w0 = wr := hs.symm
          by_cases hjl : j < n
          · have hji : (j : Int) < (n : Int) := by omega
            have ck := HR8.out.cell hjl
            go_wp2
            go_roundw
            case rel => exact ⟨j + 1, by omega, by go_num, SameW.rfl⟩
            case measure => simp [intOf]; omega
          · have hji : ¬ (j : Int) < (n : Int) := by omega
            have d0 : w0.cell? ⟨bw, 0, none⟩ = some (.int .i64 (lo : Int)) := by rw [HD8.out.cell]; rfl
            have d1 : w0.cell? ⟨bw, 1, none⟩ = some (.int .i64 (hi : Int)) := by rw [HD8.out.cell]; rfl
            have hti := HT.out
            go_wp2
            go_ret
            exact ⟨rfl, HE.out⟩
end Go.Proofs.Ytfnacnelmkemeaa
