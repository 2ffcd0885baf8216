/-
  Law 7, PlaneSums: planes added, subtracted, clipped and compared.
-/
import Derived.Test.YthhhecdnnbgddaaFirst7
import Derived.Test.YthhhecdnnbgddaaBig7
import Derived.Test.YthhhecdnnbgddaaRef7
namespace Go.Proofs.Ythhhecdnnbgddaa
open Go.RowKit

theorem sum_one (u v : Int) : wrap64 (u + wrap64 (1 * v)) = wrap64 (u + v) := by unfold wrap64; omega
theorem sum_minus (u v : Int) : wrap64 (u + wrap64 (-1 * v)) = wrap64 (u - v) := by unfold wrap64; omega

set_option maxRecDepth 100000 in
set_option maxHeartbeats 4000000 in
theorem sums7_main (X Y : Int) (a : Option Addr) (n cap : Nat) (V : Nat → Int) (b : Nat) (X' Y' : Int) (a' : Option Addr) (n' cap' : Nat) (V' : Nat → Int) (b' : Nat) (lo hi : Int) (w : World) (hn : Nums w a n cap V b) (hn' : Nums w a' n' cap' V' b') (hb1 : ¬ 2000 < n) (hb2 : ¬ 2000 < n') :
    Calls Try.prog 3 #[.agg #[.int .i64 X, .int .i64 Y, .slice a n cap], .agg #[.int .i64 X', .int .i64 Y', .slice a' n' cap'], .agg #[.int .i64 lo, .int .i64 hi]] w fun e w' => e = .returned (.bool true) ∧ Fr (fun _ => False) w w' := by
  obtain ⟨sX, sY, sn, sV, HAdd, HSum⟩ : ∃ (sX sY : Int) (sn : Nat) (sV : Nat → Int), Hid (∀ w1, Nums w1 a n cap V b → Nums w1 a' n' cap' V' b' → Calls Try.prog 9 #[.agg #[.int .i64 X, .int .i64 Y, .slice a n cap], .agg #[.int .i64 X', .int .i64 Y', .slice a' n' cap']] w1 fun e w' => Made w1 w' e sX sY sn sV) ∧ Hid (∀ w1, Nums w1 a n cap V b → Nums w1 a' n' cap' V' b' → Calls Try.prog 10 #[.agg #[.int .i64 X, .int .i64 Y, .slice a n cap], .agg #[.int .i64 X', .int .i64 Y', .slice a' n' cap'], .int .i64 1] w1 fun e w' => Made w1 w' e sX sY sn sV) := by
    cases hq : likeP X Y n X' Y' n' with
    | false => exact ⟨0, 0, 0, fun _ => 0, fun w1 _ _ => padd_bad X Y a n cap X' Y' a' n' cap' w1 hq, fun w1 _ _ => rsum_bad X Y a n cap X' Y' a' n' cap' 1 w1 hq⟩
    | true =>
      obtain ⟨rfl, rfl, rfl, hr⟩ := likeP_len hq
      obtain ⟨x, y, rfl, rfl, g1, g2, g3, g4, rfl⟩ := rightP_nat hr
      exact ⟨x, y, x * y, fun j => wrap64 (V j + V' j), fun w1 h h' => padd_go x y a cap V b a' cap' V' b' w1 g1 g2 g3 g4 h h', fun w1 h h' => (rsum_go x y a cap V b a' cap' V' b' 1 w1 g1 g2 g3 g4 h h').mono (fun e w' hM => hM.congr (fun j _ => sum_one _ _))⟩
  obtain ⟨dX, dY, dn, dV, HSub, HDif⟩ : ∃ (dX dY : Int) (dn : Nat) (dV : Nat → Int), Hid (∀ w1, Nums w1 a n cap V b → Nums w1 a' n' cap' V' b' → Calls Try.prog 11 #[.agg #[.int .i64 X, .int .i64 Y, .slice a n cap], .agg #[.int .i64 X', .int .i64 Y', .slice a' n' cap']] w1 fun e w' => Made w1 w' e dX dY dn dV) ∧ Hid (∀ w1, Nums w1 a n cap V b → Nums w1 a' n' cap' V' b' → Calls Try.prog 10 #[.agg #[.int .i64 X, .int .i64 Y, .slice a n cap], .agg #[.int .i64 X', .int .i64 Y', .slice a' n' cap'], .int .i64 (-1)] w1 fun e w' => Made w1 w' e dX dY dn dV) := by
    cases hq : likeP X Y n X' Y' n' with
    | false => exact ⟨0, 0, 0, fun _ => 0, fun w1 _ _ => psub_bad X Y a n cap X' Y' a' n' cap' w1 hq, fun w1 _ _ => rsum_bad X Y a n cap X' Y' a' n' cap' (-1) w1 hq⟩
    | true =>
      obtain ⟨rfl, rfl, rfl, hr⟩ := likeP_len hq
      obtain ⟨x, y, rfl, rfl, g1, g2, g3, g4, rfl⟩ := rightP_nat hr
      exact ⟨x, y, x * y, fun j => wrap64 (V j - V' j), fun w1 h h' => psub_go x y a cap V b a' cap' V' b' w1 g1 g2 g3 g4 h h', fun w1 h h' => (rsum_go x y a cap V b a' cap' V' b' (-1) w1 g1 g2 g3 g4 h h').mono (fun e w' hM => hM.congr (fun j _ => sum_minus _ _))⟩
  obtain ⟨cX, cY, cn, cV, HClip, HRcl⟩ : ∃ (cX cY : Int) (cn : Nat) (cV : Nat → Int), Hid (∀ w1, Nums w1 a n cap V b → Calls Try.prog 12 #[.agg #[.int .i64 X, .int .i64 Y, .slice a n cap], .int .i64 lo, .int .i64 hi] w1 fun e w' => Made w1 w' e cX cY cn cV) ∧ Hid (∀ w1, Nums w1 a n cap V b → Calls Try.prog 13 #[.agg #[.int .i64 X, .int .i64 Y, .slice a n cap], .int .i64 lo, .int .i64 hi] w1 fun e w' => Made w1 w' e cX cY cn cV) := by
    cases hq : rightP X Y n with
    | false => exact ⟨0, 0, 0, fun _ => 0, fun w1 _ => pclip_bad X Y a n cap lo hi w1 hq, fun w1 _ => rclip_bad X Y a n cap lo hi w1 hq⟩
    | true =>
      obtain ⟨x, y, rfl, rfl, g1, g2, g3, g4, rfl⟩ := rightP_nat hq
      exact ⟨x, y, x * y, fun j => clipV lo hi (V j), fun w1 h => pclip_go x y a cap V b lo hi w1 g1 g2 g3 g4 h, fun w1 h => rclip_go x y a cap V b lo hi w1 g1 g2 g3 g4 h⟩
  have HRsS : Hid (∀ w1 a1 cap1 b1 a2 cap2 b2, Nums w1 a1 sn cap1 sV b1 → Nums w1 a2 sn cap2 sV b2 → Calls Try.prog 8 #[.agg #[.int .i64 sX, .int .i64 sY, .slice a1 sn cap1], .agg #[.int .i64 sX, .int .i64 sY, .slice a2 sn cap2]] w1 fun e w' => e = .returned (.bool true) ∧ Fr (fun _ => False) w1 w') := by
    intro w1 a1 cap1 b1 a2 cap2 b2 h h'
    have := rsame_any sX sY a1 sn cap1 sV b1 sX sY a2 sn cap2 sV b2 w1 h h'
    rwa [sameV_self] at this
  have HRsD : Hid (∀ w1 a1 cap1 b1 a2 cap2 b2, Nums w1 a1 dn cap1 dV b1 → Nums w1 a2 dn cap2 dV b2 → Calls Try.prog 8 #[.agg #[.int .i64 dX, .int .i64 dY, .slice a1 dn cap1], .agg #[.int .i64 dX, .int .i64 dY, .slice a2 dn cap2]] w1 fun e w' => e = .returned (.bool true) ∧ Fr (fun _ => False) w1 w') := by
    intro w1 a1 cap1 b1 a2 cap2 b2 h h'
    have := rsame_any dX dY a1 dn cap1 dV b1 dX dY a2 dn cap2 dV b2 w1 h h'
    rwa [sameV_self] at this
  have HRsC : Hid (∀ w1 a1 cap1 b1 a2 cap2 b2, Nums w1 a1 cn cap1 cV b1 → Nums w1 a2 cn cap2 cV b2 → Calls Try.prog 8 #[.agg #[.int .i64 cX, .int .i64 cY, .slice a1 cn cap1], .agg #[.int .i64 cX, .int .i64 cY, .slice a2 cn cap2]] w1 fun e w' => e = .returned (.bool true) ∧ Fr (fun _ => False) w1 w') := by
    intro w1 a1 cap1 b1 a2 cap2 b2 h h'
    have := rsame_any cX cY a1 cn cap1 cV b1 cX cY a2 cn cap2 cV b2 w1 h h'
    rwa [sameV_self] at this
  obtain ⟨R, hR⟩ : ∃ R, R = rightP X Y n := ⟨_, rfl⟩
  have HSelf : Hid (∀ w1, Nums w1 a n cap V b → Calls Try.prog 14 #[.agg #[.int .i64 X, .int .i64 Y, .slice a n cap], .agg #[.int .i64 X, .int .i64 Y, .slice a n cap]] w1 fun e w' => e = .returned (.bool R) ∧ Fr (fun _ => False) w1 w') := by
    intro w1 h
    have := psame_any X Y a n cap V b X Y a n cap V b w1 h h
    rwa [show (likeP X Y n X Y n && eqV n V V) = R by rw [hR]; simp [likeP, eqV]] at this
  have HRight : Hid (∀ w1, Calls Try.prog 16 #[.agg #[.int .i64 X, .int .i64 Y, .slice a n cap]] w1 fun e w' => e = .returned (.bool R) ∧ Fr (fun _ => False) w1 w') := by rw [hR]; exact fun w1 => rright_any X Y a n cap w1
  clear hR
  have HLike := hid (fun w1 => rlike_any X Y a n cap X' Y' a' n' cap' w1)
  obtain ⟨W, hW⟩ : ∃ W, W = ((w.alloc (.cells #[.int .i64 X, .int .i64 Y, .slice a n cap] 24)).alloc (.cells #[.int .i64 X', .int .i64 Y', .slice a' n' cap'] 24)).alloc (.cells #[.int .i64 lo, .int .i64 hi] 25) := ⟨_, rfl⟩
  have F0 : Fr (fun _ => False) w W := by rw [hW]; exact (((Fr.refl _ w).alloc _).alloc _).alloc _
  have O0 : Blk W w.heap.size #[.int .i64 X, .int .i64 Y, .slice a n cap] 24 := by rw [hW]; exact ((Blk.new _ _ _).alloc _).alloc _
  have O1 : Blk W (w.heap.size + 1) #[.int .i64 X', .int .i64 Y', .slice a' n' cap'] 24 := by
    rw [hW]
    have := Blk.new (w.alloc (.cells #[.int .i64 X, .int .i64 Y, .slice a n cap] 24)) #[.int .i64 X', .int .i64 Y', .slice a' n' cap'] 24
    simp at this
    exact this.alloc _
  have O2 : Blk W (w.heap.size + 2) #[.int .i64 lo, .int .i64 hi] 25 := by
    rw [hW]
    have := Blk.new ((w.alloc (.cells #[.int .i64 X, .int .i64 Y, .slice a n cap] 24)).alloc (.cells #[.int .i64 X', .int .i64 Y', .slice a' n' cap'] 24)) #[.int .i64 lo, .int .i64 hi] 25
    simpa using this
  have HW := hid hW
  clear hW
  have HC : Hid (∀ wq, Fr (fun _ => False) W wq → (wq.cell? ⟨w.heap.size, 0, none⟩ = some (.int .i64 X) ∧ wq.cell? ⟨w.heap.size, 1, none⟩ = some (.int .i64 Y) ∧ wq.cell? ⟨w.heap.size, 2, none⟩ = some (.slice a n cap)) ∧ (wq.cell? ⟨w.heap.size + 1, 0, none⟩ = some (.int .i64 X') ∧ wq.cell? ⟨w.heap.size + 1, 1, none⟩ = some (.int .i64 Y') ∧ wq.cell? ⟨w.heap.size + 1, 2, none⟩ = some (.slice a' n' cap')) ∧ (wq.cell? ⟨w.heap.size + 2, 0, none⟩ = some (.int .i64 lo) ∧ wq.cell? ⟨w.heap.size + 2, 1, none⟩ = some (.int .i64 hi)) ∧ Hid (Nums wq a n cap V b) ∧ Hid (Nums wq a' n' cap' V' b')) := by
    intro wq f
    have S0 := O0.fr f (fun h => h)
    have S1 := O1.fr f (fun h => h)
    have S2 := O2.fr f (fun h => h)
    exact ⟨⟨by rw [S0.cell]; rfl, by rw [S0.cell]; rfl, by rw [S0.cell]; rfl⟩, ⟨by rw [S1.cell]; rfl, by rw [S1.cell]; rfl, by rw [S1.cell]; rfl⟩, ⟨by rw [S2.cell]; rfl, by rw [S2.cell]; rfl⟩, hn.quiet (F0.trans' f), hn'.quiet (F0.trans' f)⟩
  clear O0 O1 O2 hn hn'
  go_enter Try.func3, Try.ntmps3
  have HB1 := hid hb1
  clear hb1
  go_wp2_with fail
  rw [← HW.out]
  refine (first7_any W).mono ?_
  rintro e w1 ⟨rfl, f1⟩
  obtain ⟨⟨k0, k1, k2⟩, ⟨l0, l1, l2⟩, ⟨m5, m6⟩, HNp, HNq⟩ := HC.out w1 f1
  go_wp2_with fail
  refine (big7_any X Y a n cap w1 HNp.out.len).mono ?_
  rintro e w2 ⟨rfl, f2⟩
  have HB2 := hid hb2
  clear hb2
  rw [decide_eq_false HB1.out]
  clear k0 k1 k2 l0 l1 l2 m5 m6 HNp HNq
  obtain ⟨⟨k0, k1, k2⟩, ⟨l0, l1, l2⟩, ⟨m5, m6⟩, HNp, HNq⟩ := HC.out w2 (f1.trans' f2)
  go_wp2_with fail
  refine (big7_any X' Y' a' n' cap' w2 HNq.out.len).mono ?_
  rintro e W4 ⟨rfl, f3⟩
  rw [decide_eq_false HB2.out]
  clear k0 k1 k2 l0 l1 l2 m5 m6 HNp HNq
  have HQ := hid (fun wq (f : Fr (fun _ => False) W4.drew wq) => HC.out wq ((f1.trans' f2).trans' (f3.trans' ((Fr.refl _ W4).drew.trans' f))))
  have HF4 := hid (F0.trans' ((f1.trans' f2).trans' f3))
  clear f1 f2 f3 F0
  go_wp2
  cases hq : likeP X Y n X' Y' n' with
  | false =>
    have HSame : Hid (∀ w1, Nums w1 a n cap V b → Nums w1 a' n' cap' V' b' → Calls Try.prog 14 #[.agg #[.int .i64 X, .int .i64 Y, .slice a n cap], .agg #[.int .i64 X', .int .i64 Y', .slice a' n' cap']] w1 fun e w' => e = .returned (.bool false) ∧ Fr (fun _ => False) w1 w') := by
      intro w1 h h'
      have := psame_any X Y a n cap V b X' Y' a' n' cap' V' b' w1 h h'
      rwa [hq, Bool.false_and] at this
    rw [hq] at HLike
    clear hq
    refine weaveS 54 [.eq (Value.agg #[.int .i64 X, .int .i64 Y, .slice a n cap]), .eq (Value.agg #[.int .i64 X', .int .i64 Y', .slice a' n' cap']), .plane (sX) (sY) (sn) (sV), .eq (Value.agg #[.int .i64 X, .int .i64 Y, .slice a n cap]), .eq (Value.agg #[.int .i64 X', .int .i64 Y', .slice a' n' cap']), .plane (sX) (sY) (sn) (sV), .eq (Value.bool true), .eq (Value.bool true), .eq (Value.agg #[.int .i64 X, .int .i64 Y, .slice a n cap]), .eq (Value.agg #[.int .i64 X', .int .i64 Y', .slice a' n' cap']), .plane (dX) (dY) (dn) (dV), .eq (Value.agg #[.int .i64 X, .int .i64 Y, .slice a n cap]), .eq (Value.agg #[.int .i64 X', .int .i64 Y', .slice a' n' cap']), .plane (dX) (dY) (dn) (dV), .eq (Value.bool true), .eq (Value.bool true), .eq (Value.bool true), .eq (Value.agg #[.int .i64 X, .int .i64 Y, .slice a n cap]), .eq (Value.pointer (some ⟨w.heap.size + 2, 0, none⟩)), .eq (Value.int .i64 lo), .eq (Value.pointer (some ⟨w.heap.size + 2, 1, none⟩)), .eq (Value.int .i64 hi), .plane (cX) (cY) (cn) (cV), .eq (Value.agg #[.int .i64 X, .int .i64 Y, .slice a n cap]), .eq (Value.pointer (some ⟨w.heap.size + 2, 0, none⟩)), .eq (Value.int .i64 lo), .eq (Value.pointer (some ⟨w.heap.size + 2, 1, none⟩)), .eq (Value.int .i64 hi), .plane (cX) (cY) (cn) (cV), .eq (Value.bool true), .eq (Value.bool true), .eq (Value.bool true), .eq (Value.agg #[.int .i64 X, .int .i64 Y, .slice a n cap]), .eq (Value.agg #[.int .i64 X', .int .i64 Y', .slice a' n' cap']), .eq (Value.bool false), .eq (Value.agg #[.int .i64 X, .int .i64 Y, .slice a n cap]), .eq (Value.agg #[.int .i64 X', .int .i64 Y', .slice a' n' cap']), .eq (Value.bool false), .eq (Value.bool false), .eq (undef), .eq (undef), .eq (undef), .eq (Value.bool false), .eq (Value.bool true), .eq (Value.bool true), .eq (Value.bool true), .eq (Value.agg #[.int .i64 X, .int .i64 Y, .slice a n cap]), .eq (Value.agg #[.int .i64 X, .int .i64 Y, .slice a n cap]), .eq (Value.bool R), .eq (Value.agg #[.int .i64 X, .int .i64 Y, .slice a n cap]), .eq (Value.bool R), .eq (Value.bool true), .eq (Value.bool true), .eq (Value.bool true)] (by kernel_rfl) (by kernel_rfl) ?obls ?tail
    case obls =>
      simp only [List.take_succ_cons, List.take_zero]
      refine ⟨?_, ?_, ?_, ?_, ?_, ?_, ?_, ?_, ?_, ?_, ?_, ?_, ?_, ?_, ?_, ?_, ?_, ?_, ?_, ?_, ?_, ?_, ?_, ?_, ?_, ?_, ?_, ?_, ?_, ?_, ?_, ?_, ?_, ?_, ?_, ?_, ?_, ?_, ?_, ?_, ?_, ?_, ?_, ?_, ?_, ?_, ?_, ?_, ?_, ?_, ?_, ?_, ?_, ?_, trivial⟩
      · intro vals wq f h
        simp only [fillA, fillT, List.setIfInBounds_toArray, List.set_cons_succ, List.set_cons_zero, Option.getD_some, Nat.zero_add, Nat.reduceAdd]
        obtain ⟨⟨k0, k1, k2⟩, ⟨l0, l1, l2⟩, ⟨m5, m6⟩, HNp, HNq⟩ := HQ.out wq f
        clear h
        go_wp2
        exact ⟨rfl, rfl, _, rfl, Fr.refl _ _, rfl⟩
      · intro vals wq f h
        simp only [fillA, fillT, List.setIfInBounds_toArray, List.set_cons_succ, List.set_cons_zero, Option.getD_some, Nat.zero_add, Nat.reduceAdd]
        obtain ⟨⟨k0, k1, k2⟩, ⟨l0, l1, l2⟩, ⟨m5, m6⟩, HNp, HNq⟩ := HQ.out wq f
        clear h
        go_wp2
        exact ⟨rfl, rfl, _, rfl, Fr.refl _ _, rfl⟩
      · intro vals wq f h
        simp only [fillA, fillT, List.setIfInBounds_toArray, List.set_cons_succ, List.set_cons_zero, Option.getD_some, Nat.zero_add, Nat.reduceAdd]
        have h0 : vals 0 = Value.agg #[.int .i64 X, .int .i64 Y, .slice a n cap] := h 0 (by kernel_rfl)
        rw [h0]
        have h1 : vals 1 = Value.agg #[.int .i64 X', .int .i64 Y', .slice a' n' cap'] := h 1 (by kernel_rfl)
        rw [h1]
        obtain ⟨⟨k0, k1, k2⟩, ⟨l0, l1, l2⟩, ⟨m5, m6⟩, HNp, HNq⟩ := HQ.out wq f
        clear h
        go_wp2_with fail
        refine (HAdd.out wq HNp.out HNq.out).mono ?_
        intro e w6 hM
        obtain ⟨v6, rfl, p6, f6⟩ := hM.plane
        obtain ⟨_, _, _, rfl, _⟩ := id p6
        have HP6 := hid p6
        clear p6
        go_wp2
        exact ⟨rfl, rfl, _, rfl, f6, HP6.out⟩
      · intro vals wq f h
        simp only [fillA, fillT, List.setIfInBounds_toArray, List.set_cons_succ, List.set_cons_zero, Option.getD_some, Nat.zero_add, Nat.reduceAdd]
        obtain ⟨⟨k0, k1, k2⟩, ⟨l0, l1, l2⟩, ⟨m5, m6⟩, HNp, HNq⟩ := HQ.out wq f
        clear h
        go_wp2
        exact ⟨rfl, rfl, _, rfl, Fr.refl _ _, rfl⟩
      · intro vals wq f h
        simp only [fillA, fillT, List.setIfInBounds_toArray, List.set_cons_succ, List.set_cons_zero, Option.getD_some, Nat.zero_add, Nat.reduceAdd]
        obtain ⟨⟨k0, k1, k2⟩, ⟨l0, l1, l2⟩, ⟨m5, m6⟩, HNp, HNq⟩ := HQ.out wq f
        clear h
        go_wp2
        exact ⟨rfl, rfl, _, rfl, Fr.refl _ _, rfl⟩
      · intro vals wq f h
        simp only [fillA, fillT, List.setIfInBounds_toArray, List.set_cons_succ, List.set_cons_zero, Option.getD_some, Nat.zero_add, Nat.reduceAdd]
        have h3 : vals 3 = Value.agg #[.int .i64 X, .int .i64 Y, .slice a n cap] := h 3 (by kernel_rfl)
        rw [h3]
        have h4 : vals 4 = Value.agg #[.int .i64 X', .int .i64 Y', .slice a' n' cap'] := h 4 (by kernel_rfl)
        rw [h4]
        obtain ⟨⟨k0, k1, k2⟩, ⟨l0, l1, l2⟩, ⟨m5, m6⟩, HNp, HNq⟩ := HQ.out wq f
        clear h
        go_wp2_with fail
        refine (HSum.out wq HNp.out HNq.out).mono ?_
        intro e w6 hM
        obtain ⟨v6, rfl, p6, f6⟩ := hM.plane
        obtain ⟨_, _, _, rfl, _⟩ := id p6
        have HP6 := hid p6
        clear p6
        go_wp2
        exact ⟨rfl, rfl, _, rfl, f6, HP6.out⟩
      · intro vals wq f h
        simp only [fillA, fillT, List.setIfInBounds_toArray, List.set_cons_succ, List.set_cons_zero, Option.getD_some, Nat.zero_add, Nat.reduceAdd]
        obtain ⟨a2, cap2, b2, h2, n2, i2⟩ : PlaneAt wq (vals 2) (sX) (sY) (sn) (sV) := h 2 (by kernel_rfl)
        rw [h2]
        obtain ⟨a5, cap5, b5, h5, n5, i5⟩ : PlaneAt wq (vals 5) (sX) (sY) (sn) (sV) := h 5 (by kernel_rfl)
        rw [h5]
        obtain ⟨⟨k0, k1, k2⟩, ⟨l0, l1, l2⟩, ⟨m5, m6⟩, HNp, HNq⟩ := HQ.out wq f
        clear h
        go_wp2_with fail
        refine (HRsS.out wq _ _ _ _ _ _ n2 n5).mono ?_
        rintro e w6 ⟨rfl, f6⟩
        go_wp2
        exact ⟨rfl, rfl, _, rfl, f6, rfl⟩
      · intro vals wq f h
        simp only [fillA, fillT, List.setIfInBounds_toArray, List.set_cons_succ, List.set_cons_zero, Option.getD_some, Nat.zero_add, Nat.reduceAdd]
        have h6 : vals 6 = Value.bool true := h 6 (by kernel_rfl)
        rw [h6]
        obtain ⟨⟨k0, k1, k2⟩, ⟨l0, l1, l2⟩, ⟨m5, m6⟩, HNp, HNq⟩ := HQ.out wq f
        clear h
        go_wp2
        exact ⟨rfl, rfl, _, rfl, Fr.refl _ _, rfl⟩
      · intro vals wq f h
        simp only [fillA, fillT, List.setIfInBounds_toArray, List.set_cons_succ, List.set_cons_zero, Option.getD_some, Nat.zero_add, Nat.reduceAdd]
        have h7 : vals 7 = Value.bool true := h 7 (by kernel_rfl)
        rw [h7]
        obtain ⟨⟨k0, k1, k2⟩, ⟨l0, l1, l2⟩, ⟨m5, m6⟩, HNp, HNq⟩ := HQ.out wq f
        clear h
        go_wp2
        exact ⟨rfl, rfl, _, rfl, Fr.refl _ _, rfl⟩
      · intro vals wq f h
        simp only [fillA, fillT, List.setIfInBounds_toArray, List.set_cons_succ, List.set_cons_zero, Option.getD_some, Nat.zero_add, Nat.reduceAdd]
        have h7 : vals 7 = Value.bool true := h 7 (by kernel_rfl)
        rw [h7]
        obtain ⟨⟨k0, k1, k2⟩, ⟨l0, l1, l2⟩, ⟨m5, m6⟩, HNp, HNq⟩ := HQ.out wq f
        clear h
        go_wp2
        exact ⟨rfl, rfl, _, rfl, Fr.refl _ _, rfl⟩
      · intro vals wq f h
        simp only [fillA, fillT, List.setIfInBounds_toArray, List.set_cons_succ, List.set_cons_zero, Option.getD_some, Nat.zero_add, Nat.reduceAdd]
        have h8 : vals 8 = Value.agg #[.int .i64 X, .int .i64 Y, .slice a n cap] := h 8 (by kernel_rfl)
        rw [h8]
        have h9 : vals 9 = Value.agg #[.int .i64 X', .int .i64 Y', .slice a' n' cap'] := h 9 (by kernel_rfl)
        rw [h9]
        have h7 : vals 7 = Value.bool true := h 7 (by kernel_rfl)
        rw [h7]
        obtain ⟨⟨k0, k1, k2⟩, ⟨l0, l1, l2⟩, ⟨m5, m6⟩, HNp, HNq⟩ := HQ.out wq f
        clear h
        go_wp2_with fail
        refine (HSub.out wq HNp.out HNq.out).mono ?_
        intro e w6 hM
        obtain ⟨v6, rfl, p6, f6⟩ := hM.plane
        obtain ⟨_, _, _, rfl, _⟩ := id p6
        have HP6 := hid p6
        clear p6
        go_wp2
        exact ⟨rfl, rfl, _, rfl, f6, HP6.out⟩
      · intro vals wq f h
        simp only [fillA, fillT, List.setIfInBounds_toArray, List.set_cons_succ, List.set_cons_zero, Option.getD_some, Nat.zero_add, Nat.reduceAdd]
        have h7 : vals 7 = Value.bool true := h 7 (by kernel_rfl)
        rw [h7]
        obtain ⟨⟨k0, k1, k2⟩, ⟨l0, l1, l2⟩, ⟨m5, m6⟩, HNp, HNq⟩ := HQ.out wq f
        clear h
        go_wp2
        exact ⟨rfl, rfl, _, rfl, Fr.refl _ _, rfl⟩
      · intro vals wq f h
        simp only [fillA, fillT, List.setIfInBounds_toArray, List.set_cons_succ, List.set_cons_zero, Option.getD_some, Nat.zero_add, Nat.reduceAdd]
        have h7 : vals 7 = Value.bool true := h 7 (by kernel_rfl)
        rw [h7]
        obtain ⟨⟨k0, k1, k2⟩, ⟨l0, l1, l2⟩, ⟨m5, m6⟩, HNp, HNq⟩ := HQ.out wq f
        clear h
        go_wp2
        exact ⟨rfl, rfl, _, rfl, Fr.refl _ _, rfl⟩
      · intro vals wq f h
        simp only [fillA, fillT, List.setIfInBounds_toArray, List.set_cons_succ, List.set_cons_zero, Option.getD_some, Nat.zero_add, Nat.reduceAdd]
        have h11 : vals 11 = Value.agg #[.int .i64 X, .int .i64 Y, .slice a n cap] := h 11 (by kernel_rfl)
        rw [h11]
        have h12 : vals 12 = Value.agg #[.int .i64 X', .int .i64 Y', .slice a' n' cap'] := h 12 (by kernel_rfl)
        rw [h12]
        have h7 : vals 7 = Value.bool true := h 7 (by kernel_rfl)
        rw [h7]
        obtain ⟨⟨k0, k1, k2⟩, ⟨l0, l1, l2⟩, ⟨m5, m6⟩, HNp, HNq⟩ := HQ.out wq f
        clear h
        go_wp2_with fail
        refine (HDif.out wq HNp.out HNq.out).mono ?_
        intro e w6 hM
        obtain ⟨v6, rfl, p6, f6⟩ := hM.plane
        obtain ⟨_, _, _, rfl, _⟩ := id p6
        have HP6 := hid p6
        clear p6
        go_wp2
        exact ⟨rfl, rfl, _, rfl, f6, HP6.out⟩
      · intro vals wq f h
        simp only [fillA, fillT, List.setIfInBounds_toArray, List.set_cons_succ, List.set_cons_zero, Option.getD_some, Nat.zero_add, Nat.reduceAdd]
        obtain ⟨a10, cap10, b10, h10, n10, i10⟩ : PlaneAt wq (vals 10) (dX) (dY) (dn) (dV) := h 10 (by kernel_rfl)
        rw [h10]
        obtain ⟨a13, cap13, b13, h13, n13, i13⟩ : PlaneAt wq (vals 13) (dX) (dY) (dn) (dV) := h 13 (by kernel_rfl)
        rw [h13]
        have h7 : vals 7 = Value.bool true := h 7 (by kernel_rfl)
        rw [h7]
        obtain ⟨⟨k0, k1, k2⟩, ⟨l0, l1, l2⟩, ⟨m5, m6⟩, HNp, HNq⟩ := HQ.out wq f
        clear h
        go_wp2_with fail
        refine (HRsD.out wq _ _ _ _ _ _ n10 n13).mono ?_
        rintro e w6 ⟨rfl, f6⟩
        go_wp2
        exact ⟨rfl, rfl, _, rfl, f6, rfl⟩
      · intro vals wq f h
        simp only [fillA, fillT, List.setIfInBounds_toArray, List.set_cons_succ, List.set_cons_zero, Option.getD_some, Nat.zero_add, Nat.reduceAdd]
        have h7 : vals 7 = Value.bool true := h 7 (by kernel_rfl)
        rw [h7]
        have h14 : vals 14 = Value.bool true := h 14 (by kernel_rfl)
        rw [h14]
        obtain ⟨⟨k0, k1, k2⟩, ⟨l0, l1, l2⟩, ⟨m5, m6⟩, HNp, HNq⟩ := HQ.out wq f
        clear h
        go_wp2
        exact ⟨rfl, rfl, _, rfl, Fr.refl _ _, rfl⟩
      · intro vals wq f h
        simp only [fillA, fillT, List.setIfInBounds_toArray, List.set_cons_succ, List.set_cons_zero, Option.getD_some, Nat.zero_add, Nat.reduceAdd]
        have h15 : vals 15 = Value.bool true := h 15 (by kernel_rfl)
        rw [h15]
        obtain ⟨⟨k0, k1, k2⟩, ⟨l0, l1, l2⟩, ⟨m5, m6⟩, HNp, HNq⟩ := HQ.out wq f
        clear h
        go_wp2
        exact ⟨rfl, rfl, _, rfl, Fr.refl _ _, rfl⟩
      · intro vals wq f h
        simp only [fillA, fillT, List.setIfInBounds_toArray, List.set_cons_succ, List.set_cons_zero, Option.getD_some, Nat.zero_add, Nat.reduceAdd]
        have h16 : vals 16 = Value.bool true := h 16 (by kernel_rfl)
        rw [h16]
        obtain ⟨⟨k0, k1, k2⟩, ⟨l0, l1, l2⟩, ⟨m5, m6⟩, HNp, HNq⟩ := HQ.out wq f
        clear h
        go_wp2
        exact ⟨rfl, rfl, _, rfl, Fr.refl _ _, rfl⟩
      · intro vals wq f h
        simp only [fillA, fillT, List.setIfInBounds_toArray, List.set_cons_succ, List.set_cons_zero, Option.getD_some, Nat.zero_add, Nat.reduceAdd]
        have h16 : vals 16 = Value.bool true := h 16 (by kernel_rfl)
        rw [h16]
        obtain ⟨⟨k0, k1, k2⟩, ⟨l0, l1, l2⟩, ⟨m5, m6⟩, HNp, HNq⟩ := HQ.out wq f
        clear h
        go_wp2
        exact ⟨rfl, rfl, _, rfl, Fr.refl _ _, rfl⟩
      · intro vals wq f h
        simp only [fillA, fillT, List.setIfInBounds_toArray, List.set_cons_succ, List.set_cons_zero, Option.getD_some, Nat.zero_add, Nat.reduceAdd]
        have h18 : vals 18 = Value.pointer (some ⟨w.heap.size + 2, 0, none⟩) := h 18 (by kernel_rfl)
        rw [h18]
        have h16 : vals 16 = Value.bool true := h 16 (by kernel_rfl)
        rw [h16]
        obtain ⟨⟨k0, k1, k2⟩, ⟨l0, l1, l2⟩, ⟨m5, m6⟩, HNp, HNq⟩ := HQ.out wq f
        clear h
        go_wp2
        exact ⟨rfl, rfl, _, rfl, Fr.refl _ _, rfl⟩
      · intro vals wq f h
        simp only [fillA, fillT, List.setIfInBounds_toArray, List.set_cons_succ, List.set_cons_zero, Option.getD_some, Nat.zero_add, Nat.reduceAdd]
        have h16 : vals 16 = Value.bool true := h 16 (by kernel_rfl)
        rw [h16]
        obtain ⟨⟨k0, k1, k2⟩, ⟨l0, l1, l2⟩, ⟨m5, m6⟩, HNp, HNq⟩ := HQ.out wq f
        clear h
        go_wp2
        exact ⟨rfl, rfl, _, rfl, Fr.refl _ _, rfl⟩
      · intro vals wq f h
        simp only [fillA, fillT, List.setIfInBounds_toArray, List.set_cons_succ, List.set_cons_zero, Option.getD_some, Nat.zero_add, Nat.reduceAdd]
        have h20 : vals 20 = Value.pointer (some ⟨w.heap.size + 2, 1, none⟩) := h 20 (by kernel_rfl)
        rw [h20]
        have h16 : vals 16 = Value.bool true := h 16 (by kernel_rfl)
        rw [h16]
        obtain ⟨⟨k0, k1, k2⟩, ⟨l0, l1, l2⟩, ⟨m5, m6⟩, HNp, HNq⟩ := HQ.out wq f
        clear h
        go_wp2
        exact ⟨rfl, rfl, _, rfl, Fr.refl _ _, rfl⟩
      · intro vals wq f h
        simp only [fillA, fillT, List.setIfInBounds_toArray, List.set_cons_succ, List.set_cons_zero, Option.getD_some, Nat.zero_add, Nat.reduceAdd]
        have h17 : vals 17 = Value.agg #[.int .i64 X, .int .i64 Y, .slice a n cap] := h 17 (by kernel_rfl)
        rw [h17]
        have h19 : vals 19 = Value.int .i64 lo := h 19 (by kernel_rfl)
        rw [h19]
        have h21 : vals 21 = Value.int .i64 hi := h 21 (by kernel_rfl)
        rw [h21]
        have h16 : vals 16 = Value.bool true := h 16 (by kernel_rfl)
        rw [h16]
        obtain ⟨⟨k0, k1, k2⟩, ⟨l0, l1, l2⟩, ⟨m5, m6⟩, HNp, HNq⟩ := HQ.out wq f
        clear h
        go_wp2_with fail
        refine (HClip.out wq HNp.out).mono ?_
        intro e w6 hM
        obtain ⟨v6, rfl, p6, f6⟩ := hM.plane
        obtain ⟨_, _, _, rfl, _⟩ := id p6
        have HP6 := hid p6
        clear p6
        go_wp2
        exact ⟨rfl, rfl, _, rfl, f6, HP6.out⟩
      · intro vals wq f h
        simp only [fillA, fillT, List.setIfInBounds_toArray, List.set_cons_succ, List.set_cons_zero, Option.getD_some, Nat.zero_add, Nat.reduceAdd]
        have h16 : vals 16 = Value.bool true := h 16 (by kernel_rfl)
        rw [h16]
        obtain ⟨⟨k0, k1, k2⟩, ⟨l0, l1, l2⟩, ⟨m5, m6⟩, HNp, HNq⟩ := HQ.out wq f
        clear h
        go_wp2
        exact ⟨rfl, rfl, _, rfl, Fr.refl _ _, rfl⟩
      · intro vals wq f h
        simp only [fillA, fillT, List.setIfInBounds_toArray, List.set_cons_succ, List.set_cons_zero, Option.getD_some, Nat.zero_add, Nat.reduceAdd]
        have h16 : vals 16 = Value.bool true := h 16 (by kernel_rfl)
        rw [h16]
        obtain ⟨⟨k0, k1, k2⟩, ⟨l0, l1, l2⟩, ⟨m5, m6⟩, HNp, HNq⟩ := HQ.out wq f
        clear h
        go_wp2
        exact ⟨rfl, rfl, _, rfl, Fr.refl _ _, rfl⟩
      · intro vals wq f h
        simp only [fillA, fillT, List.setIfInBounds_toArray, List.set_cons_succ, List.set_cons_zero, Option.getD_some, Nat.zero_add, Nat.reduceAdd]
        have h24 : vals 24 = Value.pointer (some ⟨w.heap.size + 2, 0, none⟩) := h 24 (by kernel_rfl)
        rw [h24]
        have h16 : vals 16 = Value.bool true := h 16 (by kernel_rfl)
        rw [h16]
        obtain ⟨⟨k0, k1, k2⟩, ⟨l0, l1, l2⟩, ⟨m5, m6⟩, HNp, HNq⟩ := HQ.out wq f
        clear h
        go_wp2
        exact ⟨rfl, rfl, _, rfl, Fr.refl _ _, rfl⟩
      · intro vals wq f h
        simp only [fillA, fillT, List.setIfInBounds_toArray, List.set_cons_succ, List.set_cons_zero, Option.getD_some, Nat.zero_add, Nat.reduceAdd]
        have h16 : vals 16 = Value.bool true := h 16 (by kernel_rfl)
        rw [h16]
        obtain ⟨⟨k0, k1, k2⟩, ⟨l0, l1, l2⟩, ⟨m5, m6⟩, HNp, HNq⟩ := HQ.out wq f
        clear h
        go_wp2
        exact ⟨rfl, rfl, _, rfl, Fr.refl _ _, rfl⟩
      · intro vals wq f h
        simp only [fillA, fillT, List.setIfInBounds_toArray, List.set_cons_succ, List.set_cons_zero, Option.getD_some, Nat.zero_add, Nat.reduceAdd]
        have h26 : vals 26 = Value.pointer (some ⟨w.heap.size + 2, 1, none⟩) := h 26 (by kernel_rfl)
        rw [h26]
        have h16 : vals 16 = Value.bool true := h 16 (by kernel_rfl)
        rw [h16]
        obtain ⟨⟨k0, k1, k2⟩, ⟨l0, l1, l2⟩, ⟨m5, m6⟩, HNp, HNq⟩ := HQ.out wq f
        clear h
        go_wp2
        exact ⟨rfl, rfl, _, rfl, Fr.refl _ _, rfl⟩
      · intro vals wq f h
        simp only [fillA, fillT, List.setIfInBounds_toArray, List.set_cons_succ, List.set_cons_zero, Option.getD_some, Nat.zero_add, Nat.reduceAdd]
        have h23 : vals 23 = Value.agg #[.int .i64 X, .int .i64 Y, .slice a n cap] := h 23 (by kernel_rfl)
        rw [h23]
        have h25 : vals 25 = Value.int .i64 lo := h 25 (by kernel_rfl)
        rw [h25]
        have h27 : vals 27 = Value.int .i64 hi := h 27 (by kernel_rfl)
        rw [h27]
        have h16 : vals 16 = Value.bool true := h 16 (by kernel_rfl)
        rw [h16]
        obtain ⟨⟨k0, k1, k2⟩, ⟨l0, l1, l2⟩, ⟨m5, m6⟩, HNp, HNq⟩ := HQ.out wq f
        clear h
        go_wp2_with fail
        refine (HRcl.out wq HNp.out).mono ?_
        intro e w6 hM
        obtain ⟨v6, rfl, p6, f6⟩ := hM.plane
        obtain ⟨_, _, _, rfl, _⟩ := id p6
        have HP6 := hid p6
        clear p6
        go_wp2
        exact ⟨rfl, rfl, _, rfl, f6, HP6.out⟩
      · intro vals wq f h
        simp only [fillA, fillT, List.setIfInBounds_toArray, List.set_cons_succ, List.set_cons_zero, Option.getD_some, Nat.zero_add, Nat.reduceAdd]
        obtain ⟨a22, cap22, b22, h22, n22, i22⟩ : PlaneAt wq (vals 22) (cX) (cY) (cn) (cV) := h 22 (by kernel_rfl)
        rw [h22]
        obtain ⟨a28, cap28, b28, h28, n28, i28⟩ : PlaneAt wq (vals 28) (cX) (cY) (cn) (cV) := h 28 (by kernel_rfl)
        rw [h28]
        have h16 : vals 16 = Value.bool true := h 16 (by kernel_rfl)
        rw [h16]
        obtain ⟨⟨k0, k1, k2⟩, ⟨l0, l1, l2⟩, ⟨m5, m6⟩, HNp, HNq⟩ := HQ.out wq f
        clear h
        go_wp2_with fail
        refine (HRsC.out wq _ _ _ _ _ _ n22 n28).mono ?_
        rintro e w6 ⟨rfl, f6⟩
        go_wp2
        exact ⟨rfl, rfl, _, rfl, f6, rfl⟩
      · intro vals wq f h
        simp only [fillA, fillT, List.setIfInBounds_toArray, List.set_cons_succ, List.set_cons_zero, Option.getD_some, Nat.zero_add, Nat.reduceAdd]
        have h16 : vals 16 = Value.bool true := h 16 (by kernel_rfl)
        rw [h16]
        have h29 : vals 29 = Value.bool true := h 29 (by kernel_rfl)
        rw [h29]
        obtain ⟨⟨k0, k1, k2⟩, ⟨l0, l1, l2⟩, ⟨m5, m6⟩, HNp, HNq⟩ := HQ.out wq f
        clear h
        go_wp2
        exact ⟨rfl, rfl, _, rfl, Fr.refl _ _, rfl⟩
      · intro vals wq f h
        simp only [fillA, fillT, List.setIfInBounds_toArray, List.set_cons_succ, List.set_cons_zero, Option.getD_some, Nat.zero_add, Nat.reduceAdd]
        have h30 : vals 30 = Value.bool true := h 30 (by kernel_rfl)
        rw [h30]
        obtain ⟨⟨k0, k1, k2⟩, ⟨l0, l1, l2⟩, ⟨m5, m6⟩, HNp, HNq⟩ := HQ.out wq f
        clear h
        go_wp2
        exact ⟨rfl, rfl, _, rfl, Fr.refl _ _, rfl⟩
      · intro vals wq f h
        simp only [fillA, fillT, List.setIfInBounds_toArray, List.set_cons_succ, List.set_cons_zero, Option.getD_some, Nat.zero_add, Nat.reduceAdd]
        have h31 : vals 31 = Value.bool true := h 31 (by kernel_rfl)
        rw [h31]
        obtain ⟨⟨k0, k1, k2⟩, ⟨l0, l1, l2⟩, ⟨m5, m6⟩, HNp, HNq⟩ := HQ.out wq f
        clear h
        go_wp2
        exact ⟨rfl, rfl, _, rfl, Fr.refl _ _, rfl⟩
      · intro vals wq f h
        simp only [fillA, fillT, List.setIfInBounds_toArray, List.set_cons_succ, List.set_cons_zero, Option.getD_some, Nat.zero_add, Nat.reduceAdd]
        have h31 : vals 31 = Value.bool true := h 31 (by kernel_rfl)
        rw [h31]
        obtain ⟨⟨k0, k1, k2⟩, ⟨l0, l1, l2⟩, ⟨m5, m6⟩, HNp, HNq⟩ := HQ.out wq f
        clear h
        go_wp2
        exact ⟨rfl, rfl, _, rfl, Fr.refl _ _, rfl⟩
      · intro vals wq f h
        simp only [fillA, fillT, List.setIfInBounds_toArray, List.set_cons_succ, List.set_cons_zero, Option.getD_some, Nat.zero_add, Nat.reduceAdd]
        have h32 : vals 32 = Value.agg #[.int .i64 X, .int .i64 Y, .slice a n cap] := h 32 (by kernel_rfl)
        rw [h32]
        have h33 : vals 33 = Value.agg #[.int .i64 X', .int .i64 Y', .slice a' n' cap'] := h 33 (by kernel_rfl)
        rw [h33]
        have h31 : vals 31 = Value.bool true := h 31 (by kernel_rfl)
        rw [h31]
        obtain ⟨⟨k0, k1, k2⟩, ⟨l0, l1, l2⟩, ⟨m5, m6⟩, HNp, HNq⟩ := HQ.out wq f
        clear h
        go_wp2_with fail
        refine (HSame.out wq HNp.out HNq.out).mono ?_
        rintro e w6 ⟨rfl, f6⟩
        go_wp2
        exact ⟨rfl, rfl, _, rfl, f6, rfl⟩
      · intro vals wq f h
        simp only [fillA, fillT, List.setIfInBounds_toArray, List.set_cons_succ, List.set_cons_zero, Option.getD_some, Nat.zero_add, Nat.reduceAdd]
        have h31 : vals 31 = Value.bool true := h 31 (by kernel_rfl)
        rw [h31]
        obtain ⟨⟨k0, k1, k2⟩, ⟨l0, l1, l2⟩, ⟨m5, m6⟩, HNp, HNq⟩ := HQ.out wq f
        clear h
        go_wp2
        exact ⟨rfl, rfl, _, rfl, Fr.refl _ _, rfl⟩
      · intro vals wq f h
        simp only [fillA, fillT, List.setIfInBounds_toArray, List.set_cons_succ, List.set_cons_zero, Option.getD_some, Nat.zero_add, Nat.reduceAdd]
        have h31 : vals 31 = Value.bool true := h 31 (by kernel_rfl)
        rw [h31]
        obtain ⟨⟨k0, k1, k2⟩, ⟨l0, l1, l2⟩, ⟨m5, m6⟩, HNp, HNq⟩ := HQ.out wq f
        clear h
        go_wp2
        exact ⟨rfl, rfl, _, rfl, Fr.refl _ _, rfl⟩
      · intro vals wq f h
        simp only [fillA, fillT, List.setIfInBounds_toArray, List.set_cons_succ, List.set_cons_zero, Option.getD_some, Nat.zero_add, Nat.reduceAdd]
        have h35 : vals 35 = Value.agg #[.int .i64 X, .int .i64 Y, .slice a n cap] := h 35 (by kernel_rfl)
        rw [h35]
        have h36 : vals 36 = Value.agg #[.int .i64 X', .int .i64 Y', .slice a' n' cap'] := h 36 (by kernel_rfl)
        rw [h36]
        have h31 : vals 31 = Value.bool true := h 31 (by kernel_rfl)
        rw [h31]
        obtain ⟨⟨k0, k1, k2⟩, ⟨l0, l1, l2⟩, ⟨m5, m6⟩, HNp, HNq⟩ := HQ.out wq f
        clear h
        go_wp2_with fail
        refine (HLike.out wq).mono ?_
        rintro e w6 ⟨rfl, f6⟩
        go_wp2
        exact ⟨rfl, rfl, _, rfl, f6, rfl⟩
      · intro vals wq f h
        simp only [fillA, fillT, List.setIfInBounds_toArray, List.set_cons_succ, List.set_cons_zero, Option.getD_some, Nat.zero_add, Nat.reduceAdd]
        have h37 : vals 37 = Value.bool false := h 37 (by kernel_rfl)
        rw [h37]
        have h31 : vals 31 = Value.bool true := h 31 (by kernel_rfl)
        rw [h31]
        obtain ⟨⟨k0, k1, k2⟩, ⟨l0, l1, l2⟩, ⟨m5, m6⟩, HNp, HNq⟩ := HQ.out wq f
        clear h
        go_wp2
        exact ⟨rfl, rfl, _, rfl, Fr.refl _ _, rfl⟩
      · intro vals wq f h
        simp only [fillA, fillT, List.setIfInBounds_toArray, List.set_cons_succ, List.set_cons_zero, Option.getD_some, Nat.zero_add, Nat.reduceAdd]
        have h38 : vals 38 = Value.bool false := h 38 (by kernel_rfl)
        rw [h38]
        obtain ⟨⟨k0, k1, k2⟩, ⟨l0, l1, l2⟩, ⟨m5, m6⟩, HNp, HNq⟩ := HQ.out wq f
        clear h
        go_wp2
        exact ⟨rfl, rfl, _, rfl, Fr.refl _ _, rfl⟩
      · intro vals wq f h
        simp only [fillA, fillT, List.setIfInBounds_toArray, List.set_cons_succ, List.set_cons_zero, Option.getD_some, Nat.zero_add, Nat.reduceAdd]
        have h38 : vals 38 = Value.bool false := h 38 (by kernel_rfl)
        rw [h38]
        obtain ⟨⟨k0, k1, k2⟩, ⟨l0, l1, l2⟩, ⟨m5, m6⟩, HNp, HNq⟩ := HQ.out wq f
        clear h
        go_wp2
        exact ⟨rfl, rfl, _, rfl, Fr.refl _ _, rfl⟩
      · intro vals wq f h
        simp only [fillA, fillT, List.setIfInBounds_toArray, List.set_cons_succ, List.set_cons_zero, Option.getD_some, Nat.zero_add, Nat.reduceAdd]
        have h39 : vals 39 = undef := h 39 (by kernel_rfl)
        rw [h39]
        have h40 : vals 40 = undef := h 40 (by kernel_rfl)
        rw [h40]
        have h38 : vals 38 = Value.bool false := h 38 (by kernel_rfl)
        rw [h38]
        obtain ⟨⟨k0, k1, k2⟩, ⟨l0, l1, l2⟩, ⟨m5, m6⟩, HNp, HNq⟩ := HQ.out wq f
        clear h
        go_wp2
        exact ⟨rfl, rfl, _, rfl, Fr.refl _ _, rfl⟩
      · intro vals wq f h
        simp only [fillA, fillT, List.setIfInBounds_toArray, List.set_cons_succ, List.set_cons_zero, Option.getD_some, Nat.zero_add, Nat.reduceAdd]
        have h38 : vals 38 = Value.bool false := h 38 (by kernel_rfl)
        rw [h38]
        have h41 : vals 41 = undef := h 41 (by kernel_rfl)
        rw [h41]
        have h31 : vals 31 = Value.bool true := h 31 (by kernel_rfl)
        rw [h31]
        obtain ⟨⟨k0, k1, k2⟩, ⟨l0, l1, l2⟩, ⟨m5, m6⟩, HNp, HNq⟩ := HQ.out wq f
        clear h
        go_wp2
        exact ⟨rfl, rfl, _, rfl, Fr.refl _ _, rfl⟩
      · intro vals wq f h
        simp only [fillA, fillT, List.setIfInBounds_toArray, List.set_cons_succ, List.set_cons_zero, Option.getD_some, Nat.zero_add, Nat.reduceAdd]
        have h34 : vals 34 = Value.bool false := h 34 (by kernel_rfl)
        rw [h34]
        have h42 : vals 42 = Value.bool false := h 42 (by kernel_rfl)
        rw [h42]
        have h31 : vals 31 = Value.bool true := h 31 (by kernel_rfl)
        rw [h31]
        obtain ⟨⟨k0, k1, k2⟩, ⟨l0, l1, l2⟩, ⟨m5, m6⟩, HNp, HNq⟩ := HQ.out wq f
        clear h
        go_wp2
        exact ⟨rfl, rfl, _, rfl, Fr.refl _ _, rfl⟩
      · intro vals wq f h
        simp only [fillA, fillT, List.setIfInBounds_toArray, List.set_cons_succ, List.set_cons_zero, Option.getD_some, Nat.zero_add, Nat.reduceAdd]
        have h31 : vals 31 = Value.bool true := h 31 (by kernel_rfl)
        rw [h31]
        have h43 : vals 43 = Value.bool true := h 43 (by kernel_rfl)
        rw [h43]
        obtain ⟨⟨k0, k1, k2⟩, ⟨l0, l1, l2⟩, ⟨m5, m6⟩, HNp, HNq⟩ := HQ.out wq f
        clear h
        go_wp2
        exact ⟨rfl, rfl, _, rfl, Fr.refl _ _, rfl⟩
      · intro vals wq f h
        simp only [fillA, fillT, List.setIfInBounds_toArray, List.set_cons_succ, List.set_cons_zero, Option.getD_some, Nat.zero_add, Nat.reduceAdd]
        have h44 : vals 44 = Value.bool true := h 44 (by kernel_rfl)
        rw [h44]
        obtain ⟨⟨k0, k1, k2⟩, ⟨l0, l1, l2⟩, ⟨m5, m6⟩, HNp, HNq⟩ := HQ.out wq f
        clear h
        go_wp2
        exact ⟨rfl, rfl, _, rfl, Fr.refl _ _, rfl⟩
      · intro vals wq f h
        simp only [fillA, fillT, List.setIfInBounds_toArray, List.set_cons_succ, List.set_cons_zero, Option.getD_some, Nat.zero_add, Nat.reduceAdd]
        have h45 : vals 45 = Value.bool true := h 45 (by kernel_rfl)
        rw [h45]
        obtain ⟨⟨k0, k1, k2⟩, ⟨l0, l1, l2⟩, ⟨m5, m6⟩, HNp, HNq⟩ := HQ.out wq f
        clear h
        go_wp2
        exact ⟨rfl, rfl, _, rfl, Fr.refl _ _, rfl⟩
      · intro vals wq f h
        simp only [fillA, fillT, List.setIfInBounds_toArray, List.set_cons_succ, List.set_cons_zero, Option.getD_some, Nat.zero_add, Nat.reduceAdd]
        have h45 : vals 45 = Value.bool true := h 45 (by kernel_rfl)
        rw [h45]
        obtain ⟨⟨k0, k1, k2⟩, ⟨l0, l1, l2⟩, ⟨m5, m6⟩, HNp, HNq⟩ := HQ.out wq f
        clear h
        go_wp2
        exact ⟨rfl, rfl, _, rfl, Fr.refl _ _, rfl⟩
      · intro vals wq f h
        simp only [fillA, fillT, List.setIfInBounds_toArray, List.set_cons_succ, List.set_cons_zero, Option.getD_some, Nat.zero_add, Nat.reduceAdd]
        have h46 : vals 46 = Value.agg #[.int .i64 X, .int .i64 Y, .slice a n cap] := h 46 (by kernel_rfl)
        rw [h46]
        have h47 : vals 47 = Value.agg #[.int .i64 X, .int .i64 Y, .slice a n cap] := h 47 (by kernel_rfl)
        rw [h47]
        have h45 : vals 45 = Value.bool true := h 45 (by kernel_rfl)
        rw [h45]
        obtain ⟨⟨k0, k1, k2⟩, ⟨l0, l1, l2⟩, ⟨m5, m6⟩, HNp, HNq⟩ := HQ.out wq f
        clear h
        go_wp2_with fail
        refine (HSelf.out wq HNp.out).mono ?_
        rintro e w6 ⟨rfl, f6⟩
        go_wp2
        exact ⟨rfl, rfl, _, rfl, f6, rfl⟩
      · intro vals wq f h
        simp only [fillA, fillT, List.setIfInBounds_toArray, List.set_cons_succ, List.set_cons_zero, Option.getD_some, Nat.zero_add, Nat.reduceAdd]
        have h45 : vals 45 = Value.bool true := h 45 (by kernel_rfl)
        rw [h45]
        obtain ⟨⟨k0, k1, k2⟩, ⟨l0, l1, l2⟩, ⟨m5, m6⟩, HNp, HNq⟩ := HQ.out wq f
        clear h
        go_wp2
        exact ⟨rfl, rfl, _, rfl, Fr.refl _ _, rfl⟩
      · intro vals wq f h
        simp only [fillA, fillT, List.setIfInBounds_toArray, List.set_cons_succ, List.set_cons_zero, Option.getD_some, Nat.zero_add, Nat.reduceAdd]
        have h49 : vals 49 = Value.agg #[.int .i64 X, .int .i64 Y, .slice a n cap] := h 49 (by kernel_rfl)
        rw [h49]
        have h45 : vals 45 = Value.bool true := h 45 (by kernel_rfl)
        rw [h45]
        obtain ⟨⟨k0, k1, k2⟩, ⟨l0, l1, l2⟩, ⟨m5, m6⟩, HNp, HNq⟩ := HQ.out wq f
        clear h
        go_wp2_with fail
        refine (HRight.out wq).mono ?_
        rintro e w6 ⟨rfl, f6⟩
        go_wp2
        exact ⟨rfl, rfl, _, rfl, f6, rfl⟩
      · intro vals wq f h
        simp only [fillA, fillT, List.setIfInBounds_toArray, List.set_cons_succ, List.set_cons_zero, Option.getD_some, Nat.zero_add, Nat.reduceAdd]
        have h48 : vals 48 = Value.bool R := h 48 (by kernel_rfl)
        rw [h48]
        have h50 : vals 50 = Value.bool R := h 50 (by kernel_rfl)
        rw [h50]
        have h45 : vals 45 = Value.bool true := h 45 (by kernel_rfl)
        rw [h45]
        obtain ⟨⟨k0, k1, k2⟩, ⟨l0, l1, l2⟩, ⟨m5, m6⟩, HNp, HNq⟩ := HQ.out wq f
        clear h
        go_wp2
        exact ⟨rfl, rfl, _, rfl, Fr.refl _ _, rfl⟩
      · intro vals wq f h
        simp only [fillA, fillT, List.setIfInBounds_toArray, List.set_cons_succ, List.set_cons_zero, Option.getD_some, Nat.zero_add, Nat.reduceAdd]
        have h45 : vals 45 = Value.bool true := h 45 (by kernel_rfl)
        rw [h45]
        have h51 : vals 51 = Value.bool true := h 51 (by kernel_rfl)
        rw [h51]
        obtain ⟨⟨k0, k1, k2⟩, ⟨l0, l1, l2⟩, ⟨m5, m6⟩, HNp, HNq⟩ := HQ.out wq f
        clear h
        go_wp2
        exact ⟨rfl, rfl, _, rfl, Fr.refl _ _, rfl⟩
      · intro vals wq f h
        simp only [fillA, fillT, List.setIfInBounds_toArray, List.set_cons_succ, List.set_cons_zero, Option.getD_some, Nat.zero_add, Nat.reduceAdd]
        have h52 : vals 52 = Value.bool true := h 52 (by kernel_rfl)
        rw [h52]
        obtain ⟨⟨k0, k1, k2⟩, ⟨l0, l1, l2⟩, ⟨m5, m6⟩, HNp, HNq⟩ := HQ.out wq f
        clear h
        go_wp2
        exact ⟨rfl, rfl, _, rfl, Fr.refl _ _, rfl⟩
    case tail =>
      intro vals wq f h
      simp only [List.take_succ_cons, List.take_zero, fillA, fillT, List.setIfInBounds_toArray, List.set_cons_succ, List.set_cons_zero, List.drop_succ_cons, List.drop_nil, Nat.zero_add, Nat.reduceAdd]
      have h53 : vals 53 = Value.bool true := h 53 (by omega)
      rw [h53]
      clear h h53
      gi_wp2
      go_wp2
      go_ret
      exact ⟨rfl, HF4.out.trans' ((Fr.refl _ W4).drew.trans' f)⟩
  | true =>
    obtain ⟨E, hE⟩ : ∃ E, E = eqV n V V' := ⟨_, rfl⟩
    have HSame : Hid (∀ w1, Nums w1 a n cap V b → Nums w1 a' n' cap' V' b' → Calls Try.prog 14 #[.agg #[.int .i64 X, .int .i64 Y, .slice a n cap], .agg #[.int .i64 X', .int .i64 Y', .slice a' n' cap']] w1 fun e w' => e = .returned (.bool E) ∧ Fr (fun _ => False) w1 w') := by
      intro w1 h h'
      have := psame_any X Y a n cap V b X' Y' a' n' cap' V' b' w1 h h'
      rwa [hq, Bool.true_and, ← hE] at this
    have HRs : Hid (∀ w1, Nums w1 a n cap V b → Nums w1 a' n' cap' V' b' → Calls Try.prog 8 #[.agg #[.int .i64 X, .int .i64 Y, .slice a n cap], .agg #[.int .i64 X', .int .i64 Y', .slice a' n' cap']] w1 fun e w' => e = .returned (.bool E) ∧ Fr (fun _ => False) w1 w') := by
      intro w1 h h'
      have := rsame_any X Y a n cap V b X' Y' a' n' cap' V' b' w1 h h'
      obtain ⟨e1, e2, e3, _⟩ := likeP_len hq
      rwa [show sameV X Y n V X' Y' n' V' = E by simp [sameV, hE, e1, e2, e3]] at this
    rw [hq] at HLike
    clear hq hE
    refine weaveS 54 [.eq (Value.agg #[.int .i64 X, .int .i64 Y, .slice a n cap]), .eq (Value.agg #[.int .i64 X', .int .i64 Y', .slice a' n' cap']), .plane (sX) (sY) (sn) (sV), .eq (Value.agg #[.int .i64 X, .int .i64 Y, .slice a n cap]), .eq (Value.agg #[.int .i64 X', .int .i64 Y', .slice a' n' cap']), .plane (sX) (sY) (sn) (sV), .eq (Value.bool true), .eq (Value.bool true), .eq (Value.agg #[.int .i64 X, .int .i64 Y, .slice a n cap]), .eq (Value.agg #[.int .i64 X', .int .i64 Y', .slice a' n' cap']), .plane (dX) (dY) (dn) (dV), .eq (Value.agg #[.int .i64 X, .int .i64 Y, .slice a n cap]), .eq (Value.agg #[.int .i64 X', .int .i64 Y', .slice a' n' cap']), .plane (dX) (dY) (dn) (dV), .eq (Value.bool true), .eq (Value.bool true), .eq (Value.bool true), .eq (Value.agg #[.int .i64 X, .int .i64 Y, .slice a n cap]), .eq (Value.pointer (some ⟨w.heap.size + 2, 0, none⟩)), .eq (Value.int .i64 lo), .eq (Value.pointer (some ⟨w.heap.size + 2, 1, none⟩)), .eq (Value.int .i64 hi), .plane (cX) (cY) (cn) (cV), .eq (Value.agg #[.int .i64 X, .int .i64 Y, .slice a n cap]), .eq (Value.pointer (some ⟨w.heap.size + 2, 0, none⟩)), .eq (Value.int .i64 lo), .eq (Value.pointer (some ⟨w.heap.size + 2, 1, none⟩)), .eq (Value.int .i64 hi), .plane (cX) (cY) (cn) (cV), .eq (Value.bool true), .eq (Value.bool true), .eq (Value.bool true), .eq (Value.agg #[.int .i64 X, .int .i64 Y, .slice a n cap]), .eq (Value.agg #[.int .i64 X', .int .i64 Y', .slice a' n' cap']), .eq (Value.bool E), .eq (Value.agg #[.int .i64 X, .int .i64 Y, .slice a n cap]), .eq (Value.agg #[.int .i64 X', .int .i64 Y', .slice a' n' cap']), .eq (Value.bool true), .eq (Value.bool true), .eq (Value.agg #[.int .i64 X, .int .i64 Y, .slice a n cap]), .eq (Value.agg #[.int .i64 X', .int .i64 Y', .slice a' n' cap']), .eq (Value.bool E), .eq (Value.bool E), .eq (Value.bool true), .eq (Value.bool true), .eq (Value.bool true), .eq (Value.agg #[.int .i64 X, .int .i64 Y, .slice a n cap]), .eq (Value.agg #[.int .i64 X, .int .i64 Y, .slice a n cap]), .eq (Value.bool R), .eq (Value.agg #[.int .i64 X, .int .i64 Y, .slice a n cap]), .eq (Value.bool R), .eq (Value.bool true), .eq (Value.bool true), .eq (Value.bool true)] (by kernel_rfl) (by kernel_rfl) ?obls ?tail
    case obls =>
      simp only [List.take_succ_cons, List.take_zero]
      refine ⟨?_, ?_, ?_, ?_, ?_, ?_, ?_, ?_, ?_, ?_, ?_, ?_, ?_, ?_, ?_, ?_, ?_, ?_, ?_, ?_, ?_, ?_, ?_, ?_, ?_, ?_, ?_, ?_, ?_, ?_, ?_, ?_, ?_, ?_, ?_, ?_, ?_, ?_, ?_, ?_, ?_, ?_, ?_, ?_, ?_, ?_, ?_, ?_, ?_, ?_, ?_, ?_, ?_, ?_, trivial⟩
      · intro vals wq f h
        simp only [fillA, fillT, List.setIfInBounds_toArray, List.set_cons_succ, List.set_cons_zero, Option.getD_some, Nat.zero_add, Nat.reduceAdd]
        obtain ⟨⟨k0, k1, k2⟩, ⟨l0, l1, l2⟩, ⟨m5, m6⟩, HNp, HNq⟩ := HQ.out wq f
        clear h
        go_wp2
        exact ⟨rfl, rfl, _, rfl, Fr.refl _ _, rfl⟩
      · intro vals wq f h
        simp only [fillA, fillT, List.setIfInBounds_toArray, List.set_cons_succ, List.set_cons_zero, Option.getD_some, Nat.zero_add, Nat.reduceAdd]
        obtain ⟨⟨k0, k1, k2⟩, ⟨l0, l1, l2⟩, ⟨m5, m6⟩, HNp, HNq⟩ := HQ.out wq f
        clear h
        go_wp2
        exact ⟨rfl, rfl, _, rfl, Fr.refl _ _, rfl⟩
      · intro vals wq f h
        simp only [fillA, fillT, List.setIfInBounds_toArray, List.set_cons_succ, List.set_cons_zero, Option.getD_some, Nat.zero_add, Nat.reduceAdd]
        have h0 : vals 0 = Value.agg #[.int .i64 X, .int .i64 Y, .slice a n cap] := h 0 (by kernel_rfl)
        rw [h0]
        have h1 : vals 1 = Value.agg #[.int .i64 X', .int .i64 Y', .slice a' n' cap'] := h 1 (by kernel_rfl)
        rw [h1]
        obtain ⟨⟨k0, k1, k2⟩, ⟨l0, l1, l2⟩, ⟨m5, m6⟩, HNp, HNq⟩ := HQ.out wq f
        clear h
        go_wp2_with fail
        refine (HAdd.out wq HNp.out HNq.out).mono ?_
        intro e w6 hM
        obtain ⟨v6, rfl, p6, f6⟩ := hM.plane
        obtain ⟨_, _, _, rfl, _⟩ := id p6
        have HP6 := hid p6
        clear p6
        go_wp2
        exact ⟨rfl, rfl, _, rfl, f6, HP6.out⟩
      · intro vals wq f h
        simp only [fillA, fillT, List.setIfInBounds_toArray, List.set_cons_succ, List.set_cons_zero, Option.getD_some, Nat.zero_add, Nat.reduceAdd]
        obtain ⟨⟨k0, k1, k2⟩, ⟨l0, l1, l2⟩, ⟨m5, m6⟩, HNp, HNq⟩ := HQ.out wq f
        clear h
        go_wp2
        exact ⟨rfl, rfl, _, rfl, Fr.refl _ _, rfl⟩
      · intro vals wq f h
        simp only [fillA, fillT, List.setIfInBounds_toArray, List.set_cons_succ, List.set_cons_zero, Option.getD_some, Nat.zero_add, Nat.reduceAdd]
        obtain ⟨⟨k0, k1, k2⟩, ⟨l0, l1, l2⟩, ⟨m5, m6⟩, HNp, HNq⟩ := HQ.out wq f
        clear h
        go_wp2
        exact ⟨rfl, rfl, _, rfl, Fr.refl _ _, rfl⟩
      · intro vals wq f h
        simp only [fillA, fillT, List.setIfInBounds_toArray, List.set_cons_succ, List.set_cons_zero, Option.getD_some, Nat.zero_add, Nat.reduceAdd]
        have h3 : vals 3 = Value.agg #[.int .i64 X, .int .i64 Y, .slice a n cap] := h 3 (by kernel_rfl)
        rw [h3]
        have h4 : vals 4 = Value.agg #[.int .i64 X', .int .i64 Y', .slice a' n' cap'] := h 4 (by kernel_rfl)
        rw [h4]
        obtain ⟨⟨k0, k1, k2⟩, ⟨l0, l1, l2⟩, ⟨m5, m6⟩, HNp, HNq⟩ := HQ.out wq f
        clear h
        go_wp2_with fail
        refine (HSum.out wq HNp.out HNq.out).mono ?_
        intro e w6 hM
        obtain ⟨v6, rfl, p6, f6⟩ := hM.plane
        obtain ⟨_, _, _, rfl, _⟩ := id p6
        have HP6 := hid p6
        clear p6
        go_wp2
        exact ⟨rfl, rfl, _, rfl, f6, HP6.out⟩
      · intro vals wq f h
        simp only [fillA, fillT, List.setIfInBounds_toArray, List.set_cons_succ, List.set_cons_zero, Option.getD_some, Nat.zero_add, Nat.reduceAdd]
        obtain ⟨a2, cap2, b2, h2, n2, i2⟩ : PlaneAt wq (vals 2) (sX) (sY) (sn) (sV) := h 2 (by kernel_rfl)
        rw [h2]
        obtain ⟨a5, cap5, b5, h5, n5, i5⟩ : PlaneAt wq (vals 5) (sX) (sY) (sn) (sV) := h 5 (by kernel_rfl)
        rw [h5]
        obtain ⟨⟨k0, k1, k2⟩, ⟨l0, l1, l2⟩, ⟨m5, m6⟩, HNp, HNq⟩ := HQ.out wq f
        clear h
        go_wp2_with fail
        refine (HRsS.out wq _ _ _ _ _ _ n2 n5).mono ?_
        rintro e w6 ⟨rfl, f6⟩
        go_wp2
        exact ⟨rfl, rfl, _, rfl, f6, rfl⟩
      · intro vals wq f h
        simp only [fillA, fillT, List.setIfInBounds_toArray, List.set_cons_succ, List.set_cons_zero, Option.getD_some, Nat.zero_add, Nat.reduceAdd]
        have h6 : vals 6 = Value.bool true := h 6 (by kernel_rfl)
        rw [h6]
        obtain ⟨⟨k0, k1, k2⟩, ⟨l0, l1, l2⟩, ⟨m5, m6⟩, HNp, HNq⟩ := HQ.out wq f
        clear h
        go_wp2
        exact ⟨rfl, rfl, _, rfl, Fr.refl _ _, rfl⟩
      · intro vals wq f h
        simp only [fillA, fillT, List.setIfInBounds_toArray, List.set_cons_succ, List.set_cons_zero, Option.getD_some, Nat.zero_add, Nat.reduceAdd]
        have h7 : vals 7 = Value.bool true := h 7 (by kernel_rfl)
        rw [h7]
        obtain ⟨⟨k0, k1, k2⟩, ⟨l0, l1, l2⟩, ⟨m5, m6⟩, HNp, HNq⟩ := HQ.out wq f
        clear h
        go_wp2
        exact ⟨rfl, rfl, _, rfl, Fr.refl _ _, rfl⟩
      · intro vals wq f h
        simp only [fillA, fillT, List.setIfInBounds_toArray, List.set_cons_succ, List.set_cons_zero, Option.getD_some, Nat.zero_add, Nat.reduceAdd]
        have h7 : vals 7 = Value.bool true := h 7 (by kernel_rfl)
        rw [h7]
        obtain ⟨⟨k0, k1, k2⟩, ⟨l0, l1, l2⟩, ⟨m5, m6⟩, HNp, HNq⟩ := HQ.out wq f
        clear h
        go_wp2
        exact ⟨rfl, rfl, _, rfl, Fr.refl _ _, rfl⟩
      · intro vals wq f h
        simp only [fillA, fillT, List.setIfInBounds_toArray, List.set_cons_succ, List.set_cons_zero, Option.getD_some, Nat.zero_add, Nat.reduceAdd]
        have h8 : vals 8 = Value.agg #[.int .i64 X, .int .i64 Y, .slice a n cap] := h 8 (by kernel_rfl)
        rw [h8]
        have h9 : vals 9 = Value.agg #[.int .i64 X', .int .i64 Y', .slice a' n' cap'] := h 9 (by kernel_rfl)
        rw [h9]
        have h7 : vals 7 = Value.bool true := h 7 (by kernel_rfl)
        rw [h7]
        obtain ⟨⟨k0, k1, k2⟩, ⟨l0, l1, l2⟩, ⟨m5, m6⟩, HNp, HNq⟩ := HQ.out wq f
        clear h
        go_wp2_with fail
        refine (HSub.out wq HNp.out HNq.out).mono ?_
        intro e w6 hM
        obtain ⟨v6, rfl, p6, f6⟩ := hM.plane
        obtain ⟨_, _, _, rfl, _⟩ := id p6
        have HP6 := hid p6
        clear p6
        go_wp2
        exact ⟨rfl, rfl, _, rfl, f6, HP6.out⟩
      · intro vals wq f h
        simp only [fillA, fillT, List.setIfInBounds_toArray, List.set_cons_succ, List.set_cons_zero, Option.getD_some, Nat.zero_add, Nat.reduceAdd]
        have h7 : vals 7 = Value.bool true := h 7 (by kernel_rfl)
        rw [h7]
        obtain ⟨⟨k0, k1, k2⟩, ⟨l0, l1, l2⟩, ⟨m5, m6⟩, HNp, HNq⟩ := HQ.out wq f
        clear h
        go_wp2
        exact ⟨rfl, rfl, _, rfl, Fr.refl _ _, rfl⟩
      · intro vals wq f h
        simp only [fillA, fillT, List.setIfInBounds_toArray, List.set_cons_succ, List.set_cons_zero, Option.getD_some, Nat.zero_add, Nat.reduceAdd]
        have h7 : vals 7 = Value.bool true := h 7 (by kernel_rfl)
        rw [h7]
        obtain ⟨⟨k0, k1, k2⟩, ⟨l0, l1, l2⟩, ⟨m5, m6⟩, HNp, HNq⟩ := HQ.out wq f
        clear h
        go_wp2
        exact ⟨rfl, rfl, _, rfl, Fr.refl _ _, rfl⟩
      · intro vals wq f h
        simp only [fillA, fillT, List.setIfInBounds_toArray, List.set_cons_succ, List.set_cons_zero, Option.getD_some, Nat.zero_add, Nat.reduceAdd]
        have h11 : vals 11 = Value.agg #[.int .i64 X, .int .i64 Y, .slice a n cap] := h 11 (by kernel_rfl)
        rw [h11]
        have h12 : vals 12 = Value.agg #[.int .i64 X', .int .i64 Y', .slice a' n' cap'] := h 12 (by kernel_rfl)
        rw [h12]
        have h7 : vals 7 = Value.bool true := h 7 (by kernel_rfl)
        rw [h7]
        obtain ⟨⟨k0, k1, k2⟩, ⟨l0, l1, l2⟩, ⟨m5, m6⟩, HNp, HNq⟩ := HQ.out wq f
        clear h
        go_wp2_with fail
        refine (HDif.out wq HNp.out HNq.out).mono ?_
        intro e w6 hM
        obtain ⟨v6, rfl, p6, f6⟩ := hM.plane
        obtain ⟨_, _, _, rfl, _⟩ := id p6
        have HP6 := hid p6
        clear p6
        go_wp2
        exact ⟨rfl, rfl, _, rfl, f6, HP6.out⟩
      · intro vals wq f h
        simp only [fillA, fillT, List.setIfInBounds_toArray, List.set_cons_succ, List.set_cons_zero, Option.getD_some, Nat.zero_add, Nat.reduceAdd]
        obtain ⟨a10, cap10, b10, h10, n10, i10⟩ : PlaneAt wq (vals 10) (dX) (dY) (dn) (dV) := h 10 (by kernel_rfl)
        rw [h10]
        obtain ⟨a13, cap13, b13, h13, n13, i13⟩ : PlaneAt wq (vals 13) (dX) (dY) (dn) (dV) := h 13 (by kernel_rfl)
        rw [h13]
        have h7 : vals 7 = Value.bool true := h 7 (by kernel_rfl)
        rw [h7]
        obtain ⟨⟨k0, k1, k2⟩, ⟨l0, l1, l2⟩, ⟨m5, m6⟩, HNp, HNq⟩ := HQ.out wq f
        clear h
        go_wp2_with fail
        refine (HRsD.out wq _ _ _ _ _ _ n10 n13).mono ?_
        rintro e w6 ⟨rfl, f6⟩
        go_wp2
        exact ⟨rfl, rfl, _, rfl, f6, rfl⟩
      · intro vals wq f h
        simp only [fillA, fillT, List.setIfInBounds_toArray, List.set_cons_succ, List.set_cons_zero, Option.getD_some, Nat.zero_add, Nat.reduceAdd]
        have h7 : vals 7 = Value.bool true := h 7 (by kernel_rfl)
        rw [h7]
        have h14 : vals 14 = Value.bool true := h 14 (by kernel_rfl)
        rw [h14]
        obtain ⟨⟨k0, k1, k2⟩, ⟨l0, l1, l2⟩, ⟨m5, m6⟩, HNp, HNq⟩ := HQ.out wq f
        clear h
        go_wp2
        exact ⟨rfl, rfl, _, rfl, Fr.refl _ _, rfl⟩
      · intro vals wq f h
        simp only [fillA, fillT, List.setIfInBounds_toArray, List.set_cons_succ, List.set_cons_zero, Option.getD_some, Nat.zero_add, Nat.reduceAdd]
        have h15 : vals 15 = Value.bool true := h 15 (by kernel_rfl)
        rw [h15]
        obtain ⟨⟨k0, k1, k2⟩, ⟨l0, l1, l2⟩, ⟨m5, m6⟩, HNp, HNq⟩ := HQ.out wq f
        clear h
        go_wp2
        exact ⟨rfl, rfl, _, rfl, Fr.refl _ _, rfl⟩
      · intro vals wq f h
        simp only [fillA, fillT, List.setIfInBounds_toArray, List.set_cons_succ, List.set_cons_zero, Option.getD_some, Nat.zero_add, Nat.reduceAdd]
        have h16 : vals 16 = Value.bool true := h 16 (by kernel_rfl)
        rw [h16]
        obtain ⟨⟨k0, k1, k2⟩, ⟨l0, l1, l2⟩, ⟨m5, m6⟩, HNp, HNq⟩ := HQ.out wq f
        clear h
        go_wp2
        exact ⟨rfl, rfl, _, rfl, Fr.refl _ _, rfl⟩
      · intro vals wq f h
        simp only [fillA, fillT, List.setIfInBounds_toArray, List.set_cons_succ, List.set_cons_zero, Option.getD_some, Nat.zero_add, Nat.reduceAdd]
        have h16 : vals 16 = Value.bool true := h 16 (by kernel_rfl)
        rw [h16]
        obtain ⟨⟨k0, k1, k2⟩, ⟨l0, l1, l2⟩, ⟨m5, m6⟩, HNp, HNq⟩ := HQ.out wq f
        clear h
        go_wp2
        exact ⟨rfl, rfl, _, rfl, Fr.refl _ _, rfl⟩
      · intro vals wq f h
        simp only [fillA, fillT, List.setIfInBounds_toArray, List.set_cons_succ, List.set_cons_zero, Option.getD_some, Nat.zero_add, Nat.reduceAdd]
        have h18 : vals 18 = Value.pointer (some ⟨w.heap.size + 2, 0, none⟩) := h 18 (by kernel_rfl)
        rw [h18]
        have h16 : vals 16 = Value.bool true := h 16 (by kernel_rfl)
        rw [h16]
        obtain ⟨⟨k0, k1, k2⟩, ⟨l0, l1, l2⟩, ⟨m5, m6⟩, HNp, HNq⟩ := HQ.out wq f
        clear h
        go_wp2
        exact ⟨rfl, rfl, _, rfl, Fr.refl _ _, rfl⟩
      · intro vals wq f h
        simp only [fillA, fillT, List.setIfInBounds_toArray, List.set_cons_succ, List.set_cons_zero, Option.getD_some, Nat.zero_add, Nat.reduceAdd]
        have h16 : vals 16 = Value.bool true := h 16 (by kernel_rfl)
        rw [h16]
        obtain ⟨⟨k0, k1, k2⟩, ⟨l0, l1, l2⟩, ⟨m5, m6⟩, HNp, HNq⟩ := HQ.out wq f
        clear h
        go_wp2
        exact ⟨rfl, rfl, _, rfl, Fr.refl _ _, rfl⟩
      · intro vals wq f h
        simp only [fillA, fillT, List.setIfInBounds_toArray, List.set_cons_succ, List.set_cons_zero, Option.getD_some, Nat.zero_add, Nat.reduceAdd]
        have h20 : vals 20 = Value.pointer (some ⟨w.heap.size + 2, 1, none⟩) := h 20 (by kernel_rfl)
        rw [h20]
        have h16 : vals 16 = Value.bool true := h 16 (by kernel_rfl)
        rw [h16]
        obtain ⟨⟨k0, k1, k2⟩, ⟨l0, l1, l2⟩, ⟨m5, m6⟩, HNp, HNq⟩ := HQ.out wq f
        clear h
        go_wp2
        exact ⟨rfl, rfl, _, rfl, Fr.refl _ _, rfl⟩
      · intro vals wq f h
        simp only [fillA, fillT, List.setIfInBounds_toArray, List.set_cons_succ, List.set_cons_zero, Option.getD_some, Nat.zero_add, Nat.reduceAdd]
        have h17 : vals 17 = Value.agg #[.int .i64 X, .int .i64 Y, .slice a n cap] := h 17 (by kernel_rfl)
        rw [h17]
        have h19 : vals 19 = Value.int .i64 lo := h 19 (by kernel_rfl)
        rw [h19]
        have h21 : vals 21 = Value.int .i64 hi := h 21 (by kernel_rfl)
        rw [h21]
        have h16 : vals 16 = Value.bool true := h 16 (by kernel_rfl)
        rw [h16]
        obtain ⟨⟨k0, k1, k2⟩, ⟨l0, l1, l2⟩, ⟨m5, m6⟩, HNp, HNq⟩ := HQ.out wq f
        clear h
        go_wp2_with fail
        refine (HClip.out wq HNp.out).mono ?_
        intro e w6 hM
        obtain ⟨v6, rfl, p6, f6⟩ := hM.plane
        obtain ⟨_, _, _, rfl, _⟩ := id p6
        have HP6 := hid p6
        clear p6
        go_wp2
        exact ⟨rfl, rfl, _, rfl, f6, HP6.out⟩
      · intro vals wq f h
        simp only [fillA, fillT, List.setIfInBounds_toArray, List.set_cons_succ, List.set_cons_zero, Option.getD_some, Nat.zero_add, Nat.reduceAdd]
        have h16 : vals 16 = Value.bool true := h 16 (by kernel_rfl)
        rw [h16]
        obtain ⟨⟨k0, k1, k2⟩, ⟨l0, l1, l2⟩, ⟨m5, m6⟩, HNp, HNq⟩ := HQ.out wq f
        clear h
        go_wp2
        exact ⟨rfl, rfl, _, rfl, Fr.refl _ _, rfl⟩
      · intro vals wq f h
        simp only [fillA, fillT, List.setIfInBounds_toArray, List.set_cons_succ, List.set_cons_zero, Option.getD_some, Nat.zero_add, Nat.reduceAdd]
        have h16 : vals 16 = Value.bool true := h 16 (by kernel_rfl)
        rw [h16]
        obtain ⟨⟨k0, k1, k2⟩, ⟨l0, l1, l2⟩, ⟨m5, m6⟩, HNp, HNq⟩ := HQ.out wq f
        clear h
        go_wp2
        exact ⟨rfl, rfl, _, rfl, Fr.refl _ _, rfl⟩
      · intro vals wq f h
        simp only [fillA, fillT, List.setIfInBounds_toArray, List.set_cons_succ, List.set_cons_zero, Option.getD_some, Nat.zero_add, Nat.reduceAdd]
        have h24 : vals 24 = Value.pointer (some ⟨w.heap.size + 2, 0, none⟩) := h 24 (by kernel_rfl)
        rw [h24]
        have h16 : vals 16 = Value.bool true := h 16 (by kernel_rfl)
        rw [h16]
        obtain ⟨⟨k0, k1, k2⟩, ⟨l0, l1, l2⟩, ⟨m5, m6⟩, HNp, HNq⟩ := HQ.out wq f
        clear h
        go_wp2
        exact ⟨rfl, rfl, _, rfl, Fr.refl _ _, rfl⟩
      · intro vals wq f h
        simp only [fillA, fillT, List.setIfInBounds_toArray, List.set_cons_succ, List.set_cons_zero, Option.getD_some, Nat.zero_add, Nat.reduceAdd]
        have h16 : vals 16 = Value.bool true := h 16 (by kernel_rfl)
        rw [h16]
        obtain ⟨⟨k0, k1, k2⟩, ⟨l0, l1, l2⟩, ⟨m5, m6⟩, HNp, HNq⟩ := HQ.out wq f
        clear h
        go_wp2
        exact ⟨rfl, rfl, _, rfl, Fr.refl _ _, rfl⟩
      · intro vals wq f h
        simp only [fillA, fillT, List.setIfInBounds_toArray, List.set_cons_succ, List.set_cons_zero, Option.getD_some, Nat.zero_add, Nat.reduceAdd]
        have h26 : vals 26 = Value.pointer (some ⟨w.heap.size + 2, 1, none⟩) := h 26 (by kernel_rfl)
        rw [h26]
        have h16 : vals 16 = Value.bool true := h 16 (by kernel_rfl)
        rw [h16]
        obtain ⟨⟨k0, k1, k2⟩, ⟨l0, l1, l2⟩, ⟨m5, m6⟩, HNp, HNq⟩ := HQ.out wq f
        clear h
        go_wp2
        exact ⟨rfl, rfl, _, rfl, Fr.refl _ _, rfl⟩
      · intro vals wq f h
        simp only [fillA, fillT, List.setIfInBounds_toArray, List.set_cons_succ, List.set_cons_zero, Option.getD_some, Nat.zero_add, Nat.reduceAdd]
        have h23 : vals 23 = Value.agg #[.int .i64 X, .int .i64 Y, .slice a n cap] := h 23 (by kernel_rfl)
        rw [h23]
        have h25 : vals 25 = Value.int .i64 lo := h 25 (by kernel_rfl)
        rw [h25]
        have h27 : vals 27 = Value.int .i64 hi := h 27 (by kernel_rfl)
        rw [h27]
        have h16 : vals 16 = Value.bool true := h 16 (by kernel_rfl)
        rw [h16]
        obtain ⟨⟨k0, k1, k2⟩, ⟨l0, l1, l2⟩, ⟨m5, m6⟩, HNp, HNq⟩ := HQ.out wq f
        clear h
        go_wp2_with fail
        refine (HRcl.out wq HNp.out).mono ?_
        intro e w6 hM
        obtain ⟨v6, rfl, p6, f6⟩ := hM.plane
        obtain ⟨_, _, _, rfl, _⟩ := id p6
        have HP6 := hid p6
        clear p6
        go_wp2
        exact ⟨rfl, rfl, _, rfl, f6, HP6.out⟩
      · intro vals wq f h
        simp only [fillA, fillT, List.setIfInBounds_toArray, List.set_cons_succ, List.set_cons_zero, Option.getD_some, Nat.zero_add, Nat.reduceAdd]
        obtain ⟨a22, cap22, b22, h22, n22, i22⟩ : PlaneAt wq (vals 22) (cX) (cY) (cn) (cV) := h 22 (by kernel_rfl)
        rw [h22]
        obtain ⟨a28, cap28, b28, h28, n28, i28⟩ : PlaneAt wq (vals 28) (cX) (cY) (cn) (cV) := h 28 (by kernel_rfl)
        rw [h28]
        have h16 : vals 16 = Value.bool true := h 16 (by kernel_rfl)
        rw [h16]
        obtain ⟨⟨k0, k1, k2⟩, ⟨l0, l1, l2⟩, ⟨m5, m6⟩, HNp, HNq⟩ := HQ.out wq f
        clear h
        go_wp2_with fail
        refine (HRsC.out wq _ _ _ _ _ _ n22 n28).mono ?_
        rintro e w6 ⟨rfl, f6⟩
        go_wp2
        exact ⟨rfl, rfl, _, rfl, f6, rfl⟩
      · intro vals wq f h
        simp only [fillA, fillT, List.setIfInBounds_toArray, List.set_cons_succ, List.set_cons_zero, Option.getD_some, Nat.zero_add, Nat.reduceAdd]
        have h16 : vals 16 = Value.bool true := h 16 (by kernel_rfl)
        rw [h16]
        have h29 : vals 29 = Value.bool true := h 29 (by kernel_rfl)
        rw [h29]
        obtain ⟨⟨k0, k1, k2⟩, ⟨l0, l1, l2⟩, ⟨m5, m6⟩, HNp, HNq⟩ := HQ.out wq f
        clear h
        go_wp2
        exact ⟨rfl, rfl, _, rfl, Fr.refl _ _, rfl⟩
      · intro vals wq f h
        simp only [fillA, fillT, List.setIfInBounds_toArray, List.set_cons_succ, List.set_cons_zero, Option.getD_some, Nat.zero_add, Nat.reduceAdd]
        have h30 : vals 30 = Value.bool true := h 30 (by kernel_rfl)
        rw [h30]
        obtain ⟨⟨k0, k1, k2⟩, ⟨l0, l1, l2⟩, ⟨m5, m6⟩, HNp, HNq⟩ := HQ.out wq f
        clear h
        go_wp2
        exact ⟨rfl, rfl, _, rfl, Fr.refl _ _, rfl⟩
      · intro vals wq f h
        simp only [fillA, fillT, List.setIfInBounds_toArray, List.set_cons_succ, List.set_cons_zero, Option.getD_some, Nat.zero_add, Nat.reduceAdd]
        have h31 : vals 31 = Value.bool true := h 31 (by kernel_rfl)
        rw [h31]
        obtain ⟨⟨k0, k1, k2⟩, ⟨l0, l1, l2⟩, ⟨m5, m6⟩, HNp, HNq⟩ := HQ.out wq f
        clear h
        go_wp2
        exact ⟨rfl, rfl, _, rfl, Fr.refl _ _, rfl⟩
      · intro vals wq f h
        simp only [fillA, fillT, List.setIfInBounds_toArray, List.set_cons_succ, List.set_cons_zero, Option.getD_some, Nat.zero_add, Nat.reduceAdd]
        have h31 : vals 31 = Value.bool true := h 31 (by kernel_rfl)
        rw [h31]
        obtain ⟨⟨k0, k1, k2⟩, ⟨l0, l1, l2⟩, ⟨m5, m6⟩, HNp, HNq⟩ := HQ.out wq f
        clear h
        go_wp2
        exact ⟨rfl, rfl, _, rfl, Fr.refl _ _, rfl⟩
      · intro vals wq f h
        simp only [fillA, fillT, List.setIfInBounds_toArray, List.set_cons_succ, List.set_cons_zero, Option.getD_some, Nat.zero_add, Nat.reduceAdd]
        have h32 : vals 32 = Value.agg #[.int .i64 X, .int .i64 Y, .slice a n cap] := h 32 (by kernel_rfl)
        rw [h32]
        have h33 : vals 33 = Value.agg #[.int .i64 X', .int .i64 Y', .slice a' n' cap'] := h 33 (by kernel_rfl)
        rw [h33]
        have h31 : vals 31 = Value.bool true := h 31 (by kernel_rfl)
        rw [h31]
        obtain ⟨⟨k0, k1, k2⟩, ⟨l0, l1, l2⟩, ⟨m5, m6⟩, HNp, HNq⟩ := HQ.out wq f
        clear h
        go_wp2_with fail
        refine (HSame.out wq HNp.out HNq.out).mono ?_
        rintro e w6 ⟨rfl, f6⟩
        go_wp2
        exact ⟨rfl, rfl, _, rfl, f6, rfl⟩
      · intro vals wq f h
        simp only [fillA, fillT, List.setIfInBounds_toArray, List.set_cons_succ, List.set_cons_zero, Option.getD_some, Nat.zero_add, Nat.reduceAdd]
        have h31 : vals 31 = Value.bool true := h 31 (by kernel_rfl)
        rw [h31]
        obtain ⟨⟨k0, k1, k2⟩, ⟨l0, l1, l2⟩, ⟨m5, m6⟩, HNp, HNq⟩ := HQ.out wq f
        clear h
        go_wp2
        exact ⟨rfl, rfl, _, rfl, Fr.refl _ _, rfl⟩
      · intro vals wq f h
        simp only [fillA, fillT, List.setIfInBounds_toArray, List.set_cons_succ, List.set_cons_zero, Option.getD_some, Nat.zero_add, Nat.reduceAdd]
        have h31 : vals 31 = Value.bool true := h 31 (by kernel_rfl)
        rw [h31]
        obtain ⟨⟨k0, k1, k2⟩, ⟨l0, l1, l2⟩, ⟨m5, m6⟩, HNp, HNq⟩ := HQ.out wq f
        clear h
        go_wp2
        exact ⟨rfl, rfl, _, rfl, Fr.refl _ _, rfl⟩
      · intro vals wq f h
        simp only [fillA, fillT, List.setIfInBounds_toArray, List.set_cons_succ, List.set_cons_zero, Option.getD_some, Nat.zero_add, Nat.reduceAdd]
        have h35 : vals 35 = Value.agg #[.int .i64 X, .int .i64 Y, .slice a n cap] := h 35 (by kernel_rfl)
        rw [h35]
        have h36 : vals 36 = Value.agg #[.int .i64 X', .int .i64 Y', .slice a' n' cap'] := h 36 (by kernel_rfl)
        rw [h36]
        have h31 : vals 31 = Value.bool true := h 31 (by kernel_rfl)
        rw [h31]
        obtain ⟨⟨k0, k1, k2⟩, ⟨l0, l1, l2⟩, ⟨m5, m6⟩, HNp, HNq⟩ := HQ.out wq f
        clear h
        go_wp2_with fail
        refine (HLike.out wq).mono ?_
        rintro e w6 ⟨rfl, f6⟩
        go_wp2
        exact ⟨rfl, rfl, _, rfl, f6, rfl⟩
      · intro vals wq f h
        simp only [fillA, fillT, List.setIfInBounds_toArray, List.set_cons_succ, List.set_cons_zero, Option.getD_some, Nat.zero_add, Nat.reduceAdd]
        have h37 : vals 37 = Value.bool true := h 37 (by kernel_rfl)
        rw [h37]
        have h31 : vals 31 = Value.bool true := h 31 (by kernel_rfl)
        rw [h31]
        obtain ⟨⟨k0, k1, k2⟩, ⟨l0, l1, l2⟩, ⟨m5, m6⟩, HNp, HNq⟩ := HQ.out wq f
        clear h
        go_wp2
        exact ⟨rfl, rfl, _, rfl, Fr.refl _ _, rfl⟩
      · intro vals wq f h
        simp only [fillA, fillT, List.setIfInBounds_toArray, List.set_cons_succ, List.set_cons_zero, Option.getD_some, Nat.zero_add, Nat.reduceAdd]
        have h38 : vals 38 = Value.bool true := h 38 (by kernel_rfl)
        rw [h38]
        obtain ⟨⟨k0, k1, k2⟩, ⟨l0, l1, l2⟩, ⟨m5, m6⟩, HNp, HNq⟩ := HQ.out wq f
        clear h
        go_wp2
        exact ⟨rfl, rfl, _, rfl, Fr.refl _ _, rfl⟩
      · intro vals wq f h
        simp only [fillA, fillT, List.setIfInBounds_toArray, List.set_cons_succ, List.set_cons_zero, Option.getD_some, Nat.zero_add, Nat.reduceAdd]
        have h38 : vals 38 = Value.bool true := h 38 (by kernel_rfl)
        rw [h38]
        obtain ⟨⟨k0, k1, k2⟩, ⟨l0, l1, l2⟩, ⟨m5, m6⟩, HNp, HNq⟩ := HQ.out wq f
        clear h
        go_wp2
        exact ⟨rfl, rfl, _, rfl, Fr.refl _ _, rfl⟩
      · intro vals wq f h
        simp only [fillA, fillT, List.setIfInBounds_toArray, List.set_cons_succ, List.set_cons_zero, Option.getD_some, Nat.zero_add, Nat.reduceAdd]
        have h39 : vals 39 = Value.agg #[.int .i64 X, .int .i64 Y, .slice a n cap] := h 39 (by kernel_rfl)
        rw [h39]
        have h40 : vals 40 = Value.agg #[.int .i64 X', .int .i64 Y', .slice a' n' cap'] := h 40 (by kernel_rfl)
        rw [h40]
        have h38 : vals 38 = Value.bool true := h 38 (by kernel_rfl)
        rw [h38]
        obtain ⟨⟨k0, k1, k2⟩, ⟨l0, l1, l2⟩, ⟨m5, m6⟩, HNp, HNq⟩ := HQ.out wq f
        clear h
        go_wp2_with fail
        refine (HRs.out wq HNp.out HNq.out).mono ?_
        rintro e w6 ⟨rfl, f6⟩
        go_wp2
        exact ⟨rfl, rfl, _, rfl, f6, rfl⟩
      · intro vals wq f h
        simp only [fillA, fillT, List.setIfInBounds_toArray, List.set_cons_succ, List.set_cons_zero, Option.getD_some, Nat.zero_add, Nat.reduceAdd]
        have h38 : vals 38 = Value.bool true := h 38 (by kernel_rfl)
        rw [h38]
        have h41 : vals 41 = Value.bool E := h 41 (by kernel_rfl)
        rw [h41]
        have h31 : vals 31 = Value.bool true := h 31 (by kernel_rfl)
        rw [h31]
        obtain ⟨⟨k0, k1, k2⟩, ⟨l0, l1, l2⟩, ⟨m5, m6⟩, HNp, HNq⟩ := HQ.out wq f
        clear h
        go_wp2
        exact ⟨rfl, rfl, _, rfl, Fr.refl _ _, rfl⟩
      · intro vals wq f h
        simp only [fillA, fillT, List.setIfInBounds_toArray, List.set_cons_succ, List.set_cons_zero, Option.getD_some, Nat.zero_add, Nat.reduceAdd]
        have h34 : vals 34 = Value.bool E := h 34 (by kernel_rfl)
        rw [h34]
        have h42 : vals 42 = Value.bool E := h 42 (by kernel_rfl)
        rw [h42]
        have h31 : vals 31 = Value.bool true := h 31 (by kernel_rfl)
        rw [h31]
        obtain ⟨⟨k0, k1, k2⟩, ⟨l0, l1, l2⟩, ⟨m5, m6⟩, HNp, HNq⟩ := HQ.out wq f
        clear h
        go_wp2
        exact ⟨rfl, rfl, _, rfl, Fr.refl _ _, rfl⟩
      · intro vals wq f h
        simp only [fillA, fillT, List.setIfInBounds_toArray, List.set_cons_succ, List.set_cons_zero, Option.getD_some, Nat.zero_add, Nat.reduceAdd]
        have h31 : vals 31 = Value.bool true := h 31 (by kernel_rfl)
        rw [h31]
        have h43 : vals 43 = Value.bool true := h 43 (by kernel_rfl)
        rw [h43]
        obtain ⟨⟨k0, k1, k2⟩, ⟨l0, l1, l2⟩, ⟨m5, m6⟩, HNp, HNq⟩ := HQ.out wq f
        clear h
        go_wp2
        exact ⟨rfl, rfl, _, rfl, Fr.refl _ _, rfl⟩
      · intro vals wq f h
        simp only [fillA, fillT, List.setIfInBounds_toArray, List.set_cons_succ, List.set_cons_zero, Option.getD_some, Nat.zero_add, Nat.reduceAdd]
        have h44 : vals 44 = Value.bool true := h 44 (by kernel_rfl)
        rw [h44]
        obtain ⟨⟨k0, k1, k2⟩, ⟨l0, l1, l2⟩, ⟨m5, m6⟩, HNp, HNq⟩ := HQ.out wq f
        clear h
        go_wp2
        exact ⟨rfl, rfl, _, rfl, Fr.refl _ _, rfl⟩
      · intro vals wq f h
        simp only [fillA, fillT, List.setIfInBounds_toArray, List.set_cons_succ, List.set_cons_zero, Option.getD_some, Nat.zero_add, Nat.reduceAdd]
        have h45 : vals 45 = Value.bool true := h 45 (by kernel_rfl)
        rw [h45]
        obtain ⟨⟨k0, k1, k2⟩, ⟨l0, l1, l2⟩, ⟨m5, m6⟩, HNp, HNq⟩ := HQ.out wq f
        clear h
        go_wp2
        exact ⟨rfl, rfl, _, rfl, Fr.refl _ _, rfl⟩
      · intro vals wq f h
        simp only [fillA, fillT, List.setIfInBounds_toArray, List.set_cons_succ, List.set_cons_zero, Option.getD_some, Nat.zero_add, Nat.reduceAdd]
        have h45 : vals 45 = Value.bool true := h 45 (by kernel_rfl)
        rw [h45]
        obtain ⟨⟨k0, k1, k2⟩, ⟨l0, l1, l2⟩, ⟨m5, m6⟩, HNp, HNq⟩ := HQ.out wq f
        clear h
        go_wp2
        exact ⟨rfl, rfl, _, rfl, Fr.refl _ _, rfl⟩
      · intro vals wq f h
        simp only [fillA, fillT, List.setIfInBounds_toArray, List.set_cons_succ, List.set_cons_zero, Option.getD_some, Nat.zero_add, Nat.reduceAdd]
        have h46 : vals 46 = Value.agg #[.int .i64 X, .int .i64 Y, .slice a n cap] := h 46 (by kernel_rfl)
        rw [h46]
        have h47 : vals 47 = Value.agg #[.int .i64 X, .int .i64 Y, .slice a n cap] := h 47 (by kernel_rfl)
        rw [h47]
        have h45 : vals 45 = Value.bool true := h 45 (by kernel_rfl)
        rw [h45]
        obtain ⟨⟨k0, k1, k2⟩, ⟨l0, l1, l2⟩, ⟨m5, m6⟩, HNp, HNq⟩ := HQ.out wq f
        clear h
        go_wp2_with fail
        refine (HSelf.out wq HNp.out).mono ?_
        rintro e w6 ⟨rfl, f6⟩
        go_wp2
        exact ⟨rfl, rfl, _, rfl, f6, rfl⟩
      · intro vals wq f h
        simp only [fillA, fillT, List.setIfInBounds_toArray, List.set_cons_succ, List.set_cons_zero, Option.getD_some, Nat.zero_add, Nat.reduceAdd]
        have h45 : vals 45 = Value.bool true := h 45 (by kernel_rfl)
        rw [h45]
        obtain ⟨⟨k0, k1, k2⟩, ⟨l0, l1, l2⟩, ⟨m5, m6⟩, HNp, HNq⟩ := HQ.out wq f
        clear h
        go_wp2
        exact ⟨rfl, rfl, _, rfl, Fr.refl _ _, rfl⟩
      · intro vals wq f h
        simp only [fillA, fillT, List.setIfInBounds_toArray, List.set_cons_succ, List.set_cons_zero, Option.getD_some, Nat.zero_add, Nat.reduceAdd]
        have h49 : vals 49 = Value.agg #[.int .i64 X, .int .i64 Y, .slice a n cap] := h 49 (by kernel_rfl)
        rw [h49]
        have h45 : vals 45 = Value.bool true := h 45 (by kernel_rfl)
        rw [h45]
        obtain ⟨⟨k0, k1, k2⟩, ⟨l0, l1, l2⟩, ⟨m5, m6⟩, HNp, HNq⟩ := HQ.out wq f
        clear h
        go_wp2_with fail
        refine (HRight.out wq).mono ?_
        rintro e w6 ⟨rfl, f6⟩
        go_wp2
        exact ⟨rfl, rfl, _, rfl, f6, rfl⟩
      · intro vals wq f h
        simp only [fillA, fillT, List.setIfInBounds_toArray, List.set_cons_succ, List.set_cons_zero, Option.getD_some, Nat.zero_add, Nat.reduceAdd]
        have h48 : vals 48 = Value.bool R := h 48 (by kernel_rfl)
        rw [h48]
        have h50 : vals 50 = Value.bool R := h 50 (by kernel_rfl)
        rw [h50]
        have h45 : vals 45 = Value.bool true := h 45 (by kernel_rfl)
        rw [h45]
        obtain ⟨⟨k0, k1, k2⟩, ⟨l0, l1, l2⟩, ⟨m5, m6⟩, HNp, HNq⟩ := HQ.out wq f
        clear h
        go_wp2
        exact ⟨rfl, rfl, _, rfl, Fr.refl _ _, rfl⟩
      · intro vals wq f h
        simp only [fillA, fillT, List.setIfInBounds_toArray, List.set_cons_succ, List.set_cons_zero, Option.getD_some, Nat.zero_add, Nat.reduceAdd]
        have h45 : vals 45 = Value.bool true := h 45 (by kernel_rfl)
        rw [h45]
        have h51 : vals 51 = Value.bool true := h 51 (by kernel_rfl)
        rw [h51]
        obtain ⟨⟨k0, k1, k2⟩, ⟨l0, l1, l2⟩, ⟨m5, m6⟩, HNp, HNq⟩ := HQ.out wq f
        clear h
        go_wp2
        exact ⟨rfl, rfl, _, rfl, Fr.refl _ _, rfl⟩
      · intro vals wq f h
        simp only [fillA, fillT, List.setIfInBounds_toArray, List.set_cons_succ, List.set_cons_zero, Option.getD_some, Nat.zero_add, Nat.reduceAdd]
        have h52 : vals 52 = Value.bool true := h 52 (by kernel_rfl)
        rw [h52]
        obtain ⟨⟨k0, k1, k2⟩, ⟨l0, l1, l2⟩, ⟨m5, m6⟩, HNp, HNq⟩ := HQ.out wq f
        clear h
        go_wp2
        exact ⟨rfl, rfl, _, rfl, Fr.refl _ _, rfl⟩
    case tail =>
      intro vals wq f h
      simp only [List.take_succ_cons, List.take_zero, fillA, fillT, List.setIfInBounds_toArray, List.set_cons_succ, List.set_cons_zero, List.drop_succ_cons, List.drop_nil, Nat.zero_add, Nat.reduceAdd]
      have h53 : vals 53 = Value.bool true := h 53 (by omega)
      rw [h53]
      clear h h53
      gi_wp2
      go_wp2
      go_ret
      exact ⟨rfl, HF4.out.trans' ((Fr.refl _ W4).drew.trans' f)⟩

set_option maxRecDepth 100000 in
set_option maxHeartbeats 2000000 in
theorem sums7_any (X Y : Int) (a : Option Addr) (n cap : Nat) (V : Nat → Int) (b : Nat) (X' Y' : Int) (a' : Option Addr) (n' cap' : Nat) (V' : Nat → Int) (b' : Nat) (lo hi : Int) (w : World) (hn : Nums w a n cap V b) (hn' : Nums w a' n' cap' V' b') :
    Calls Try.prog 3 #[.agg #[.int .i64 X, .int .i64 Y, .slice a n cap], .agg #[.int .i64 X', .int .i64 Y', .slice a' n' cap'], .agg #[.int .i64 lo, .int .i64 hi]] w fun e w' => e = .returned (.bool true) ∧ Fr (fun _ => False) w w' := by
  by_cases hb1 : 2000 < n
  rotate_left
  by_cases hb2 : 2000 < n'
  rotate_left
  · exact sums7_main X Y a n cap V b X' Y' a' n' cap' V' b' lo hi w hn hn' hb1 hb2
  · skip
    obtain ⟨W, hW⟩ : ∃ W, W = ((w.alloc (.cells #[.int .i64 X, .int .i64 Y, .slice a n cap] 24)).alloc (.cells #[.int .i64 X', .int .i64 Y', .slice a' n' cap'] 24)).alloc (.cells #[.int .i64 lo, .int .i64 hi] 25) := ⟨_, rfl⟩
    have F0 : Fr (fun _ => False) w W := by rw [hW]; exact (((Fr.refl _ w).alloc _).alloc _).alloc _
    have O0 : Blk W w.heap.size #[.int .i64 X, .int .i64 Y, .slice a n cap] 24 := by rw [hW]; exact ((Blk.new _ _ _).alloc _).alloc _
    have O1 : Blk W (w.heap.size + 1) #[.int .i64 X', .int .i64 Y', .slice a' n' cap'] 24 := by
      rw [hW]
      have := Blk.new (w.alloc (.cells #[.int .i64 X, .int .i64 Y, .slice a n cap] 24)) #[.int .i64 X', .int .i64 Y', .slice a' n' cap'] 24
      simp at this
      exact this.alloc _
    have O2 : Blk W (w.heap.size + 2) #[.int .i64 lo, .int .i64 hi] 25 := by
      rw [hW]
      have := Blk.new ((w.alloc (.cells #[.int .i64 X, .int .i64 Y, .slice a n cap] 24)).alloc (.cells #[.int .i64 X', .int .i64 Y', .slice a' n' cap'] 24)) #[.int .i64 lo, .int .i64 hi] 25
      simpa using this
    have HW := hid hW
    clear hW
    have HC : Hid (∀ wq, Fr (fun _ => False) W wq → (wq.cell? ⟨w.heap.size, 0, none⟩ = some (.int .i64 X) ∧ wq.cell? ⟨w.heap.size, 1, none⟩ = some (.int .i64 Y) ∧ wq.cell? ⟨w.heap.size, 2, none⟩ = some (.slice a n cap)) ∧ (wq.cell? ⟨w.heap.size + 1, 0, none⟩ = some (.int .i64 X') ∧ wq.cell? ⟨w.heap.size + 1, 1, none⟩ = some (.int .i64 Y') ∧ wq.cell? ⟨w.heap.size + 1, 2, none⟩ = some (.slice a' n' cap')) ∧ (wq.cell? ⟨w.heap.size + 2, 0, none⟩ = some (.int .i64 lo) ∧ wq.cell? ⟨w.heap.size + 2, 1, none⟩ = some (.int .i64 hi)) ∧ Hid (Nums wq a n cap V b) ∧ Hid (Nums wq a' n' cap' V' b')) := by
      intro wq f
      have S0 := O0.fr f (fun h => h)
      have S1 := O1.fr f (fun h => h)
      have S2 := O2.fr f (fun h => h)
      exact ⟨⟨by rw [S0.cell]; rfl, by rw [S0.cell]; rfl, by rw [S0.cell]; rfl⟩, ⟨by rw [S1.cell]; rfl, by rw [S1.cell]; rfl, by rw [S1.cell]; rfl⟩, ⟨by rw [S2.cell]; rfl, by rw [S2.cell]; rfl⟩, hn.quiet (F0.trans' f), hn'.quiet (F0.trans' f)⟩
    clear O0 O1 O2 hn hn'
    go_enter Try.func3, Try.ntmps3
    have HB1 := hid hb1
    clear hb1
    go_wp2_with fail
    rw [← HW.out]
    refine (first7_any W).mono ?_
    rintro e w1 ⟨rfl, f1⟩
    obtain ⟨⟨k0, k1, k2⟩, ⟨l0, l1, l2⟩, ⟨m5, m6⟩, HNp, HNq⟩ := HC.out w1 f1
    go_wp2_with fail
    refine (big7_any X Y a n cap w1 HNp.out.len).mono ?_
    rintro e w2 ⟨rfl, f2⟩
    rw [decide_eq_true HB1.out]
    clear k0 k1 k2 l0 l1 l2 m5 m6 HNp HNq
    go_wp2
    go_ret
    exact ⟨rfl, F0.trans' (f1.trans' f2)⟩
  · skip
    obtain ⟨W, hW⟩ : ∃ W, W = ((w.alloc (.cells #[.int .i64 X, .int .i64 Y, .slice a n cap] 24)).alloc (.cells #[.int .i64 X', .int .i64 Y', .slice a' n' cap'] 24)).alloc (.cells #[.int .i64 lo, .int .i64 hi] 25) := ⟨_, rfl⟩
    have F0 : Fr (fun _ => False) w W := by rw [hW]; exact (((Fr.refl _ w).alloc _).alloc _).alloc _
    have O0 : Blk W w.heap.size #[.int .i64 X, .int .i64 Y, .slice a n cap] 24 := by rw [hW]; exact ((Blk.new _ _ _).alloc _).alloc _
    have O1 : Blk W (w.heap.size + 1) #[.int .i64 X', .int .i64 Y', .slice a' n' cap'] 24 := by
      rw [hW]
      have := Blk.new (w.alloc (.cells #[.int .i64 X, .int .i64 Y, .slice a n cap] 24)) #[.int .i64 X', .int .i64 Y', .slice a' n' cap'] 24
      simp at this
      exact this.alloc _
    have O2 : Blk W (w.heap.size + 2) #[.int .i64 lo, .int .i64 hi] 25 := by
      rw [hW]
      have := Blk.new ((w.alloc (.cells #[.int .i64 X, .int .i64 Y, .slice a n cap] 24)).alloc (.cells #[.int .i64 X', .int .i64 Y', .slice a' n' cap'] 24)) #[.int .i64 lo, .int .i64 hi] 25
      simpa using this
    have HW := hid hW
    clear hW
    have HC : Hid (∀ wq, Fr (fun _ => False) W wq → (wq.cell? ⟨w.heap.size, 0, none⟩ = some (.int .i64 X) ∧ wq.cell? ⟨w.heap.size, 1, none⟩ = some (.int .i64 Y) ∧ wq.cell? ⟨w.heap.size, 2, none⟩ = some (.slice a n cap)) ∧ (wq.cell? ⟨w.heap.size + 1, 0, none⟩ = some (.int .i64 X') ∧ wq.cell? ⟨w.heap.size + 1, 1, none⟩ = some (.int .i64 Y') ∧ wq.cell? ⟨w.heap.size + 1, 2, none⟩ = some (.slice a' n' cap')) ∧ (wq.cell? ⟨w.heap.size + 2, 0, none⟩ = some (.int .i64 lo) ∧ wq.cell? ⟨w.heap.size + 2, 1, none⟩ = some (.int .i64 hi)) ∧ Hid (Nums wq a n cap V b) ∧ Hid (Nums wq a' n' cap' V' b')) := by
      intro wq f
      have S0 := O0.fr f (fun h => h)
      have S1 := O1.fr f (fun h => h)
      have S2 := O2.fr f (fun h => h)
      exact ⟨⟨by rw [S0.cell]; rfl, by rw [S0.cell]; rfl, by rw [S0.cell]; rfl⟩, ⟨by rw [S1.cell]; rfl, by rw [S1.cell]; rfl, by rw [S1.cell]; rfl⟩, ⟨by rw [S2.cell]; rfl, by rw [S2.cell]; rfl⟩, hn.quiet (F0.trans' f), hn'.quiet (F0.trans' f)⟩
    clear O0 O1 O2 hn hn'
    go_enter Try.func3, Try.ntmps3
    have HB1 := hid hb1
    clear hb1
    go_wp2_with fail
    rw [← HW.out]
    refine (first7_any W).mono ?_
    rintro e w1 ⟨rfl, f1⟩
    obtain ⟨⟨k0, k1, k2⟩, ⟨l0, l1, l2⟩, ⟨m5, m6⟩, HNp, HNq⟩ := HC.out w1 f1
    go_wp2_with fail
    refine (big7_any X Y a n cap w1 HNp.out.len).mono ?_
    rintro e w2 ⟨rfl, f2⟩
    have HB2 := hid hb2
    clear hb2
    rw [decide_eq_false HB1.out]
    clear k0 k1 k2 l0 l1 l2 m5 m6 HNp HNq
    obtain ⟨⟨k0, k1, k2⟩, ⟨l0, l1, l2⟩, ⟨m5, m6⟩, HNp, HNq⟩ := HC.out w2 (f1.trans' f2)
    go_wp2_with fail
    refine (big7_any X' Y' a' n' cap' w2 HNq.out.len).mono ?_
    rintro e W4 ⟨rfl, f3⟩
    rw [decide_eq_true HB2.out]
    clear k0 k1 k2 l0 l1 l2 m5 m6 HNp HNq
    go_wp2
    go_ret
    exact ⟨rfl, F0.trans' ((f1.trans' f2).trans' f3)⟩

theorem sums7_walk (X Y : Int) (a : Option Addr) (n cap : Nat) (V : Nat → Int) (X' Y' : Int) (a' : Option Addr) (n' cap' : Nat) (V' : Nat → Int) (lo hi : Int) (w : World) (c : CellsIn w a n cap (fun i => .int .i64 (V i))) (c' : CellsIn w a' n' cap' (fun i => .int .i64 (V' i))) :
    Calls Try.prog 3 #[.agg #[.int .i64 X, .int .i64 Y, .slice a n cap], .agg #[.int .i64 X', .int .i64 Y', .slice a' n' cap'], .agg #[.int .i64 lo, .int .i64 hi]] w fun e w' => e = .returned (.bool true) ∧ Below w.heap.size w w' := by
  obtain ⟨b, hn, _⟩ := Nums.of_in c
  obtain ⟨b', hn', _⟩ := Nums.of_in c'
  exact (sums7_any X Y a n cap V b X' Y' a' n' cap' V' b' lo hi w hn hn').mono (fun e w' h => ⟨h.1, h.2.below (Nat.le_refl _) (fun _ _ h => h)⟩)
end Go.Proofs.Ythhhecdnnbgddaa
