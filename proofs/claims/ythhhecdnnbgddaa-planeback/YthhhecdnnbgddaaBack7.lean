/-
  Law 7, PlaneBack: planes come back.
-/
import Derived.Test.YthhhecdnnbgddaaFirst7
import Derived.Test.YthhhecdnnbgddaaBig7
namespace Go.Proofs.Ythhhecdnnbgddaa
open Go.RowKit

theorem Fr.drewFrom {S : Nat → Prop} {a w : World} (h : Fr S a w) : Fr S a.drew w := ⟨h.os, h.tape, h.output, h.size, h.block⟩
theorem ret_int_v {k : IntKind} {a b : Int} (h : a = b) : Value.int k a = Value.int k b := by rw [h]

set_option maxRecDepth 100000 in
set_option maxHeartbeats 4000000 in
theorem back7_main (x y : Nat) (a : Option Addr) (m cap : Nat) (V : Nat → Int) (b : Nat) (X' Y' : Int) (a' : Option Addr) (n' cap' : Nat) (V' : Nat → Int) (b' : Nat) (m0 m1 : Nat) (w : World) (hx : 1 ≤ x) (hx' : x ≤ 1024) (hy : 1 ≤ y) (hy' : y ≤ 1024) (hm : x * y = m) (hn : Nums w a m cap V b) (hn' : Nums w a' n' cap' V' b') (hV : ∀ j, j < m → -9223372036854775808 ≤ V j ∧ V j ≤ 9223372036854775807) (h0 : m0 < 256) (h1 : m1 < 256) (hb1 : ¬ 2000 < m) (hb2 : ¬ 2000 < n') :
    Calls Try.prog 5 #[.agg #[.int .i64 (x : Int), .int .i64 (y : Int), .slice a m cap], .agg #[.int .i64 X', .int .i64 Y', .slice a' n' cap'], .agg #[.int .u8 (m0 : Int), .int .u8 (m1 : Int)]] w fun e w' => e = .returned (.bool true) ∧ Fr (fun _ => False) w w' := by
  have hR : rightP (x : Int) (y : Int) m = true := by rw [← hm]; exact rightP_of hx hx' hy hy'
  obtain ⟨r0, hr0⟩ : ∃ r0, r0 = m0 % 20 := ⟨_, rfl⟩
  obtain ⟨r1, hr1⟩ : ∃ r1, r1 = m1 % 20 := ⟨_, rfl⟩
  have hr0' : r0 < 20 := by rw [hr0]; omega
  have hr1' : r1 < 20 := by rw [hr1]; omega
  obtain ⟨u, hu⟩ : ∃ u, u = min 1024 (x + r0) := ⟨_, rfl⟩
  obtain ⟨v, hv⟩ : ∃ v, v = min 1024 (y + r1) := ⟨_, rfl⟩
  have hu1 : 1 ≤ u := by omega
  have hu2 : u ≤ 1024 := by omega
  have hu3 : x ≤ u := by omega
  have hv1 : 1 ≤ v := by omega
  have hv2 : v ≤ 1024 := by omega
  have hv3 : y ≤ v := by omega
  have HPad : Hid (∀ w1, Nums w1 a m cap V b → Calls Try.prog 23 #[.agg #[.int .i64 (x : Int), .int .i64 (y : Int), .slice a m cap], .int .i64 (u : Int), .int .i64 (v : Int)] w1 fun e w' => Made w1 w' e u v (u * v) (sizedV x y V u)) := by
    intro w1 h; subst hm; exact ppad_go x y u v a cap V b w1 hu1 hu2 hv1 hv2 hx hx' hy hy' hu3 hv3 h
  have HCrop : Hid (∀ w1 a1 cap1 b1, Nums w1 a1 (u * v) cap1 (sizedV x y V u) b1 → Calls Try.prog 22 #[.agg #[.int .i64 (u : Int), .int .i64 (v : Int), .slice a1 (u * v) cap1], .int .i64 (x : Int), .int .i64 (y : Int)] w1 fun e w' => Made w1 w' e x y m V) := by
    intro w1 a1 cap1 b1 h; subst hm; exact (pcrop_go u v x y a1 cap1 _ b1 w1 hx hx' hy hy' hu1 hu2 hv1 hv2 hu3 hv3 h).mono (fun e w' hM => hM.congr (fun j hj => crop_pad hu3 hv3 hj))
  have E0 : Hid ((m0 : Int) % 20 = (r0 : Int)) := by show _ = _; omega
  have E1 : Hid ((m1 : Int) % 20 = (r1 : Int)) := by show _ = _; omega
  have EU : Hid (min (1024 : Int) ((x + r0 : Nat) : Int) = (u : Int)) := by show _ = _; omega
  have EV : Hid (min (1024 : Int) ((y + r1 : Nat) : Int) = (v : Int)) := by show _ = _; omega
  have HSame : Hid (∀ w1 a1 cap1 b1, Nums w1 a1 m cap1 V b1 → Nums w1 a m cap V b → Calls Try.prog 14 #[.agg #[.int .i64 (x : Int), .int .i64 (y : Int), .slice a1 m cap1], .agg #[.int .i64 (x : Int), .int .i64 (y : Int), .slice a m cap]] w1 fun e w' => e = .returned (.bool true) ∧ Fr (fun _ => False) w1 w') := by
    intro w1 a1 cap1 b1 h h'
    have := psame_any (x : Int) (y : Int) a1 m cap1 V b1 x y a m cap V b w1 h h'
    rwa [show (likeP (x : Int) (y : Int) m (x : Int) (y : Int) m && eqV m V V) = true by simp [likeP, hR, eqV]] at this
  have HTurn : Hid (∀ w1, Nums w1 a m cap V b → Calls Try.prog 24 #[.agg #[.int .i64 (x : Int), .int .i64 (y : Int), .slice a m cap]] w1 fun e w' => Made w1 w' e y x (y * x) (turnV x y V)) := by
    intro w1 h; subst hm; exact pturn_go x y a cap V b w1 hx hx' hy hy' h
  have HTurn2 : Hid (∀ w1 a1 cap1 b1, Nums w1 a1 (y * x) cap1 (turnV x y V) b1 → Calls Try.prog 24 #[.agg #[.int .i64 (y : Int), .int .i64 (x : Int), .slice a1 (y * x) cap1]] w1 fun e w' => Made w1 w' e x y m V) := by
    intro w1 a1 cap1 b1 h; subst hm; exact (pturn_go y x a1 cap1 _ b1 w1 hy hy' hx hx' h).mono (fun e w' hM => hM.congr (fun j hj => turn_turn hj))
  obtain ⟨cX, cY, cn, cV, sX, sY, sn, sV, HCrop2, HPad2, HS⟩ : ∃ (cX cY : Int) (cn : Nat) (cV : Nat → Int) (sX sY : Int) (sn : Nat) (sV : Nat → Int), Hid (∀ w1, Nums w1 a' n' cap' V' b' → Calls Try.prog 22 #[.agg #[.int .i64 X', .int .i64 Y', .slice a' n' cap'], .int .i64 (max 1 (min X' (x : Int))), .int .i64 (max 1 (min Y' (y : Int)))] w1 fun e w' => Made w1 w' e cX cY cn cV) ∧ Hid (∀ w1 a1 cap1 b1, Nums w1 a1 cn cap1 cV b1 → Calls Try.prog 23 #[.agg #[.int .i64 cX, .int .i64 cY, .slice a1 cn cap1], .int .i64 (x : Int), .int .i64 (y : Int)] w1 fun e w' => Made w1 w' e sX sY sn sV) ∧ Hid (rightP X' Y' n' = true → sX = x ∧ sY = y ∧ sn = m) := by
    cases hq : rightP X' Y' n' with
    | false =>
      exact ⟨0, 0, 0, fun _ => 0, 0, 0, 0, fun _ => 0, fun w1 _ => pcrop_bad X' Y' a' n' cap' _ _ w1 (.inl hq), fun w1 a1 cap1 _ _ => ppad_bad 0 0 a1 0 cap1 _ _ w1 rightP_zero, fun h => by cases h⟩
    | true =>
      obtain ⟨x2, y2, rfl, rfl, g1, g2, g3, g4, rfl⟩ := rightP_nat hq
      refine ⟨(min x2 x : Nat), (min y2 y : Nat), min x2 x * min y2 y, sizedV x2 y2 V' (min x2 x), x, y, m, sizedV (min x2 x) (min y2 y) (sizedV x2 y2 V' (min x2 x)) x, ?_, ?_, fun _ => ⟨rfl, rfl, rfl⟩⟩
      · intro w1 h
        have := pcrop_go x2 y2 (min x2 x) (min y2 y) a' cap' V' b' w1 (by omega) (by omega) (by omega) (by omega) g1 g2 g3 g4 (by omega) (by omega) h
        rw [show max 1 (min (x2 : Int) (x : Int)) = ((min x2 x : Nat) : Int) by omega, show max 1 (min (y2 : Int) (y : Int)) = ((min y2 y : Nat) : Int) by omega]
        exact this
      · intro w1 a1 cap1 b1 h
        subst hm
        exact ppad_go (min x2 x) (min y2 y) x y a1 cap1 _ b1 w1 hx hx' hy hy' (by omega) (by omega) (by omega) (by omega) (by omega) (by omega) h
  have hpos : 0 < m := by rw [← hm]; exact Nat.mul_pos (by omega) (by omega)
  have HV := hid hV
  have HM := hid hm
  have HB1 := hid hb1
  have HB2 := hid hb2
  clear hpos hr0 hr1 hu hv hu1 hu2 hu3 hv1 hv2 hv3 hV hm hb1 hb2
  obtain ⟨W, hW⟩ : ∃ W, W = ((w.alloc (.cells #[.int .i64 (x : Int), .int .i64 (y : Int), .slice a m cap] 24)).alloc (.cells #[.int .i64 X', .int .i64 Y', .slice a' n' cap'] 24)).alloc (.cells #[.int .u8 (m0 : Int), .int .u8 (m1 : Int)] 42) := ⟨_, rfl⟩
  have F0 : Fr (fun _ => False) w W := by rw [hW]; exact (((Fr.refl _ w).alloc _).alloc _).alloc _
  have O0 : Blk W w.heap.size #[.int .i64 (x : Int), .int .i64 (y : Int), .slice a m cap] 24 := by rw [hW]; exact ((Blk.new _ _ _).alloc _).alloc _
  have O1 : Blk W (w.heap.size + 1) #[.int .i64 X', .int .i64 Y', .slice a' n' cap'] 24 := by
    rw [hW]
    have := Blk.new (w.alloc (.cells #[.int .i64 (x : Int), .int .i64 (y : Int), .slice a m cap] 24)) #[.int .i64 X', .int .i64 Y', .slice a' n' cap'] 24
    simp at this
    exact this.alloc _
  have O2 : Blk W (w.heap.size + 2) #[.int .u8 (m0 : Int), .int .u8 (m1 : Int)] 42 := by
    rw [hW]
    have := Blk.new ((w.alloc (.cells #[.int .i64 (x : Int), .int .i64 (y : Int), .slice a m cap] 24)).alloc (.cells #[.int .i64 X', .int .i64 Y', .slice a' n' cap'] 24)) #[.int .u8 (m0 : Int), .int .u8 (m1 : Int)] 42
    simpa using this
  have HW := hid hW
  clear hW
  have HC : Hid (∀ wq, Fr (fun _ => False) W wq → (wq.cell? ⟨w.heap.size, 0, none⟩ = some (.int .i64 (x : Int)) ∧ wq.cell? ⟨w.heap.size, 1, none⟩ = some (.int .i64 (y : Int)) ∧ wq.cell? ⟨w.heap.size, 2, none⟩ = some (.slice a m cap)) ∧ (wq.cell? ⟨w.heap.size + 1, 0, none⟩ = some (.int .i64 X') ∧ wq.cell? ⟨w.heap.size + 1, 1, none⟩ = some (.int .i64 Y') ∧ wq.cell? ⟨w.heap.size + 1, 2, none⟩ = some (.slice a' n' cap')) ∧ (wq.cell? ⟨w.heap.size + 2, 0, none⟩ = some (.int .u8 (m0 : Int)) ∧ wq.cell? ⟨w.heap.size + 2, 1, none⟩ = some (.int .u8 (m1 : Int))) ∧ Hid (Nums wq a m cap V b) ∧ Hid (Nums wq a' n' cap' V' b')) := by
    intro wq f
    have S0 := O0.fr f (fun h => h)
    have S1 := O1.fr f (fun h => h)
    have S2 := O2.fr f (fun h => h)
    exact ⟨⟨by rw [S0.cell]; rfl, by rw [S0.cell]; rfl, by rw [S0.cell]; rfl⟩, ⟨by rw [S1.cell]; rfl, by rw [S1.cell]; rfl, by rw [S1.cell]; rfl⟩, ⟨by rw [S2.cell]; rfl, by rw [S2.cell]; rfl⟩, hn.quiet (F0.trans' f), hn'.quiet (F0.trans' f)⟩
  clear O0 O1 O2 hn hn'
  go_enter Try.func5, Try.ntmps5
  go_wp2_with fail
  rw [← HW.out]
  refine (first7_any W).mono ?_
  rintro e w1 ⟨rfl, f1⟩
  have HC1 := hid (HC.out w1 f1)
  obtain ⟨⟨k0, k1, k2⟩, ⟨l0, l1, l2⟩, ⟨m5, m6⟩, HNp, HNq⟩ := HC1.out
  go_wp2_with fail
  refine (big7_any (x : Int) (y : Int) a m cap w1 HNp.out.len).mono ?_
  rintro e w2 ⟨rfl, f2⟩
  rw [decide_eq_false HB1.out]
  clear k0 k1 k2 l0 l1 l2 m5 m6 HNp HNq HC1
  obtain ⟨⟨k0, k1, k2⟩, ⟨l0, l1, l2⟩, ⟨m5, m6⟩, HNp, HNq⟩ := HC.out w2 (f1.trans' f2)
  go_wp2_with fail
  refine (big7_any X' Y' a' n' cap' w2 HNq.out.len).mono ?_
  rintro e w3 ⟨rfl, f3⟩
  rw [decide_eq_false HB2.out]
  clear k0 k1 k2 l0 l1 l2 m5 m6 HNp HNq
  obtain ⟨⟨k0, k1, k2⟩, ⟨l0, l1, l2⟩, ⟨m5, m6⟩, HNp, HNq⟩ := HC.out w3 ((f1.trans' f2).trans' f3)
  go_wp2_with fail
  refine (pright_any x y a m cap w3).mono ?_
  rintro e W4 ⟨rfl, f4⟩
  rw [hR]
  clear k0 k1 k2 l0 l1 l2 m5 m6 HNp HNq
  have HQ := hid (fun wq (f : Fr (fun _ => False) W4.drew wq) => HC.out wq (((f1.trans' f2).trans' f3).trans' (f4.trans' ((Fr.refl _ W4).drew.trans' f))))
  have HF4 := hid (F0.trans' (((f1.trans' f2).trans' f3).trans' f4))
  clear f1 f2 f3 f4
  go_wp2
  refine weaveS 24 [.eq (Value.agg #[.int .i64 (x : Int), .int .i64 (y : Int), .slice a m cap]), .eq (Value.pointer (some ⟨w.heap.size, 0, none⟩)), .eq (Value.int .i64 (x : Int)), .eq (Value.pointer (some ⟨w.heap.size + 2, 0, none⟩)), .eq (Value.int .u8 (m0 : Int)), .eq (Value.int .u8 (r0 : Int)), .eq (Value.int .i64 (r0 : Int)), .eq (Value.int .i64 ((x + r0 : Nat) : Int)), .eq (Value.int .i64 (u : Int)), .eq (Value.pointer (some ⟨w.heap.size, 1, none⟩)), .eq (Value.int .i64 (y : Int)), .eq (Value.pointer (some ⟨w.heap.size + 2, 1, none⟩)), .eq (Value.int .u8 (m1 : Int)), .eq (Value.int .u8 (r1 : Int)), .eq (Value.int .i64 (r1 : Int)), .eq (Value.int .i64 ((y + r1 : Nat) : Int)), .eq (Value.int .i64 (v : Int)), .plane ((u : Int)) ((v : Int)) (u * v) (sizedV x y V u), .eq (Value.pointer (some ⟨w.heap.size, 0, none⟩)), .eq (Value.int .i64 (x : Int)), .eq (Value.pointer (some ⟨w.heap.size, 1, none⟩)), .eq (Value.int .i64 (y : Int)), .plane ((x : Int)) ((y : Int)) (m) (V), .box W4.heap.size #[.int .i64 0, .int .i64 0, .slice none 0 0] 24] (by kernel_rfl) (by kernel_rfl) ?obls ?tail
  case obls =>
    simp only [List.take_succ_cons, List.take_zero]
    refine ⟨?_, ?_, ?_, ?_, ?_, ?_, ?_, ?_, ?_, ?_, ?_, ?_, ?_, ?_, ?_, ?_, ?_, ?_, ?_, ?_, ?_, ?_, ?_, ?_, trivial⟩
    · intro vals wq f h
      simp only [fillA, fillT, List.setIfInBounds_toArray, List.set_cons_succ, List.set_cons_zero, Option.getD_some, Nat.zero_add, Nat.reduceAdd]
      obtain ⟨⟨k0, k1, k2⟩, ⟨l0, l1, l2⟩, ⟨m5, m6⟩, HNp, HNq⟩ := HQ.out wq f
      clear h
      go_wp2
      exact ⟨rfl, rfl, _, rfl, Fr.refl _ _, rfl⟩
    · intro vals wq f h
      simp only [fillA, fillT, List.setIfInBounds_toArray, List.set_cons_succ, List.set_cons_zero, Option.getD_some, Nat.zero_add, Nat.reduceAdd]
      obtain ⟨⟨k0, k1, k2⟩, ⟨l0, l1, l2⟩, ⟨m5, m6⟩, HNp, HNq⟩ := HQ.out wq f
      clear h
      go_wp2
      exact ⟨rfl, rfl, _, rfl, Fr.refl _ _, rfl⟩
    · intro vals wq f h
      simp only [fillA, fillT, List.setIfInBounds_toArray, List.set_cons_succ, List.set_cons_zero, Option.getD_some, Nat.zero_add, Nat.reduceAdd]
      have h1 : vals 1 = Value.pointer (some ⟨w.heap.size, 0, none⟩) := h 1 (by kernel_rfl)
      rw [h1]
      obtain ⟨⟨k0, k1, k2⟩, ⟨l0, l1, l2⟩, ⟨m5, m6⟩, HNp, HNq⟩ := HQ.out wq f
      clear h
      go_wp2
      exact ⟨rfl, rfl, _, rfl, Fr.refl _ _, rfl⟩
    · intro vals wq f h
      simp only [fillA, fillT, List.setIfInBounds_toArray, List.set_cons_succ, List.set_cons_zero, Option.getD_some, Nat.zero_add, Nat.reduceAdd]
      obtain ⟨⟨k0, k1, k2⟩, ⟨l0, l1, l2⟩, ⟨m5, m6⟩, HNp, HNq⟩ := HQ.out wq f
      clear h
      go_wp2
      exact ⟨rfl, rfl, _, rfl, Fr.refl _ _, rfl⟩
    · intro vals wq f h
      simp only [fillA, fillT, List.setIfInBounds_toArray, List.set_cons_succ, List.set_cons_zero, Option.getD_some, Nat.zero_add, Nat.reduceAdd]
      have h3 : vals 3 = Value.pointer (some ⟨w.heap.size + 2, 0, none⟩) := h 3 (by kernel_rfl)
      rw [h3]
      obtain ⟨⟨k0, k1, k2⟩, ⟨l0, l1, l2⟩, ⟨m5, m6⟩, HNp, HNq⟩ := HQ.out wq f
      clear h
      go_wp2
      exact ⟨rfl, rfl, _, rfl, Fr.refl _ _, rfl⟩
    · intro vals wq f h
      simp only [fillA, fillT, List.setIfInBounds_toArray, List.set_cons_succ, List.set_cons_zero, Option.getD_some, Nat.zero_add, Nat.reduceAdd]
      have h4 : vals 4 = Value.int .u8 (m0 : Int) := h 4 (by kernel_rfl)
      rw [h4]
      obtain ⟨⟨k0, k1, k2⟩, ⟨l0, l1, l2⟩, ⟨m5, m6⟩, HNp, HNq⟩ := HQ.out wq f
      clear h
      go_wp2
      exact ⟨rfl, rfl, _, rfl, Fr.refl _ _, ret_int_v E0.out⟩
    · intro vals wq f h
      simp only [fillA, fillT, List.setIfInBounds_toArray, List.set_cons_succ, List.set_cons_zero, Option.getD_some, Nat.zero_add, Nat.reduceAdd]
      have h5 : vals 5 = Value.int .u8 (r0 : Int) := h 5 (by kernel_rfl)
      rw [h5]
      obtain ⟨⟨k0, k1, k2⟩, ⟨l0, l1, l2⟩, ⟨m5, m6⟩, HNp, HNq⟩ := HQ.out wq f
      clear h
      go_wp2
      exact ⟨rfl, rfl, _, rfl, Fr.refl _ _, rfl⟩
    · intro vals wq f h
      simp only [fillA, fillT, List.setIfInBounds_toArray, List.set_cons_succ, List.set_cons_zero, Option.getD_some, Nat.zero_add, Nat.reduceAdd]
      have h2 : vals 2 = Value.int .i64 (x : Int) := h 2 (by kernel_rfl)
      rw [h2]
      have h6 : vals 6 = Value.int .i64 (r0 : Int) := h 6 (by kernel_rfl)
      rw [h6]
      obtain ⟨⟨k0, k1, k2⟩, ⟨l0, l1, l2⟩, ⟨m5, m6⟩, HNp, HNq⟩ := HQ.out wq f
      clear h
      go_wp2
      exact ⟨rfl, rfl, _, rfl, Fr.refl _ _, rfl⟩
    · intro vals wq f h
      simp only [fillA, fillT, List.setIfInBounds_toArray, List.set_cons_succ, List.set_cons_zero, Option.getD_some, Nat.zero_add, Nat.reduceAdd]
      have h7 : vals 7 = Value.int .i64 ((x + r0 : Nat) : Int) := h 7 (by kernel_rfl)
      rw [h7]
      obtain ⟨⟨k0, k1, k2⟩, ⟨l0, l1, l2⟩, ⟨m5, m6⟩, HNp, HNq⟩ := HQ.out wq f
      clear h
      go_wp2
      exact ⟨rfl, rfl, _, rfl, Fr.refl _ _, ret_int_v EU.out⟩
    · intro vals wq f h
      simp only [fillA, fillT, List.setIfInBounds_toArray, List.set_cons_succ, List.set_cons_zero, Option.getD_some, Nat.zero_add, Nat.reduceAdd]
      obtain ⟨⟨k0, k1, k2⟩, ⟨l0, l1, l2⟩, ⟨m5, m6⟩, HNp, HNq⟩ := HQ.out wq f
      clear h
      go_wp2
      exact ⟨rfl, rfl, _, rfl, Fr.refl _ _, rfl⟩
    · intro vals wq f h
      simp only [fillA, fillT, List.setIfInBounds_toArray, List.set_cons_succ, List.set_cons_zero, Option.getD_some, Nat.zero_add, Nat.reduceAdd]
      have h9 : vals 9 = Value.pointer (some ⟨w.heap.size, 1, none⟩) := h 9 (by kernel_rfl)
      rw [h9]
      obtain ⟨⟨k0, k1, k2⟩, ⟨l0, l1, l2⟩, ⟨m5, m6⟩, HNp, HNq⟩ := HQ.out wq f
      clear h
      go_wp2
      exact ⟨rfl, rfl, _, rfl, Fr.refl _ _, rfl⟩
    · intro vals wq f h
      simp only [fillA, fillT, List.setIfInBounds_toArray, List.set_cons_succ, List.set_cons_zero, Option.getD_some, Nat.zero_add, Nat.reduceAdd]
      obtain ⟨⟨k0, k1, k2⟩, ⟨l0, l1, l2⟩, ⟨m5, m6⟩, HNp, HNq⟩ := HQ.out wq f
      clear h
      go_wp2
      exact ⟨rfl, rfl, _, rfl, Fr.refl _ _, rfl⟩
    · intro vals wq f h
      simp only [fillA, fillT, List.setIfInBounds_toArray, List.set_cons_succ, List.set_cons_zero, Option.getD_some, Nat.zero_add, Nat.reduceAdd]
      have h11 : vals 11 = Value.pointer (some ⟨w.heap.size + 2, 1, none⟩) := h 11 (by kernel_rfl)
      rw [h11]
      obtain ⟨⟨k0, k1, k2⟩, ⟨l0, l1, l2⟩, ⟨m5, m6⟩, HNp, HNq⟩ := HQ.out wq f
      clear h
      go_wp2
      exact ⟨rfl, rfl, _, rfl, Fr.refl _ _, rfl⟩
    · intro vals wq f h
      simp only [fillA, fillT, List.setIfInBounds_toArray, List.set_cons_succ, List.set_cons_zero, Option.getD_some, Nat.zero_add, Nat.reduceAdd]
      have h12 : vals 12 = Value.int .u8 (m1 : Int) := h 12 (by kernel_rfl)
      rw [h12]
      obtain ⟨⟨k0, k1, k2⟩, ⟨l0, l1, l2⟩, ⟨m5, m6⟩, HNp, HNq⟩ := HQ.out wq f
      clear h
      go_wp2
      exact ⟨rfl, rfl, _, rfl, Fr.refl _ _, ret_int_v E1.out⟩
    · intro vals wq f h
      simp only [fillA, fillT, List.setIfInBounds_toArray, List.set_cons_succ, List.set_cons_zero, Option.getD_some, Nat.zero_add, Nat.reduceAdd]
      have h13 : vals 13 = Value.int .u8 (r1 : Int) := h 13 (by kernel_rfl)
      rw [h13]
      obtain ⟨⟨k0, k1, k2⟩, ⟨l0, l1, l2⟩, ⟨m5, m6⟩, HNp, HNq⟩ := HQ.out wq f
      clear h
      go_wp2
      exact ⟨rfl, rfl, _, rfl, Fr.refl _ _, rfl⟩
    · intro vals wq f h
      simp only [fillA, fillT, List.setIfInBounds_toArray, List.set_cons_succ, List.set_cons_zero, Option.getD_some, Nat.zero_add, Nat.reduceAdd]
      have h10 : vals 10 = Value.int .i64 (y : Int) := h 10 (by kernel_rfl)
      rw [h10]
      have h14 : vals 14 = Value.int .i64 (r1 : Int) := h 14 (by kernel_rfl)
      rw [h14]
      obtain ⟨⟨k0, k1, k2⟩, ⟨l0, l1, l2⟩, ⟨m5, m6⟩, HNp, HNq⟩ := HQ.out wq f
      clear h
      go_wp2
      exact ⟨rfl, rfl, _, rfl, Fr.refl _ _, rfl⟩
    · intro vals wq f h
      simp only [fillA, fillT, List.setIfInBounds_toArray, List.set_cons_succ, List.set_cons_zero, Option.getD_some, Nat.zero_add, Nat.reduceAdd]
      have h15 : vals 15 = Value.int .i64 ((y + r1 : Nat) : Int) := h 15 (by kernel_rfl)
      rw [h15]
      obtain ⟨⟨k0, k1, k2⟩, ⟨l0, l1, l2⟩, ⟨m5, m6⟩, HNp, HNq⟩ := HQ.out wq f
      clear h
      go_wp2
      exact ⟨rfl, rfl, _, rfl, Fr.refl _ _, ret_int_v EV.out⟩
    · intro vals wq f h
      simp only [fillA, fillT, List.setIfInBounds_toArray, List.set_cons_succ, List.set_cons_zero, Option.getD_some, Nat.zero_add, Nat.reduceAdd]
      have h0 : vals 0 = Value.agg #[.int .i64 (x : Int), .int .i64 (y : Int), .slice a m cap] := h 0 (by kernel_rfl)
      rw [h0]
      have h8 : vals 8 = Value.int .i64 (u : Int) := h 8 (by kernel_rfl)
      rw [h8]
      have h16 : vals 16 = Value.int .i64 (v : Int) := h 16 (by kernel_rfl)
      rw [h16]
      obtain ⟨⟨k0, k1, k2⟩, ⟨l0, l1, l2⟩, ⟨m5, m6⟩, HNp, HNq⟩ := HQ.out wq f
      clear h
      go_wp2_with fail
      refine (HPad.out wq HNp.out).mono ?_
      intro e w6 hM
      obtain ⟨v6, rfl, p6, f6⟩ := hM.plane
      obtain ⟨_, _, _, rfl, _⟩ := id p6
      have HP6 := hid p6
      clear p6
      go_wp2
      exact ⟨rfl, rfl, _, rfl, f6, HP6.out⟩
    · intro vals wq f h
      simp only [fillA, fillT, List.setIfInBounds_toArray, List.set_cons_succ, List.set_cons_zero, Option.getD_some, Nat.zero_add, Nat.reduceAdd]
      obtain ⟨⟨k0, k1, k2⟩, ⟨l0, l1, l2⟩, ⟨m5, m6⟩, HNp, HNq⟩ := HQ.out wq f
      clear h
      go_wp2
      exact ⟨rfl, rfl, _, rfl, Fr.refl _ _, rfl⟩
    · intro vals wq f h
      simp only [fillA, fillT, List.setIfInBounds_toArray, List.set_cons_succ, List.set_cons_zero, Option.getD_some, Nat.zero_add, Nat.reduceAdd]
      have h18 : vals 18 = Value.pointer (some ⟨w.heap.size, 0, none⟩) := h 18 (by kernel_rfl)
      rw [h18]
      obtain ⟨⟨k0, k1, k2⟩, ⟨l0, l1, l2⟩, ⟨m5, m6⟩, HNp, HNq⟩ := HQ.out wq f
      clear h
      go_wp2
      exact ⟨rfl, rfl, _, rfl, Fr.refl _ _, rfl⟩
    · intro vals wq f h
      simp only [fillA, fillT, List.setIfInBounds_toArray, List.set_cons_succ, List.set_cons_zero, Option.getD_some, Nat.zero_add, Nat.reduceAdd]
      obtain ⟨⟨k0, k1, k2⟩, ⟨l0, l1, l2⟩, ⟨m5, m6⟩, HNp, HNq⟩ := HQ.out wq f
      clear h
      go_wp2
      exact ⟨rfl, rfl, _, rfl, Fr.refl _ _, rfl⟩
    · intro vals wq f h
      simp only [fillA, fillT, List.setIfInBounds_toArray, List.set_cons_succ, List.set_cons_zero, Option.getD_some, Nat.zero_add, Nat.reduceAdd]
      have h20 : vals 20 = Value.pointer (some ⟨w.heap.size, 1, none⟩) := h 20 (by kernel_rfl)
      rw [h20]
      obtain ⟨⟨k0, k1, k2⟩, ⟨l0, l1, l2⟩, ⟨m5, m6⟩, HNp, HNq⟩ := HQ.out wq f
      clear h
      go_wp2
      exact ⟨rfl, rfl, _, rfl, Fr.refl _ _, rfl⟩
    · intro vals wq f h
      simp only [fillA, fillT, List.setIfInBounds_toArray, List.set_cons_succ, List.set_cons_zero, Option.getD_some, Nat.zero_add, Nat.reduceAdd]
      obtain ⟨a17, cap17, b17, h17, n17, i17⟩ : PlaneAt wq (vals 17) ((u : Int)) ((v : Int)) (u * v) (sizedV x y V u) := h 17 (by kernel_rfl)
      rw [h17]
      have h19 : vals 19 = Value.int .i64 (x : Int) := h 19 (by kernel_rfl)
      rw [h19]
      have h21 : vals 21 = Value.int .i64 (y : Int) := h 21 (by kernel_rfl)
      rw [h21]
      obtain ⟨⟨k0, k1, k2⟩, ⟨l0, l1, l2⟩, ⟨m5, m6⟩, HNp, HNq⟩ := HQ.out wq f
      clear h
      go_wp2_with fail
      refine (HCrop.out wq _ _ _ n17).mono ?_
      intro e w6 hM
      obtain ⟨v6, rfl, p6, f6⟩ := hM.plane
      obtain ⟨_, _, _, rfl, _⟩ := id p6
      have HP6 := hid p6
      clear p6
      go_wp2
      exact ⟨rfl, rfl, _, rfl, f6, HP6.out⟩
    · intro vals wq f h
      simp only [fillA, fillT, List.setIfInBounds_toArray, List.set_cons_succ, List.set_cons_zero, Option.getD_some, Nat.zero_add, Nat.reduceAdd]
      obtain ⟨⟨k0, k1, k2⟩, ⟨l0, l1, l2⟩, ⟨m5, m6⟩, HNp, HNq⟩ := HQ.out wq f
      clear h
      have HB := hid (Blk.new wq #[.int .i64 0, .int .i64 0, .slice none 0 0] 24)
      have hle := f.size
      go_wp2
      exact ⟨rfl, rfl, _, rfl, (Fr.refl _ wq).alloc _, _, rfl, HB.out, hle⟩
  case tail =>
    intro vals wq f h
    simp only [List.take_succ_cons, List.take_zero, fillA, fillT, List.setIfInBounds_toArray, List.set_cons_succ, List.set_cons_zero, List.drop_succ_cons, List.drop_zero, Nat.zero_add, Nat.reduceAdd]
    obtain ⟨a22, cap22, b22, h22, n22, i22⟩ : PlaneAt wq (vals 22) ((x : Int)) ((y : Int)) (m) (V) := h 22 (by omega)
    rw [h22]
    obtain ⟨b23, h23, B23, l23⟩ : BoxAt wq (vals 23) (W4.heap.size) #[.int .i64 0, .int .i64 0, .slice none 0 0] 24 := h 23 (by omega)
    rw [h23]
    have z0 : wq.cell? ⟨b23, 0, none⟩ = some (.int .i64 0) := by rw [B23.cell]; rfl
    have z1 : wq.cell? ⟨b23, 1, none⟩ = some (.int .i64 0) := by rw [B23.cell]; rfl
    have z2 : wq.cell? ⟨b23, 2, none⟩ = some (.slice none 0 0) := by rw [B23.cell]; rfl
    have zf := B23.thaw
    have HB := hid B23
    have HN := hid n22
    have HI := hid (fun h => (i22 h).ne B23 (by decide))
    have HFq := hid f
    clear h h22 h23 B23 n22 i22 f
    gi_wp2
    obtain ⟨W5, hW5⟩ : ∃ W, W = ((wq.setCell ⟨b23, 0, none⟩ (.int .i64 (x : Int))).setCell ⟨b23, 1, none⟩ (.int .i64 (y : Int))).setCell ⟨b23, 2, none⟩ (.slice a22 m cap22) := ⟨_, rfl⟩
    have FW5 : Fr (fun _ => False) W4 W5 := by rw [hW5]; exact (((((Fr.refl _ W4).drew.trans' HFq.out).setNew (p := ⟨b23, 0, none⟩) l23 _).setNew (p := ⟨b23, 1, none⟩) l23 _).setNew (p := ⟨b23, 2, none⟩) l23 _)
    have RW5 : Blk W5 b23 #[.int .i64 (x : Int), .int .i64 (y : Int), .slice a22 m cap22] 24 := by rw [hW5]; simpa using ((HB.out.set 0 (.int .i64 (x : Int))).set 1 (.int .i64 (y : Int))).set 2 (.slice a22 m cap22)
    have NW5 : Nums W5 a22 m cap22 V b22 := by rw [hW5]; exact HN.out.fr ((((Fr.refl (fun k => k = b23) wq).setCell (p := ⟨b23, 0, none⟩) (fun _ => rfl) _).setCell (p := ⟨b23, 1, none⟩) (fun _ => rfl) _).setCell (p := ⟨b23, 2, none⟩) (fun _ => rfl) _) (fun h => HI.out h)
    rw [← hW5]
    have HW5 := hid hW5
    clear hW5 HB HN HI HFq z0 z1 z2 zf HW5
    have HF5 := hid (HF4.out.trans' FW5)
    have HQ5 := hid (fun wq (f : Fr (fun _ => False) W5.drew wq) => HQ.out wq (FW5.drewFrom.trans' ((Fr.refl _ W5).drew.trans' f)))
    clear HQ HF4 HPad HCrop E0 E1 EU EV FW5
    go_wp2
    refine weaveS 20 [.eq (Value.agg #[.int .i64 X', .int .i64 Y', .slice a' n' cap']), .eq (Value.pointer (some ⟨w.heap.size + 1, 0, none⟩)), .eq (Value.int .i64 X'), .eq (Value.pointer (some ⟨w.heap.size, 0, none⟩)), .eq (Value.int .i64 (x : Int)), .eq (Value.int .i64 (min X' (x : Int))), .eq (Value.int .i64 (max 1 (min X' (x : Int)))), .eq (Value.pointer (some ⟨w.heap.size + 1, 1, none⟩)), .eq (Value.int .i64 Y'), .eq (Value.pointer (some ⟨w.heap.size, 1, none⟩)), .eq (Value.int .i64 (y : Int)), .eq (Value.int .i64 (min Y' (y : Int))), .eq (Value.int .i64 (max 1 (min Y' (y : Int)))), .plane (cX) (cY) (cn) (cV), .eq (Value.pointer (some ⟨w.heap.size, 0, none⟩)), .eq (Value.int .i64 (x : Int)), .eq (Value.pointer (some ⟨w.heap.size, 1, none⟩)), .eq (Value.int .i64 (y : Int)), .plane (sX) (sY) (sn) (sV), .box W5.heap.size #[.int .i64 0, .int .i64 0, .slice none 0 0] 24] (by kernel_rfl) (by kernel_rfl) ?obls ?tail
    case obls =>
      simp only [List.take_succ_cons, List.take_zero]
      refine ⟨?_, ?_, ?_, ?_, ?_, ?_, ?_, ?_, ?_, ?_, ?_, ?_, ?_, ?_, ?_, ?_, ?_, ?_, ?_, ?_, trivial⟩
      · intro vals wq f h
        simp only [fillA, fillT, List.setIfInBounds_toArray, List.set_cons_succ, List.set_cons_zero, Option.getD_some, Nat.zero_add, Nat.reduceAdd]
        obtain ⟨⟨k0, k1, k2⟩, ⟨l0, l1, l2⟩, ⟨m5, m6⟩, HNp, HNq⟩ := HQ5.out wq f
        clear h
        go_wp2
        exact ⟨rfl, rfl, _, rfl, Fr.refl _ _, rfl⟩
      · intro vals wq f h
        simp only [fillA, fillT, List.setIfInBounds_toArray, List.set_cons_succ, List.set_cons_zero, Option.getD_some, Nat.zero_add, Nat.reduceAdd]
        obtain ⟨⟨k0, k1, k2⟩, ⟨l0, l1, l2⟩, ⟨m5, m6⟩, HNp, HNq⟩ := HQ5.out wq f
        clear h
        go_wp2
        exact ⟨rfl, rfl, _, rfl, Fr.refl _ _, rfl⟩
      · intro vals wq f h
        simp only [fillA, fillT, List.setIfInBounds_toArray, List.set_cons_succ, List.set_cons_zero, Option.getD_some, Nat.zero_add, Nat.reduceAdd]
        have h1 : vals 1 = Value.pointer (some ⟨w.heap.size + 1, 0, none⟩) := h 1 (by kernel_rfl)
        rw [h1]
        obtain ⟨⟨k0, k1, k2⟩, ⟨l0, l1, l2⟩, ⟨m5, m6⟩, HNp, HNq⟩ := HQ5.out wq f
        clear h
        go_wp2
        exact ⟨rfl, rfl, _, rfl, Fr.refl _ _, rfl⟩
      · intro vals wq f h
        simp only [fillA, fillT, List.setIfInBounds_toArray, List.set_cons_succ, List.set_cons_zero, Option.getD_some, Nat.zero_add, Nat.reduceAdd]
        obtain ⟨⟨k0, k1, k2⟩, ⟨l0, l1, l2⟩, ⟨m5, m6⟩, HNp, HNq⟩ := HQ5.out wq f
        clear h
        go_wp2
        exact ⟨rfl, rfl, _, rfl, Fr.refl _ _, rfl⟩
      · intro vals wq f h
        simp only [fillA, fillT, List.setIfInBounds_toArray, List.set_cons_succ, List.set_cons_zero, Option.getD_some, Nat.zero_add, Nat.reduceAdd]
        have h3 : vals 3 = Value.pointer (some ⟨w.heap.size, 0, none⟩) := h 3 (by kernel_rfl)
        rw [h3]
        obtain ⟨⟨k0, k1, k2⟩, ⟨l0, l1, l2⟩, ⟨m5, m6⟩, HNp, HNq⟩ := HQ5.out wq f
        clear h
        go_wp2
        exact ⟨rfl, rfl, _, rfl, Fr.refl _ _, rfl⟩
      · intro vals wq f h
        simp only [fillA, fillT, List.setIfInBounds_toArray, List.set_cons_succ, List.set_cons_zero, Option.getD_some, Nat.zero_add, Nat.reduceAdd]
        have h2 : vals 2 = Value.int .i64 X' := h 2 (by kernel_rfl)
        rw [h2]
        have h4 : vals 4 = Value.int .i64 (x : Int) := h 4 (by kernel_rfl)
        rw [h4]
        obtain ⟨⟨k0, k1, k2⟩, ⟨l0, l1, l2⟩, ⟨m5, m6⟩, HNp, HNq⟩ := HQ5.out wq f
        clear h
        go_wp2
        exact ⟨rfl, rfl, _, rfl, Fr.refl _ _, rfl⟩
      · intro vals wq f h
        simp only [fillA, fillT, List.setIfInBounds_toArray, List.set_cons_succ, List.set_cons_zero, Option.getD_some, Nat.zero_add, Nat.reduceAdd]
        have h5 : vals 5 = Value.int .i64 (min X' (x : Int)) := h 5 (by kernel_rfl)
        rw [h5]
        obtain ⟨⟨k0, k1, k2⟩, ⟨l0, l1, l2⟩, ⟨m5, m6⟩, HNp, HNq⟩ := HQ5.out wq f
        clear h
        go_wp2
        exact ⟨rfl, rfl, _, rfl, Fr.refl _ _, rfl⟩
      · intro vals wq f h
        simp only [fillA, fillT, List.setIfInBounds_toArray, List.set_cons_succ, List.set_cons_zero, Option.getD_some, Nat.zero_add, Nat.reduceAdd]
        obtain ⟨⟨k0, k1, k2⟩, ⟨l0, l1, l2⟩, ⟨m5, m6⟩, HNp, HNq⟩ := HQ5.out wq f
        clear h
        go_wp2
        exact ⟨rfl, rfl, _, rfl, Fr.refl _ _, rfl⟩
      · intro vals wq f h
        simp only [fillA, fillT, List.setIfInBounds_toArray, List.set_cons_succ, List.set_cons_zero, Option.getD_some, Nat.zero_add, Nat.reduceAdd]
        have h7 : vals 7 = Value.pointer (some ⟨w.heap.size + 1, 1, none⟩) := h 7 (by kernel_rfl)
        rw [h7]
        obtain ⟨⟨k0, k1, k2⟩, ⟨l0, l1, l2⟩, ⟨m5, m6⟩, HNp, HNq⟩ := HQ5.out wq f
        clear h
        go_wp2
        exact ⟨rfl, rfl, _, rfl, Fr.refl _ _, rfl⟩
      · intro vals wq f h
        simp only [fillA, fillT, List.setIfInBounds_toArray, List.set_cons_succ, List.set_cons_zero, Option.getD_some, Nat.zero_add, Nat.reduceAdd]
        obtain ⟨⟨k0, k1, k2⟩, ⟨l0, l1, l2⟩, ⟨m5, m6⟩, HNp, HNq⟩ := HQ5.out wq f
        clear h
        go_wp2
        exact ⟨rfl, rfl, _, rfl, Fr.refl _ _, rfl⟩
      · intro vals wq f h
        simp only [fillA, fillT, List.setIfInBounds_toArray, List.set_cons_succ, List.set_cons_zero, Option.getD_some, Nat.zero_add, Nat.reduceAdd]
        have h9 : vals 9 = Value.pointer (some ⟨w.heap.size, 1, none⟩) := h 9 (by kernel_rfl)
        rw [h9]
        obtain ⟨⟨k0, k1, k2⟩, ⟨l0, l1, l2⟩, ⟨m5, m6⟩, HNp, HNq⟩ := HQ5.out wq f
        clear h
        go_wp2
        exact ⟨rfl, rfl, _, rfl, Fr.refl _ _, rfl⟩
      · intro vals wq f h
        simp only [fillA, fillT, List.setIfInBounds_toArray, List.set_cons_succ, List.set_cons_zero, Option.getD_some, Nat.zero_add, Nat.reduceAdd]
        have h8 : vals 8 = Value.int .i64 Y' := h 8 (by kernel_rfl)
        rw [h8]
        have h10 : vals 10 = Value.int .i64 (y : Int) := h 10 (by kernel_rfl)
        rw [h10]
        obtain ⟨⟨k0, k1, k2⟩, ⟨l0, l1, l2⟩, ⟨m5, m6⟩, HNp, HNq⟩ := HQ5.out wq f
        clear h
        go_wp2
        exact ⟨rfl, rfl, _, rfl, Fr.refl _ _, rfl⟩
      · intro vals wq f h
        simp only [fillA, fillT, List.setIfInBounds_toArray, List.set_cons_succ, List.set_cons_zero, Option.getD_some, Nat.zero_add, Nat.reduceAdd]
        have h11 : vals 11 = Value.int .i64 (min Y' (y : Int)) := h 11 (by kernel_rfl)
        rw [h11]
        obtain ⟨⟨k0, k1, k2⟩, ⟨l0, l1, l2⟩, ⟨m5, m6⟩, HNp, HNq⟩ := HQ5.out wq f
        clear h
        go_wp2
        exact ⟨rfl, rfl, _, rfl, Fr.refl _ _, rfl⟩
      · intro vals wq f h
        simp only [fillA, fillT, List.setIfInBounds_toArray, List.set_cons_succ, List.set_cons_zero, Option.getD_some, Nat.zero_add, Nat.reduceAdd]
        have h0 : vals 0 = Value.agg #[.int .i64 X', .int .i64 Y', .slice a' n' cap'] := h 0 (by kernel_rfl)
        rw [h0]
        have h6 : vals 6 = Value.int .i64 (max 1 (min X' (x : Int))) := h 6 (by kernel_rfl)
        rw [h6]
        have h12 : vals 12 = Value.int .i64 (max 1 (min Y' (y : Int))) := h 12 (by kernel_rfl)
        rw [h12]
        obtain ⟨⟨k0, k1, k2⟩, ⟨l0, l1, l2⟩, ⟨m5, m6⟩, HNp, HNq⟩ := HQ5.out wq f
        clear h
        go_wp2_with fail
        refine (HCrop2.out wq HNq.out).mono ?_
        intro e w6 hM
        obtain ⟨v6, rfl, p6, f6⟩ := hM.plane
        obtain ⟨_, _, _, rfl, _⟩ := id p6
        have HP6 := hid p6
        clear p6
        go_wp2
        exact ⟨rfl, rfl, _, rfl, f6, HP6.out⟩
      · intro vals wq f h
        simp only [fillA, fillT, List.setIfInBounds_toArray, List.set_cons_succ, List.set_cons_zero, Option.getD_some, Nat.zero_add, Nat.reduceAdd]
        obtain ⟨⟨k0, k1, k2⟩, ⟨l0, l1, l2⟩, ⟨m5, m6⟩, HNp, HNq⟩ := HQ5.out wq f
        clear h
        go_wp2
        exact ⟨rfl, rfl, _, rfl, Fr.refl _ _, rfl⟩
      · intro vals wq f h
        simp only [fillA, fillT, List.setIfInBounds_toArray, List.set_cons_succ, List.set_cons_zero, Option.getD_some, Nat.zero_add, Nat.reduceAdd]
        have h14 : vals 14 = Value.pointer (some ⟨w.heap.size, 0, none⟩) := h 14 (by kernel_rfl)
        rw [h14]
        obtain ⟨⟨k0, k1, k2⟩, ⟨l0, l1, l2⟩, ⟨m5, m6⟩, HNp, HNq⟩ := HQ5.out wq f
        clear h
        go_wp2
        exact ⟨rfl, rfl, _, rfl, Fr.refl _ _, rfl⟩
      · intro vals wq f h
        simp only [fillA, fillT, List.setIfInBounds_toArray, List.set_cons_succ, List.set_cons_zero, Option.getD_some, Nat.zero_add, Nat.reduceAdd]
        obtain ⟨⟨k0, k1, k2⟩, ⟨l0, l1, l2⟩, ⟨m5, m6⟩, HNp, HNq⟩ := HQ5.out wq f
        clear h
        go_wp2
        exact ⟨rfl, rfl, _, rfl, Fr.refl _ _, rfl⟩
      · intro vals wq f h
        simp only [fillA, fillT, List.setIfInBounds_toArray, List.set_cons_succ, List.set_cons_zero, Option.getD_some, Nat.zero_add, Nat.reduceAdd]
        have h16 : vals 16 = Value.pointer (some ⟨w.heap.size, 1, none⟩) := h 16 (by kernel_rfl)
        rw [h16]
        obtain ⟨⟨k0, k1, k2⟩, ⟨l0, l1, l2⟩, ⟨m5, m6⟩, HNp, HNq⟩ := HQ5.out wq f
        clear h
        go_wp2
        exact ⟨rfl, rfl, _, rfl, Fr.refl _ _, rfl⟩
      · intro vals wq f h
        simp only [fillA, fillT, List.setIfInBounds_toArray, List.set_cons_succ, List.set_cons_zero, Option.getD_some, Nat.zero_add, Nat.reduceAdd]
        obtain ⟨a13, cap13, b13, h13, n13, i13⟩ : PlaneAt wq (vals 13) (cX) (cY) (cn) (cV) := h 13 (by kernel_rfl)
        rw [h13]
        have h15 : vals 15 = Value.int .i64 (x : Int) := h 15 (by kernel_rfl)
        rw [h15]
        have h17 : vals 17 = Value.int .i64 (y : Int) := h 17 (by kernel_rfl)
        rw [h17]
        obtain ⟨⟨k0, k1, k2⟩, ⟨l0, l1, l2⟩, ⟨m5, m6⟩, HNp, HNq⟩ := HQ5.out wq f
        clear h
        go_wp2_with fail
        refine (HPad2.out wq _ _ _ n13).mono ?_
        intro e w6 hM
        obtain ⟨v6, rfl, p6, f6⟩ := hM.plane
        obtain ⟨_, _, _, rfl, _⟩ := id p6
        have HP6 := hid p6
        clear p6
        go_wp2
        exact ⟨rfl, rfl, _, rfl, f6, HP6.out⟩
      · intro vals wq f h
        simp only [fillA, fillT, List.setIfInBounds_toArray, List.set_cons_succ, List.set_cons_zero, Option.getD_some, Nat.zero_add, Nat.reduceAdd]
        obtain ⟨⟨k0, k1, k2⟩, ⟨l0, l1, l2⟩, ⟨m5, m6⟩, HNp, HNq⟩ := HQ5.out wq f
        clear h
        have HB := hid (Blk.new wq #[.int .i64 0, .int .i64 0, .slice none 0 0] 24)
        have hle := f.size
        go_wp2
        exact ⟨rfl, rfl, _, rfl, (Fr.refl _ wq).alloc _, _, rfl, HB.out, hle⟩
    case tail =>
      intro vals wq f h
      simp only [List.take_succ_cons, List.take_zero, fillA, fillT, List.setIfInBounds_toArray, List.set_cons_succ, List.set_cons_zero, List.drop_succ_cons, List.drop_zero, Nat.zero_add, Nat.reduceAdd]
      obtain ⟨a18, cap18, b18, h18, n18, i18⟩ : PlaneAt wq (vals 18) (sX) (sY) (sn) (sV) := h 18 (by omega)
      rw [h18]
      obtain ⟨b19, h19, B19, l19⟩ : BoxAt wq (vals 19) (W5.heap.size) #[.int .i64 0, .int .i64 0, .slice none 0 0] 24 := h 19 (by omega)
      rw [h19]
      have z0 : wq.cell? ⟨b19, 0, none⟩ = some (.int .i64 0) := by rw [B19.cell]; rfl
      have z1 : wq.cell? ⟨b19, 1, none⟩ = some (.int .i64 0) := by rw [B19.cell]; rfl
      have z2 : wq.cell? ⟨b19, 2, none⟩ = some (.slice none 0 0) := by rw [B19.cell]; rfl
      have zf := B19.thaw
      have HB := hid B19
      have HN := hid n18
      have HI := hid (fun h => (i18 h).ne B19 (by decide))
      have HFq := hid f
      clear h h18 h19 B19 n18 i18 f
      gi_wp2
      obtain ⟨W6, hW6⟩ : ∃ W, W = ((wq.setCell ⟨b19, 0, none⟩ (.int .i64 sX)).setCell ⟨b19, 1, none⟩ (.int .i64 sY)).setCell ⟨b19, 2, none⟩ (.slice a18 sn cap18) := ⟨_, rfl⟩
      have FW6 : Fr (fun _ => False) W5 W6 := by rw [hW6]; exact (((((Fr.refl _ W5).drew.trans' HFq.out).setNew (p := ⟨b19, 0, none⟩) l19 _).setNew (p := ⟨b19, 1, none⟩) l19 _).setNew (p := ⟨b19, 2, none⟩) l19 _)
      have RW6 : Blk W6 b19 #[.int .i64 sX, .int .i64 sY, .slice a18 sn cap18] 24 := by rw [hW6]; simpa using ((HB.out.set 0 (.int .i64 sX)).set 1 (.int .i64 sY)).set 2 (.slice a18 sn cap18)
      have NW6 : Nums W6 a18 sn cap18 sV b18 := by rw [hW6]; exact HN.out.fr ((((Fr.refl (fun k => k = b19) wq).setCell (p := ⟨b19, 0, none⟩) (fun _ => rfl) _).setCell (p := ⟨b19, 1, none⟩) (fun _ => rfl) _).setCell (p := ⟨b19, 2, none⟩) (fun _ => rfl) _) (fun h => HI.out h)
      rw [← hW6]
      have HW6 := hid hW6
      clear hW6 HB HN HI HFq z0 z1 z2 zf HW6
      have HF6 := hid (HF5.out.trans' FW6)
      have HQ6 : Hid (∀ wq, Fr (fun _ => False) W6.drew wq → ((wq.cell? ⟨w.heap.size, 0, none⟩ = some (.int .i64 (x : Int)) ∧ wq.cell? ⟨w.heap.size, 1, none⟩ = some (.int .i64 (y : Int)) ∧ wq.cell? ⟨w.heap.size, 2, none⟩ = some (.slice a m cap)) ∧ (wq.cell? ⟨w.heap.size + 1, 0, none⟩ = some (.int .i64 X') ∧ wq.cell? ⟨w.heap.size + 1, 1, none⟩ = some (.int .i64 Y') ∧ wq.cell? ⟨w.heap.size + 1, 2, none⟩ = some (.slice a' n' cap')) ∧ (wq.cell? ⟨w.heap.size + 2, 0, none⟩ = some (.int .u8 (m0 : Int)) ∧ wq.cell? ⟨w.heap.size + 2, 1, none⟩ = some (.int .u8 (m1 : Int))) ∧ Hid (Nums wq a m cap V b) ∧ Hid (Nums wq a' n' cap' V' b')) ∧ (wq.cell? ⟨b23, 0, none⟩ = some (.int .i64 (x : Int)) ∧ wq.cell? ⟨b23, 1, none⟩ = some (.int .i64 (y : Int)) ∧ wq.cell? ⟨b23, 2, none⟩ = some (.slice a22 m cap22)) ∧ (wq.cell? ⟨b19, 0, none⟩ = some (.int .i64 sX) ∧ wq.cell? ⟨b19, 1, none⟩ = some (.int .i64 sY) ∧ wq.cell? ⟨b19, 2, none⟩ = some (.slice a18 sn cap18)) ∧ Hid (Nums wq a22 m cap22 V b22) ∧ Hid (Nums wq a18 sn cap18 sV b18)) := by
        intro wq f
        have f' := (Fr.refl _ W6).drew.trans' f
        have S1 := (RW5.fr FW6 (fun h => h)).fr f' (fun h => h)
        have S2 := RW6.fr f' (fun h => h)
        exact ⟨HQ5.out wq (FW6.drewFrom.trans' f'), ⟨by rw [S1.cell]; rfl, by rw [S1.cell]; rfl, by rw [S1.cell]; rfl⟩, ⟨by rw [S2.cell]; rfl, by rw [S2.cell]; rfl, by rw [S2.cell]; rfl⟩, (NW5.quiet FW6).quiet f', NW6.quiet f'⟩
      clear HQ5 HF5 RW5 NW5 RW6 NW6 FW6 HCrop2 HPad2
      go_wp2
      refine weaveS 12 [.eq (Value.agg #[.int .i64 (x : Int), .int .i64 (y : Int), .slice a22 m cap22]), .eq (Value.agg #[.int .i64 (x : Int), .int .i64 (y : Int), .slice a m cap]), .eq (Value.bool true), .eq (Value.bool false), .eq (Value.bool false), .eq (Value.agg #[.int .i64 (x : Int), .int .i64 (y : Int), .slice a m cap]), .plane ((y : Int)) ((x : Int)) (y * x) (turnV x y V), .plane ((x : Int)) ((y : Int)) (m) (V), .eq (Value.agg #[.int .i64 (x : Int), .int .i64 (y : Int), .slice a m cap]), .eq (Value.bool true), .eq (Value.bool false), .eq (Value.bool false)] (by kernel_rfl) (by kernel_rfl) ?obls ?tail
      case obls =>
        simp only [List.take_succ_cons, List.take_zero]
        refine ⟨?_, ?_, ?_, ?_, ?_, ?_, ?_, ?_, ?_, ?_, ?_, ?_, trivial⟩
        · intro vals wq f h
          simp only [fillA, fillT, List.setIfInBounds_toArray, List.set_cons_succ, List.set_cons_zero, Option.getD_some, Nat.zero_add, Nat.reduceAdd]
          obtain ⟨⟨⟨k0, k1, k2⟩, ⟨l0, l1, l2⟩, ⟨m5, m6⟩, HNp, HNq⟩, ⟨p0, p1, p2⟩, ⟨q0, q1, q2⟩, HNr, HNs⟩ := HQ6.out wq f
          clear h
          go_wp2
          exact ⟨rfl, rfl, _, rfl, Fr.refl _ _, rfl⟩
        · intro vals wq f h
          simp only [fillA, fillT, List.setIfInBounds_toArray, List.set_cons_succ, List.set_cons_zero, Option.getD_some, Nat.zero_add, Nat.reduceAdd]
          obtain ⟨⟨⟨k0, k1, k2⟩, ⟨l0, l1, l2⟩, ⟨m5, m6⟩, HNp, HNq⟩, ⟨p0, p1, p2⟩, ⟨q0, q1, q2⟩, HNr, HNs⟩ := HQ6.out wq f
          clear h
          go_wp2
          exact ⟨rfl, rfl, _, rfl, Fr.refl _ _, rfl⟩
        · intro vals wq f h
          simp only [fillA, fillT, List.setIfInBounds_toArray, List.set_cons_succ, List.set_cons_zero, Option.getD_some, Nat.zero_add, Nat.reduceAdd]
          have h0 : vals 0 = Value.agg #[.int .i64 (x : Int), .int .i64 (y : Int), .slice a22 m cap22] := h 0 (by kernel_rfl)
          rw [h0]
          have h1 : vals 1 = Value.agg #[.int .i64 (x : Int), .int .i64 (y : Int), .slice a m cap] := h 1 (by kernel_rfl)
          rw [h1]
          obtain ⟨⟨⟨k0, k1, k2⟩, ⟨l0, l1, l2⟩, ⟨m5, m6⟩, HNp, HNq⟩, ⟨p0, p1, p2⟩, ⟨q0, q1, q2⟩, HNr, HNs⟩ := HQ6.out wq f
          clear h
          go_wp2_with fail
          refine (HSame.out wq _ _ _ HNr.out HNp.out).mono ?_
          rintro e w6 ⟨rfl, f6⟩
          go_wp2
          exact ⟨rfl, rfl, _, rfl, f6, rfl⟩
        · intro vals wq f h
          simp only [fillA, fillT, List.setIfInBounds_toArray, List.set_cons_succ, List.set_cons_zero, Option.getD_some, Nat.zero_add, Nat.reduceAdd]
          have h2 : vals 2 = Value.bool true := h 2 (by kernel_rfl)
          rw [h2]
          obtain ⟨⟨⟨k0, k1, k2⟩, ⟨l0, l1, l2⟩, ⟨m5, m6⟩, HNp, HNq⟩, ⟨p0, p1, p2⟩, ⟨q0, q1, q2⟩, HNr, HNs⟩ := HQ6.out wq f
          clear h
          go_wp2
          exact ⟨rfl, rfl, _, rfl, Fr.refl _ _, rfl⟩
        · intro vals wq f h
          simp only [fillA, fillT, List.setIfInBounds_toArray, List.set_cons_succ, List.set_cons_zero, Option.getD_some, Nat.zero_add, Nat.reduceAdd]
          have h3 : vals 3 = Value.bool false := h 3 (by kernel_rfl)
          rw [h3]
          obtain ⟨⟨⟨k0, k1, k2⟩, ⟨l0, l1, l2⟩, ⟨m5, m6⟩, HNp, HNq⟩, ⟨p0, p1, p2⟩, ⟨q0, q1, q2⟩, HNr, HNs⟩ := HQ6.out wq f
          clear h
          go_wp2
          exact ⟨rfl, rfl, _, rfl, Fr.refl _ _, rfl⟩
        · intro vals wq f h
          simp only [fillA, fillT, List.setIfInBounds_toArray, List.set_cons_succ, List.set_cons_zero, Option.getD_some, Nat.zero_add, Nat.reduceAdd]
          have h4 : vals 4 = Value.bool false := h 4 (by kernel_rfl)
          rw [h4]
          obtain ⟨⟨⟨k0, k1, k2⟩, ⟨l0, l1, l2⟩, ⟨m5, m6⟩, HNp, HNq⟩, ⟨p0, p1, p2⟩, ⟨q0, q1, q2⟩, HNr, HNs⟩ := HQ6.out wq f
          clear h
          go_wp2
          exact ⟨rfl, rfl, _, rfl, Fr.refl _ _, rfl⟩
        · intro vals wq f h
          simp only [fillA, fillT, List.setIfInBounds_toArray, List.set_cons_succ, List.set_cons_zero, Option.getD_some, Nat.zero_add, Nat.reduceAdd]
          have h5 : vals 5 = Value.agg #[.int .i64 (x : Int), .int .i64 (y : Int), .slice a m cap] := h 5 (by kernel_rfl)
          rw [h5]
          have h4 : vals 4 = Value.bool false := h 4 (by kernel_rfl)
          rw [h4]
          obtain ⟨⟨⟨k0, k1, k2⟩, ⟨l0, l1, l2⟩, ⟨m5, m6⟩, HNp, HNq⟩, ⟨p0, p1, p2⟩, ⟨q0, q1, q2⟩, HNr, HNs⟩ := HQ6.out wq f
          clear h
          go_wp2_with fail
          refine (HTurn.out wq HNp.out).mono ?_
          intro e w6 hM
          obtain ⟨v6, rfl, p6, f6⟩ := hM.plane
          obtain ⟨_, _, _, rfl, _⟩ := id p6
          have HP6 := hid p6
          clear p6
          go_wp2
          exact ⟨rfl, rfl, _, rfl, f6, HP6.out⟩
        · intro vals wq f h
          simp only [fillA, fillT, List.setIfInBounds_toArray, List.set_cons_succ, List.set_cons_zero, Option.getD_some, Nat.zero_add, Nat.reduceAdd]
          obtain ⟨a6, cap6, b6, h6, n6, i6⟩ : PlaneAt wq (vals 6) ((y : Int)) ((x : Int)) (y * x) (turnV x y V) := h 6 (by kernel_rfl)
          rw [h6]
          have h4 : vals 4 = Value.bool false := h 4 (by kernel_rfl)
          rw [h4]
          obtain ⟨⟨⟨k0, k1, k2⟩, ⟨l0, l1, l2⟩, ⟨m5, m6⟩, HNp, HNq⟩, ⟨p0, p1, p2⟩, ⟨q0, q1, q2⟩, HNr, HNs⟩ := HQ6.out wq f
          clear h
          go_wp2_with fail
          refine (HTurn2.out wq _ _ _ n6).mono ?_
          intro e w6 hM
          obtain ⟨v6, rfl, p6, f6⟩ := hM.plane
          obtain ⟨_, _, _, rfl, _⟩ := id p6
          have HP6 := hid p6
          clear p6
          go_wp2
          exact ⟨rfl, rfl, _, rfl, f6, HP6.out⟩
        · intro vals wq f h
          simp only [fillA, fillT, List.setIfInBounds_toArray, List.set_cons_succ, List.set_cons_zero, Option.getD_some, Nat.zero_add, Nat.reduceAdd]
          have h4 : vals 4 = Value.bool false := h 4 (by kernel_rfl)
          rw [h4]
          obtain ⟨⟨⟨k0, k1, k2⟩, ⟨l0, l1, l2⟩, ⟨m5, m6⟩, HNp, HNq⟩, ⟨p0, p1, p2⟩, ⟨q0, q1, q2⟩, HNr, HNs⟩ := HQ6.out wq f
          clear h
          go_wp2
          exact ⟨rfl, rfl, _, rfl, Fr.refl _ _, rfl⟩
        · intro vals wq f h
          simp only [fillA, fillT, List.setIfInBounds_toArray, List.set_cons_succ, List.set_cons_zero, Option.getD_some, Nat.zero_add, Nat.reduceAdd]
          obtain ⟨a7, cap7, b7, h7, n7, i7⟩ : PlaneAt wq (vals 7) ((x : Int)) ((y : Int)) (m) (V) := h 7 (by kernel_rfl)
          rw [h7]
          have h8 : vals 8 = Value.agg #[.int .i64 (x : Int), .int .i64 (y : Int), .slice a m cap] := h 8 (by kernel_rfl)
          rw [h8]
          have h4 : vals 4 = Value.bool false := h 4 (by kernel_rfl)
          rw [h4]
          obtain ⟨⟨⟨k0, k1, k2⟩, ⟨l0, l1, l2⟩, ⟨m5, m6⟩, HNp, HNq⟩, ⟨p0, p1, p2⟩, ⟨q0, q1, q2⟩, HNr, HNs⟩ := HQ6.out wq f
          clear h
          go_wp2_with fail
          refine (HSame.out wq _ _ _ n7 HNp.out).mono ?_
          rintro e w6 ⟨rfl, f6⟩
          go_wp2
          exact ⟨rfl, rfl, _, rfl, f6, rfl⟩
        · intro vals wq f h
          simp only [fillA, fillT, List.setIfInBounds_toArray, List.set_cons_succ, List.set_cons_zero, Option.getD_some, Nat.zero_add, Nat.reduceAdd]
          have h9 : vals 9 = Value.bool true := h 9 (by kernel_rfl)
          rw [h9]
          have h4 : vals 4 = Value.bool false := h 4 (by kernel_rfl)
          rw [h4]
          obtain ⟨⟨⟨k0, k1, k2⟩, ⟨l0, l1, l2⟩, ⟨m5, m6⟩, HNp, HNq⟩, ⟨p0, p1, p2⟩, ⟨q0, q1, q2⟩, HNr, HNs⟩ := HQ6.out wq f
          clear h
          go_wp2
          exact ⟨rfl, rfl, _, rfl, Fr.refl _ _, rfl⟩
        · intro vals wq f h
          simp only [fillA, fillT, List.setIfInBounds_toArray, List.set_cons_succ, List.set_cons_zero, Option.getD_some, Nat.zero_add, Nat.reduceAdd]
          have h4 : vals 4 = Value.bool false := h 4 (by kernel_rfl)
          rw [h4]
          have h10 : vals 10 = Value.bool false := h 10 (by kernel_rfl)
          rw [h10]
          obtain ⟨⟨⟨k0, k1, k2⟩, ⟨l0, l1, l2⟩, ⟨m5, m6⟩, HNp, HNq⟩, ⟨p0, p1, p2⟩, ⟨q0, q1, q2⟩, HNr, HNs⟩ := HQ6.out wq f
          clear h
          go_wp2
          exact ⟨rfl, rfl, _, rfl, Fr.refl _ _, rfl⟩
      case tail =>
        intro vals wq f h
        simp only [List.take_succ_cons, List.take_zero, fillA, fillT, List.setIfInBounds_toArray, List.set_cons_succ, List.set_cons_zero, List.drop_succ_cons, List.drop_nil, Nat.zero_add, Nat.reduceAdd]
        have h11 : vals 11 = Value.bool false := h 11 (by omega)
        rw [h11]
        have HFq := hid f
        clear h h11 f
        gi_wp2
        obtain ⟨W7, hW7⟩ : ∃ W7, W7 = wq := ⟨_, rfl⟩
        rw [← hW7]
        have HF7 := hid (HF6.out.trans' ((Fr.refl _ W6).drew.trans' HFq.out))
        rw [← hW7] at HF7 HFq
        have HQ7 := hid (fun wq (f : Fr (fun _ => False) W7.drew wq) => HQ6.out wq (HFq.out.trans' ((Fr.refl _ W7).drew.trans' f)))
        clear hW7 HFq
        go_wp2
        have HRq := hid (fun w1 => pright_any X' Y' a' n' cap' w1)
        cases hq : rightP X' Y' n' with
        | false =>
          rw [hq] at HRq
          refine weaveS 13 [.eq (Value.agg #[.int .i64 X', .int .i64 Y', .slice a' n' cap']), .eq (Value.bool false), .eq (Value.bool true), .eq (Value.bool true), .eq (undef), .eq (undef), .eq (undef), .eq (undef), .eq (undef), .eq (undef), .eq (undef), .eq (Value.bool true), .eq (Value.bool true)] (by kernel_rfl) (by kernel_rfl) ?obls ?tail
          case obls =>
            simp only [List.take_succ_cons, List.take_zero]
            refine ⟨?_, ?_, ?_, ?_, ?_, ?_, ?_, ?_, ?_, ?_, ?_, ?_, ?_, trivial⟩
            · intro vals wq f h
              simp only [fillA, fillT, List.setIfInBounds_toArray, List.set_cons_succ, List.set_cons_zero, Option.getD_some, Nat.zero_add, Nat.reduceAdd]
              obtain ⟨⟨⟨k0, k1, k2⟩, ⟨l0, l1, l2⟩, ⟨m5, m6⟩, HNp, HNq⟩, ⟨p0, p1, p2⟩, ⟨q0, q1, q2⟩, HNr, HNs⟩ := HQ7.out wq f
              clear h
              go_wp2
              exact ⟨rfl, rfl, _, rfl, Fr.refl _ _, rfl⟩
            · intro vals wq f h
              simp only [fillA, fillT, List.setIfInBounds_toArray, List.set_cons_succ, List.set_cons_zero, Option.getD_some, Nat.zero_add, Nat.reduceAdd]
              have h0 : vals 0 = Value.agg #[.int .i64 X', .int .i64 Y', .slice a' n' cap'] := h 0 (by kernel_rfl)
              rw [h0]
              obtain ⟨⟨⟨k0, k1, k2⟩, ⟨l0, l1, l2⟩, ⟨m5, m6⟩, HNp, HNq⟩, ⟨p0, p1, p2⟩, ⟨q0, q1, q2⟩, HNr, HNs⟩ := HQ7.out wq f
              clear h
              go_wp2_with fail
              refine (HRq.out wq).mono ?_
              rintro e w6 ⟨rfl, f6⟩
              go_wp2
              exact ⟨rfl, rfl, _, rfl, f6, rfl⟩
            · intro vals wq f h
              simp only [fillA, fillT, List.setIfInBounds_toArray, List.set_cons_succ, List.set_cons_zero, Option.getD_some, Nat.zero_add, Nat.reduceAdd]
              have h1 : vals 1 = Value.bool false := h 1 (by kernel_rfl)
              rw [h1]
              obtain ⟨⟨⟨k0, k1, k2⟩, ⟨l0, l1, l2⟩, ⟨m5, m6⟩, HNp, HNq⟩, ⟨p0, p1, p2⟩, ⟨q0, q1, q2⟩, HNr, HNs⟩ := HQ7.out wq f
              clear h
              go_wp2
              exact ⟨rfl, rfl, _, rfl, Fr.refl _ _, rfl⟩
            · intro vals wq f h
              simp only [fillA, fillT, List.setIfInBounds_toArray, List.set_cons_succ, List.set_cons_zero, Option.getD_some, Nat.zero_add, Nat.reduceAdd]
              have h2 : vals 2 = Value.bool true := h 2 (by kernel_rfl)
              rw [h2]
              obtain ⟨⟨⟨k0, k1, k2⟩, ⟨l0, l1, l2⟩, ⟨m5, m6⟩, HNp, HNq⟩, ⟨p0, p1, p2⟩, ⟨q0, q1, q2⟩, HNr, HNs⟩ := HQ7.out wq f
              clear h
              go_wp2
              exact ⟨rfl, rfl, _, rfl, Fr.refl _ _, rfl⟩
            · intro vals wq f h
              simp only [fillA, fillT, List.setIfInBounds_toArray, List.set_cons_succ, List.set_cons_zero, Option.getD_some, Nat.zero_add, Nat.reduceAdd]
              have h3 : vals 3 = Value.bool true := h 3 (by kernel_rfl)
              rw [h3]
              obtain ⟨⟨⟨k0, k1, k2⟩, ⟨l0, l1, l2⟩, ⟨m5, m6⟩, HNp, HNq⟩, ⟨p0, p1, p2⟩, ⟨q0, q1, q2⟩, HNr, HNs⟩ := HQ7.out wq f
              clear h
              go_wp2
              exact ⟨rfl, rfl, _, rfl, Fr.refl _ _, rfl⟩
            · intro vals wq f h
              simp only [fillA, fillT, List.setIfInBounds_toArray, List.set_cons_succ, List.set_cons_zero, Option.getD_some, Nat.zero_add, Nat.reduceAdd]
              have h3 : vals 3 = Value.bool true := h 3 (by kernel_rfl)
              rw [h3]
              obtain ⟨⟨⟨k0, k1, k2⟩, ⟨l0, l1, l2⟩, ⟨m5, m6⟩, HNp, HNq⟩, ⟨p0, p1, p2⟩, ⟨q0, q1, q2⟩, HNr, HNs⟩ := HQ7.out wq f
              clear h
              go_wp2
              exact ⟨rfl, rfl, _, rfl, Fr.refl _ _, rfl⟩
            · intro vals wq f h
              simp only [fillA, fillT, List.setIfInBounds_toArray, List.set_cons_succ, List.set_cons_zero, Option.getD_some, Nat.zero_add, Nat.reduceAdd]
              have h4 : vals 4 = undef := h 4 (by kernel_rfl)
              rw [h4]
              have h5 : vals 5 = undef := h 5 (by kernel_rfl)
              rw [h5]
              have h3 : vals 3 = Value.bool true := h 3 (by kernel_rfl)
              rw [h3]
              obtain ⟨⟨⟨k0, k1, k2⟩, ⟨l0, l1, l2⟩, ⟨m5, m6⟩, HNp, HNq⟩, ⟨p0, p1, p2⟩, ⟨q0, q1, q2⟩, HNr, HNs⟩ := HQ7.out wq f
              clear h
              go_wp2
              exact ⟨rfl, rfl, _, rfl, Fr.refl _ _, rfl⟩
            · intro vals wq f h
              simp only [fillA, fillT, List.setIfInBounds_toArray, List.set_cons_succ, List.set_cons_zero, Option.getD_some, Nat.zero_add, Nat.reduceAdd]
              have h3 : vals 3 = Value.bool true := h 3 (by kernel_rfl)
              rw [h3]
              obtain ⟨⟨⟨k0, k1, k2⟩, ⟨l0, l1, l2⟩, ⟨m5, m6⟩, HNp, HNq⟩, ⟨p0, p1, p2⟩, ⟨q0, q1, q2⟩, HNr, HNs⟩ := HQ7.out wq f
              clear h
              go_wp2
              exact ⟨rfl, rfl, _, rfl, Fr.refl _ _, rfl⟩
            · intro vals wq f h
              simp only [fillA, fillT, List.setIfInBounds_toArray, List.set_cons_succ, List.set_cons_zero, Option.getD_some, Nat.zero_add, Nat.reduceAdd]
              have h6 : vals 6 = undef := h 6 (by kernel_rfl)
              rw [h6]
              have h7 : vals 7 = undef := h 7 (by kernel_rfl)
              rw [h7]
              have h3 : vals 3 = Value.bool true := h 3 (by kernel_rfl)
              rw [h3]
              obtain ⟨⟨⟨k0, k1, k2⟩, ⟨l0, l1, l2⟩, ⟨m5, m6⟩, HNp, HNq⟩, ⟨p0, p1, p2⟩, ⟨q0, q1, q2⟩, HNr, HNs⟩ := HQ7.out wq f
              clear h
              go_wp2
              exact ⟨rfl, rfl, _, rfl, Fr.refl _ _, rfl⟩
            · intro vals wq f h
              simp only [fillA, fillT, List.setIfInBounds_toArray, List.set_cons_succ, List.set_cons_zero, Option.getD_some, Nat.zero_add, Nat.reduceAdd]
              have h3 : vals 3 = Value.bool true := h 3 (by kernel_rfl)
              rw [h3]
              obtain ⟨⟨⟨k0, k1, k2⟩, ⟨l0, l1, l2⟩, ⟨m5, m6⟩, HNp, HNq⟩, ⟨p0, p1, p2⟩, ⟨q0, q1, q2⟩, HNr, HNs⟩ := HQ7.out wq f
              clear h
              go_wp2
              exact ⟨rfl, rfl, _, rfl, Fr.refl _ _, rfl⟩
            · intro vals wq f h
              simp only [fillA, fillT, List.setIfInBounds_toArray, List.set_cons_succ, List.set_cons_zero, Option.getD_some, Nat.zero_add, Nat.reduceAdd]
              have h8 : vals 8 = undef := h 8 (by kernel_rfl)
              rw [h8]
              have h9 : vals 9 = undef := h 9 (by kernel_rfl)
              rw [h9]
              have h3 : vals 3 = Value.bool true := h 3 (by kernel_rfl)
              rw [h3]
              obtain ⟨⟨⟨k0, k1, k2⟩, ⟨l0, l1, l2⟩, ⟨m5, m6⟩, HNp, HNq⟩, ⟨p0, p1, p2⟩, ⟨q0, q1, q2⟩, HNr, HNs⟩ := HQ7.out wq f
              clear h
              go_wp2
              exact ⟨rfl, rfl, _, rfl, Fr.refl _ _, rfl⟩
            · intro vals wq f h
              simp only [fillA, fillT, List.setIfInBounds_toArray, List.set_cons_succ, List.set_cons_zero, Option.getD_some, Nat.zero_add, Nat.reduceAdd]
              have h3 : vals 3 = Value.bool true := h 3 (by kernel_rfl)
              rw [h3]
              have h10 : vals 10 = undef := h 10 (by kernel_rfl)
              rw [h10]
              obtain ⟨⟨⟨k0, k1, k2⟩, ⟨l0, l1, l2⟩, ⟨m5, m6⟩, HNp, HNq⟩, ⟨p0, p1, p2⟩, ⟨q0, q1, q2⟩, HNr, HNs⟩ := HQ7.out wq f
              clear h
              go_wp2
              exact ⟨rfl, rfl, _, rfl, Fr.refl _ _, rfl⟩
            · intro vals wq f h
              simp only [fillA, fillT, List.setIfInBounds_toArray, List.set_cons_succ, List.set_cons_zero, Option.getD_some, Nat.zero_add, Nat.reduceAdd]
              have h11 : vals 11 = Value.bool true := h 11 (by kernel_rfl)
              rw [h11]
              obtain ⟨⟨⟨k0, k1, k2⟩, ⟨l0, l1, l2⟩, ⟨m5, m6⟩, HNp, HNq⟩, ⟨p0, p1, p2⟩, ⟨q0, q1, q2⟩, HNr, HNs⟩ := HQ7.out wq f
              clear h
              go_wp2
              exact ⟨rfl, rfl, _, rfl, Fr.refl _ _, rfl⟩
          case tail =>
            intro vals wq f h
            simp only [List.take_succ_cons, List.take_zero, fillA, fillT, List.setIfInBounds_toArray, List.set_cons_succ, List.set_cons_zero, List.drop_succ_cons, List.drop_nil, Nat.zero_add, Nat.reduceAdd]
            have h12 : vals 12 = Value.bool true := h 12 (by omega)
            rw [h12]
            clear h h12
            gi_wp2
            go_wp2
            go_ret
            exact ⟨rfl, HF7.out.trans' ((Fr.refl _ W7).drew.trans' f)⟩
        | true =>
          rw [hq] at HRq
          obtain ⟨eX, eY, en⟩ := HS.out hq
          subst eX
          subst eY
          have en2 := en.symm
          subst en2
          have HAdd : Hid (∀ w1, Nums w1 a m cap V b → Nums w1 a18 m cap18 sV b18 → Calls Try.prog 9 #[.agg #[.int .i64 (x : Int), .int .i64 (y : Int), .slice a m cap], .agg #[.int .i64 (x : Int), .int .i64 (y : Int), .slice a18 m cap18]] w1 fun e w' => Made w1 w' e x y m (fun j => wrap64 (V j + sV j))) := by
            intro w1 h h'; obtain rfl := HM.out; exact padd_go x y a cap V b a18 cap18 sV b18 w1 hx hx' hy hy' h h'
          have HSub : Hid (∀ w1 a1 cap1 b1, Nums w1 a1 m cap1 (fun j => wrap64 (V j + sV j)) b1 → Nums w1 a18 m cap18 sV b18 → Calls Try.prog 11 #[.agg #[.int .i64 (x : Int), .int .i64 (y : Int), .slice a1 m cap1], .agg #[.int .i64 (x : Int), .int .i64 (y : Int), .slice a18 m cap18]] w1 fun e w' => Made w1 w' e x y m V) := by
            intro w1 a1 cap1 b1 h h'; obtain rfl := HM.out; exact (psub_go x y a1 cap1 _ b1 a18 cap18 sV b18 w1 hx hx' hy hy' h h').mono (fun e w' hM => hM.congr (fun j hj => by have := HV.out j hj; unfold wrap64; omega))
          refine weaveS 13 [.eq (Value.agg #[.int .i64 X', .int .i64 Y', .slice a' n' cap']), .eq (Value.bool true), .eq (Value.bool false), .eq (Value.bool false), .eq (Value.agg #[.int .i64 (x : Int), .int .i64 (y : Int), .slice a m cap]), .eq (Value.agg #[.int .i64 (x : Int), .int .i64 (y : Int), .slice a18 m cap18]), .plane ((x : Int)) ((y : Int)) (m) (fun j => wrap64 (V j + sV j)), .eq (Value.agg #[.int .i64 (x : Int), .int .i64 (y : Int), .slice a18 m cap18]), .plane ((x : Int)) ((y : Int)) (m) (V), .eq (Value.agg #[.int .i64 (x : Int), .int .i64 (y : Int), .slice a m cap]), .eq (Value.bool true), .eq (Value.bool true), .eq (Value.bool true)] (by kernel_rfl) (by kernel_rfl) ?obls ?tail
          case obls =>
            simp only [List.take_succ_cons, List.take_zero]
            refine ⟨?_, ?_, ?_, ?_, ?_, ?_, ?_, ?_, ?_, ?_, ?_, ?_, ?_, trivial⟩
            · intro vals wq f h
              simp only [fillA, fillT, List.setIfInBounds_toArray, List.set_cons_succ, List.set_cons_zero, Option.getD_some, Nat.zero_add, Nat.reduceAdd]
              obtain ⟨⟨⟨k0, k1, k2⟩, ⟨l0, l1, l2⟩, ⟨m5, m6⟩, HNp, HNq⟩, ⟨p0, p1, p2⟩, ⟨q0, q1, q2⟩, HNr, HNs⟩ := HQ7.out wq f
              clear h
              go_wp2
              exact ⟨rfl, rfl, _, rfl, Fr.refl _ _, rfl⟩
            · intro vals wq f h
              simp only [fillA, fillT, List.setIfInBounds_toArray, List.set_cons_succ, List.set_cons_zero, Option.getD_some, Nat.zero_add, Nat.reduceAdd]
              have h0 : vals 0 = Value.agg #[.int .i64 X', .int .i64 Y', .slice a' n' cap'] := h 0 (by kernel_rfl)
              rw [h0]
              obtain ⟨⟨⟨k0, k1, k2⟩, ⟨l0, l1, l2⟩, ⟨m5, m6⟩, HNp, HNq⟩, ⟨p0, p1, p2⟩, ⟨q0, q1, q2⟩, HNr, HNs⟩ := HQ7.out wq f
              clear h
              go_wp2_with fail
              refine (HRq.out wq).mono ?_
              rintro e w6 ⟨rfl, f6⟩
              go_wp2
              exact ⟨rfl, rfl, _, rfl, f6, rfl⟩
            · intro vals wq f h
              simp only [fillA, fillT, List.setIfInBounds_toArray, List.set_cons_succ, List.set_cons_zero, Option.getD_some, Nat.zero_add, Nat.reduceAdd]
              have h1 : vals 1 = Value.bool true := h 1 (by kernel_rfl)
              rw [h1]
              obtain ⟨⟨⟨k0, k1, k2⟩, ⟨l0, l1, l2⟩, ⟨m5, m6⟩, HNp, HNq⟩, ⟨p0, p1, p2⟩, ⟨q0, q1, q2⟩, HNr, HNs⟩ := HQ7.out wq f
              clear h
              go_wp2
              exact ⟨rfl, rfl, _, rfl, Fr.refl _ _, rfl⟩
            · intro vals wq f h
              simp only [fillA, fillT, List.setIfInBounds_toArray, List.set_cons_succ, List.set_cons_zero, Option.getD_some, Nat.zero_add, Nat.reduceAdd]
              have h2 : vals 2 = Value.bool false := h 2 (by kernel_rfl)
              rw [h2]
              obtain ⟨⟨⟨k0, k1, k2⟩, ⟨l0, l1, l2⟩, ⟨m5, m6⟩, HNp, HNq⟩, ⟨p0, p1, p2⟩, ⟨q0, q1, q2⟩, HNr, HNs⟩ := HQ7.out wq f
              clear h
              go_wp2
              exact ⟨rfl, rfl, _, rfl, Fr.refl _ _, rfl⟩
            · intro vals wq f h
              simp only [fillA, fillT, List.setIfInBounds_toArray, List.set_cons_succ, List.set_cons_zero, Option.getD_some, Nat.zero_add, Nat.reduceAdd]
              have h3 : vals 3 = Value.bool false := h 3 (by kernel_rfl)
              rw [h3]
              obtain ⟨⟨⟨k0, k1, k2⟩, ⟨l0, l1, l2⟩, ⟨m5, m6⟩, HNp, HNq⟩, ⟨p0, p1, p2⟩, ⟨q0, q1, q2⟩, HNr, HNs⟩ := HQ7.out wq f
              clear h
              go_wp2
              exact ⟨rfl, rfl, _, rfl, Fr.refl _ _, rfl⟩
            · intro vals wq f h
              simp only [fillA, fillT, List.setIfInBounds_toArray, List.set_cons_succ, List.set_cons_zero, Option.getD_some, Nat.zero_add, Nat.reduceAdd]
              have h3 : vals 3 = Value.bool false := h 3 (by kernel_rfl)
              rw [h3]
              obtain ⟨⟨⟨k0, k1, k2⟩, ⟨l0, l1, l2⟩, ⟨m5, m6⟩, HNp, HNq⟩, ⟨p0, p1, p2⟩, ⟨q0, q1, q2⟩, HNr, HNs⟩ := HQ7.out wq f
              clear h
              go_wp2
              exact ⟨rfl, rfl, _, rfl, Fr.refl _ _, rfl⟩
            · intro vals wq f h
              simp only [fillA, fillT, List.setIfInBounds_toArray, List.set_cons_succ, List.set_cons_zero, Option.getD_some, Nat.zero_add, Nat.reduceAdd]
              have h4 : vals 4 = Value.agg #[.int .i64 (x : Int), .int .i64 (y : Int), .slice a m cap] := h 4 (by kernel_rfl)
              rw [h4]
              have h5 : vals 5 = Value.agg #[.int .i64 (x : Int), .int .i64 (y : Int), .slice a18 m cap18] := h 5 (by kernel_rfl)
              rw [h5]
              have h3 : vals 3 = Value.bool false := h 3 (by kernel_rfl)
              rw [h3]
              obtain ⟨⟨⟨k0, k1, k2⟩, ⟨l0, l1, l2⟩, ⟨m5, m6⟩, HNp, HNq⟩, ⟨p0, p1, p2⟩, ⟨q0, q1, q2⟩, HNr, HNs⟩ := HQ7.out wq f
              clear h
              go_wp2_with fail
              refine (HAdd.out wq HNp.out HNs.out).mono ?_
              intro e w6 hM
              obtain ⟨v6, rfl, p6, f6⟩ := hM.plane
              obtain ⟨_, _, _, rfl, _⟩ := id p6
              have HP6 := hid p6
              clear p6
              go_wp2
              exact ⟨rfl, rfl, _, rfl, f6, HP6.out⟩
            · intro vals wq f h
              simp only [fillA, fillT, List.setIfInBounds_toArray, List.set_cons_succ, List.set_cons_zero, Option.getD_some, Nat.zero_add, Nat.reduceAdd]
              have h3 : vals 3 = Value.bool false := h 3 (by kernel_rfl)
              rw [h3]
              obtain ⟨⟨⟨k0, k1, k2⟩, ⟨l0, l1, l2⟩, ⟨m5, m6⟩, HNp, HNq⟩, ⟨p0, p1, p2⟩, ⟨q0, q1, q2⟩, HNr, HNs⟩ := HQ7.out wq f
              clear h
              go_wp2
              exact ⟨rfl, rfl, _, rfl, Fr.refl _ _, rfl⟩
            · intro vals wq f h
              simp only [fillA, fillT, List.setIfInBounds_toArray, List.set_cons_succ, List.set_cons_zero, Option.getD_some, Nat.zero_add, Nat.reduceAdd]
              obtain ⟨a6, cap6, b6, h6, n6, i6⟩ : PlaneAt wq (vals 6) ((x : Int)) ((y : Int)) (m) (fun j => wrap64 (V j + sV j)) := h 6 (by kernel_rfl)
              rw [h6]
              have h7 : vals 7 = Value.agg #[.int .i64 (x : Int), .int .i64 (y : Int), .slice a18 m cap18] := h 7 (by kernel_rfl)
              rw [h7]
              have h3 : vals 3 = Value.bool false := h 3 (by kernel_rfl)
              rw [h3]
              obtain ⟨⟨⟨k0, k1, k2⟩, ⟨l0, l1, l2⟩, ⟨m5, m6⟩, HNp, HNq⟩, ⟨p0, p1, p2⟩, ⟨q0, q1, q2⟩, HNr, HNs⟩ := HQ7.out wq f
              clear h
              go_wp2_with fail
              refine (HSub.out wq _ _ _ n6 HNs.out).mono ?_
              intro e w6 hM
              obtain ⟨v6, rfl, p6, f6⟩ := hM.plane
              obtain ⟨_, _, _, rfl, _⟩ := id p6
              have HP6 := hid p6
              clear p6
              go_wp2
              exact ⟨rfl, rfl, _, rfl, f6, HP6.out⟩
            · intro vals wq f h
              simp only [fillA, fillT, List.setIfInBounds_toArray, List.set_cons_succ, List.set_cons_zero, Option.getD_some, Nat.zero_add, Nat.reduceAdd]
              have h3 : vals 3 = Value.bool false := h 3 (by kernel_rfl)
              rw [h3]
              obtain ⟨⟨⟨k0, k1, k2⟩, ⟨l0, l1, l2⟩, ⟨m5, m6⟩, HNp, HNq⟩, ⟨p0, p1, p2⟩, ⟨q0, q1, q2⟩, HNr, HNs⟩ := HQ7.out wq f
              clear h
              go_wp2
              exact ⟨rfl, rfl, _, rfl, Fr.refl _ _, rfl⟩
            · intro vals wq f h
              simp only [fillA, fillT, List.setIfInBounds_toArray, List.set_cons_succ, List.set_cons_zero, Option.getD_some, Nat.zero_add, Nat.reduceAdd]
              obtain ⟨a8, cap8, b8, h8, n8, i8⟩ : PlaneAt wq (vals 8) ((x : Int)) ((y : Int)) (m) (V) := h 8 (by kernel_rfl)
              rw [h8]
              have h9 : vals 9 = Value.agg #[.int .i64 (x : Int), .int .i64 (y : Int), .slice a m cap] := h 9 (by kernel_rfl)
              rw [h9]
              have h3 : vals 3 = Value.bool false := h 3 (by kernel_rfl)
              rw [h3]
              obtain ⟨⟨⟨k0, k1, k2⟩, ⟨l0, l1, l2⟩, ⟨m5, m6⟩, HNp, HNq⟩, ⟨p0, p1, p2⟩, ⟨q0, q1, q2⟩, HNr, HNs⟩ := HQ7.out wq f
              clear h
              go_wp2_with fail
              refine (HSame.out wq _ _ _ n8 HNp.out).mono ?_
              rintro e w6 ⟨rfl, f6⟩
              go_wp2
              exact ⟨rfl, rfl, _, rfl, f6, rfl⟩
            · intro vals wq f h
              simp only [fillA, fillT, List.setIfInBounds_toArray, List.set_cons_succ, List.set_cons_zero, Option.getD_some, Nat.zero_add, Nat.reduceAdd]
              have h3 : vals 3 = Value.bool false := h 3 (by kernel_rfl)
              rw [h3]
              have h10 : vals 10 = Value.bool true := h 10 (by kernel_rfl)
              rw [h10]
              obtain ⟨⟨⟨k0, k1, k2⟩, ⟨l0, l1, l2⟩, ⟨m5, m6⟩, HNp, HNq⟩, ⟨p0, p1, p2⟩, ⟨q0, q1, q2⟩, HNr, HNs⟩ := HQ7.out wq f
              clear h
              go_wp2
              exact ⟨rfl, rfl, _, rfl, Fr.refl _ _, rfl⟩
            · intro vals wq f h
              simp only [fillA, fillT, List.setIfInBounds_toArray, List.set_cons_succ, List.set_cons_zero, Option.getD_some, Nat.zero_add, Nat.reduceAdd]
              have h11 : vals 11 = Value.bool true := h 11 (by kernel_rfl)
              rw [h11]
              obtain ⟨⟨⟨k0, k1, k2⟩, ⟨l0, l1, l2⟩, ⟨m5, m6⟩, HNp, HNq⟩, ⟨p0, p1, p2⟩, ⟨q0, q1, q2⟩, HNr, HNs⟩ := HQ7.out wq f
              clear h
              go_wp2
              exact ⟨rfl, rfl, _, rfl, Fr.refl _ _, rfl⟩
          case tail =>
            intro vals wq f h
            simp only [List.take_succ_cons, List.take_zero, fillA, fillT, List.setIfInBounds_toArray, List.set_cons_succ, List.set_cons_zero, List.drop_succ_cons, List.drop_nil, Nat.zero_add, Nat.reduceAdd]
            have h12 : vals 12 = Value.bool true := h 12 (by omega)
            rw [h12]
            clear h h12
            gi_wp2
            go_wp2
            go_ret
            exact ⟨rfl, HF7.out.trans' ((Fr.refl _ W7).drew.trans' f)⟩

set_option maxRecDepth 100000 in
set_option maxHeartbeats 2000000 in
theorem back7_any (X Y : Int) (a : Option Addr) (n cap : Nat) (V : Nat → Int) (b : Nat) (X' Y' : Int) (a' : Option Addr) (n' cap' : Nat) (V' : Nat → Int) (b' : Nat) (m0 m1 : Nat) (w : World) (hn : Nums w a n cap V b) (hn' : Nums w a' n' cap' V' b') (hV : ∀ j, j < n → -9223372036854775808 ≤ V j ∧ V j ≤ 9223372036854775807) (h0 : m0 < 256) (h1 : m1 < 256) :
    Calls Try.prog 5 #[.agg #[.int .i64 X, .int .i64 Y, .slice a n cap], .agg #[.int .i64 X', .int .i64 Y', .slice a' n' cap'], .agg #[.int .u8 (m0 : Int), .int .u8 (m1 : Int)]] w fun e w' => e = .returned (.bool true) ∧ Fr (fun _ => False) w w' := by
  by_cases hb1 : 2000 < n
  rotate_left
  by_cases hb2 : 2000 < n'
  rotate_left
  cases hR : rightP X Y n with
  | true =>
    obtain ⟨x, y, rfl, rfl, g1, g2, g3, g4, hm⟩ := rightP_nat hR
    exact back7_main x y a n cap V b X' Y' a' n' cap' V' b' m0 m1 w g1 g2 g3 g4 hm.symm hn hn' hV h0 h1 hb1 hb2
  | false =>
    obtain ⟨W, hW⟩ : ∃ W, W = ((w.alloc (.cells #[.int .i64 X, .int .i64 Y, .slice a n cap] 24)).alloc (.cells #[.int .i64 X', .int .i64 Y', .slice a' n' cap'] 24)).alloc (.cells #[.int .u8 (m0 : Int), .int .u8 (m1 : Int)] 42) := ⟨_, rfl⟩
    have F0 : Fr (fun _ => False) w W := by rw [hW]; exact (((Fr.refl _ w).alloc _).alloc _).alloc _
    have O0 : Blk W w.heap.size #[.int .i64 X, .int .i64 Y, .slice a n cap] 24 := by rw [hW]; exact ((Blk.new _ _ _).alloc _).alloc _
    have O1 : Blk W (w.heap.size + 1) #[.int .i64 X', .int .i64 Y', .slice a' n' cap'] 24 := by
      rw [hW]
      have := Blk.new (w.alloc (.cells #[.int .i64 X, .int .i64 Y, .slice a n cap] 24)) #[.int .i64 X', .int .i64 Y', .slice a' n' cap'] 24
      simp at this
      exact this.alloc _
    have O2 : Blk W (w.heap.size + 2) #[.int .u8 (m0 : Int), .int .u8 (m1 : Int)] 42 := by
      rw [hW]
      have := Blk.new ((w.alloc (.cells #[.int .i64 X, .int .i64 Y, .slice a n cap] 24)).alloc (.cells #[.int .i64 X', .int .i64 Y', .slice a' n' cap'] 24)) #[.int .u8 (m0 : Int), .int .u8 (m1 : Int)] 42
      simpa using this
    have HW := hid hW
    clear hW
    have HC : Hid (∀ wq, Fr (fun _ => False) W wq → (wq.cell? ⟨w.heap.size, 0, none⟩ = some (.int .i64 X) ∧ wq.cell? ⟨w.heap.size, 1, none⟩ = some (.int .i64 Y) ∧ wq.cell? ⟨w.heap.size, 2, none⟩ = some (.slice a n cap)) ∧ (wq.cell? ⟨w.heap.size + 1, 0, none⟩ = some (.int .i64 X') ∧ wq.cell? ⟨w.heap.size + 1, 1, none⟩ = some (.int .i64 Y') ∧ wq.cell? ⟨w.heap.size + 1, 2, none⟩ = some (.slice a' n' cap')) ∧ (wq.cell? ⟨w.heap.size + 2, 0, none⟩ = some (.int .u8 (m0 : Int)) ∧ wq.cell? ⟨w.heap.size + 2, 1, none⟩ = some (.int .u8 (m1 : Int))) ∧ Hid (Nums wq a n cap V b) ∧ Hid (Nums wq a' n' cap' V' b')) := by
      intro wq f
      have S0 := O0.fr f (fun h => h)
      have S1 := O1.fr f (fun h => h)
      have S2 := O2.fr f (fun h => h)
      exact ⟨⟨by rw [S0.cell]; rfl, by rw [S0.cell]; rfl, by rw [S0.cell]; rfl⟩, ⟨by rw [S1.cell]; rfl, by rw [S1.cell]; rfl, by rw [S1.cell]; rfl⟩, ⟨by rw [S2.cell]; rfl, by rw [S2.cell]; rfl⟩, hn.quiet (F0.trans' f), hn'.quiet (F0.trans' f)⟩
    clear O0 O1 O2 hn hn'
    clear hV
    go_enter Try.func5, Try.ntmps5
    have HB1 := hid hb1
    clear hb1
    go_wp2_with fail
    rw [← HW.out]
    refine (first7_any W).mono ?_
    rintro e w1 ⟨rfl, f1⟩
    obtain ⟨⟨k0, k1, k2⟩, ⟨l0, l1, l2⟩, ⟨m5, m6⟩, HNp, HNq⟩ := HC.out w1 f1
    go_wp2_with fail
    refine (big7_any X Y a n cap w1 HNp.out.len).mono ?_
    rintro e w2 ⟨rfl, f2⟩
    have HB2 := hid hb2
    clear hb2
    rw [decide_eq_false HB1.out]
    clear k0 k1 k2 l0 l1 l2 m5 m6 HNp HNq
    obtain ⟨⟨k0, k1, k2⟩, ⟨l0, l1, l2⟩, ⟨m5, m6⟩, HNp, HNq⟩ := HC.out w2 (f1.trans' f2)
    go_wp2_with fail
    refine (big7_any X' Y' a' n' cap' w2 HNq.out.len).mono ?_
    rintro e w3 ⟨rfl, f3⟩
    rw [decide_eq_false HB2.out]
    clear k0 k1 k2 l0 l1 l2 m5 m6 HNp HNq
    obtain ⟨⟨k0, k1, k2⟩, ⟨l0, l1, l2⟩, ⟨m5, m6⟩, HNp, HNq⟩ := HC.out w3 ((f1.trans' f2).trans' f3)
    go_wp2_with fail
    refine (pright_any X Y a n cap w3).mono ?_
    rintro e w4 ⟨rfl, f4⟩
    rw [hR]
    clear k0 k1 k2 l0 l1 l2 m5 m6 HNp HNq
    go_wp2
    go_ret
    exact ⟨rfl, F0.trans' (((f1.trans' f2).trans' f3).trans' f4)⟩
  · obtain ⟨W, hW⟩ : ∃ W, W = ((w.alloc (.cells #[.int .i64 X, .int .i64 Y, .slice a n cap] 24)).alloc (.cells #[.int .i64 X', .int .i64 Y', .slice a' n' cap'] 24)).alloc (.cells #[.int .u8 (m0 : Int), .int .u8 (m1 : Int)] 42) := ⟨_, rfl⟩
    have F0 : Fr (fun _ => False) w W := by rw [hW]; exact (((Fr.refl _ w).alloc _).alloc _).alloc _
    have O0 : Blk W w.heap.size #[.int .i64 X, .int .i64 Y, .slice a n cap] 24 := by rw [hW]; exact ((Blk.new _ _ _).alloc _).alloc _
    have O1 : Blk W (w.heap.size + 1) #[.int .i64 X', .int .i64 Y', .slice a' n' cap'] 24 := by
      rw [hW]
      have := Blk.new (w.alloc (.cells #[.int .i64 X, .int .i64 Y, .slice a n cap] 24)) #[.int .i64 X', .int .i64 Y', .slice a' n' cap'] 24
      simp at this
      exact this.alloc _
    have O2 : Blk W (w.heap.size + 2) #[.int .u8 (m0 : Int), .int .u8 (m1 : Int)] 42 := by
      rw [hW]
      have := Blk.new ((w.alloc (.cells #[.int .i64 X, .int .i64 Y, .slice a n cap] 24)).alloc (.cells #[.int .i64 X', .int .i64 Y', .slice a' n' cap'] 24)) #[.int .u8 (m0 : Int), .int .u8 (m1 : Int)] 42
      simpa using this
    have HW := hid hW
    clear hW
    have HC : Hid (∀ wq, Fr (fun _ => False) W wq → (wq.cell? ⟨w.heap.size, 0, none⟩ = some (.int .i64 X) ∧ wq.cell? ⟨w.heap.size, 1, none⟩ = some (.int .i64 Y) ∧ wq.cell? ⟨w.heap.size, 2, none⟩ = some (.slice a n cap)) ∧ (wq.cell? ⟨w.heap.size + 1, 0, none⟩ = some (.int .i64 X') ∧ wq.cell? ⟨w.heap.size + 1, 1, none⟩ = some (.int .i64 Y') ∧ wq.cell? ⟨w.heap.size + 1, 2, none⟩ = some (.slice a' n' cap')) ∧ (wq.cell? ⟨w.heap.size + 2, 0, none⟩ = some (.int .u8 (m0 : Int)) ∧ wq.cell? ⟨w.heap.size + 2, 1, none⟩ = some (.int .u8 (m1 : Int))) ∧ Hid (Nums wq a n cap V b) ∧ Hid (Nums wq a' n' cap' V' b')) := by
      intro wq f
      have S0 := O0.fr f (fun h => h)
      have S1 := O1.fr f (fun h => h)
      have S2 := O2.fr f (fun h => h)
      exact ⟨⟨by rw [S0.cell]; rfl, by rw [S0.cell]; rfl, by rw [S0.cell]; rfl⟩, ⟨by rw [S1.cell]; rfl, by rw [S1.cell]; rfl, by rw [S1.cell]; rfl⟩, ⟨by rw [S2.cell]; rfl, by rw [S2.cell]; rfl⟩, hn.quiet (F0.trans' f), hn'.quiet (F0.trans' f)⟩
    clear O0 O1 O2 hn hn'
    clear hV
    go_enter Try.func5, Try.ntmps5
    have HB1 := hid hb1
    clear hb1
    go_wp2_with fail
    rw [← HW.out]
    refine (first7_any W).mono ?_
    rintro e w1 ⟨rfl, f1⟩
    obtain ⟨⟨k0, k1, k2⟩, ⟨l0, l1, l2⟩, ⟨m5, m6⟩, HNp, HNq⟩ := HC.out w1 f1
    go_wp2_with fail
    refine (big7_any X Y a n cap w1 HNp.out.len).mono ?_
    rintro e w2 ⟨rfl, f2⟩
    rw [decide_eq_true HB1.out]
    clear k0 k1 k2 l0 l1 l2 m5 m6 HNp HNq
    go_wp2
    go_ret
    exact ⟨rfl, F0.trans' (f1.trans' f2)⟩
  · obtain ⟨W, hW⟩ : ∃ W, W = ((w.alloc (.cells #[.int .i64 X, .int .i64 Y, .slice a n cap] 24)).alloc (.cells #[.int .i64 X', .int .i64 Y', .slice a' n' cap'] 24)).alloc (.cells #[.int .u8 (m0 : Int), .int .u8 (m1 : Int)] 42) := ⟨_, rfl⟩
    have F0 : Fr (fun _ => False) w W := by rw [hW]; exact (((Fr.refl _ w).alloc _).alloc _).alloc _
    have O0 : Blk W w.heap.size #[.int .i64 X, .int .i64 Y, .slice a n cap] 24 := by rw [hW]; exact ((Blk.new _ _ _).alloc _).alloc _
    have O1 : Blk W (w.heap.size + 1) #[.int .i64 X', .int .i64 Y', .slice a' n' cap'] 24 := by
      rw [hW]
      have := Blk.new (w.alloc (.cells #[.int .i64 X, .int .i64 Y, .slice a n cap] 24)) #[.int .i64 X', .int .i64 Y', .slice a' n' cap'] 24
      simp at this
      exact this.alloc _
    have O2 : Blk W (w.heap.size + 2) #[.int .u8 (m0 : Int), .int .u8 (m1 : Int)] 42 := by
      rw [hW]
      have := Blk.new ((w.alloc (.cells #[.int .i64 X, .int .i64 Y, .slice a n cap] 24)).alloc (.cells #[.int .i64 X', .int .i64 Y', .slice a' n' cap'] 24)) #[.int .u8 (m0 : Int), .int .u8 (m1 : Int)] 42
      simpa using this
    have HW := hid hW
    clear hW
    have HC : Hid (∀ wq, Fr (fun _ => False) W wq → (wq.cell? ⟨w.heap.size, 0, none⟩ = some (.int .i64 X) ∧ wq.cell? ⟨w.heap.size, 1, none⟩ = some (.int .i64 Y) ∧ wq.cell? ⟨w.heap.size, 2, none⟩ = some (.slice a n cap)) ∧ (wq.cell? ⟨w.heap.size + 1, 0, none⟩ = some (.int .i64 X') ∧ wq.cell? ⟨w.heap.size + 1, 1, none⟩ = some (.int .i64 Y') ∧ wq.cell? ⟨w.heap.size + 1, 2, none⟩ = some (.slice a' n' cap')) ∧ (wq.cell? ⟨w.heap.size + 2, 0, none⟩ = some (.int .u8 (m0 : Int)) ∧ wq.cell? ⟨w.heap.size + 2, 1, none⟩ = some (.int .u8 (m1 : Int))) ∧ Hid (Nums wq a n cap V b) ∧ Hid (Nums wq a' n' cap' V' b')) := by
      intro wq f
      have S0 := O0.fr f (fun h => h)
      have S1 := O1.fr f (fun h => h)
      have S2 := O2.fr f (fun h => h)
      exact ⟨⟨by rw [S0.cell]; rfl, by rw [S0.cell]; rfl, by rw [S0.cell]; rfl⟩, ⟨by rw [S1.cell]; rfl, by rw [S1.cell]; rfl, by rw [S1.cell]; rfl⟩, ⟨by rw [S2.cell]; rfl, by rw [S2.cell]; rfl⟩, hn.quiet (F0.trans' f), hn'.quiet (F0.trans' f)⟩
    clear O0 O1 O2 hn hn'
    clear hV
    go_enter Try.func5, Try.ntmps5
    have HB1 := hid hb1
    clear hb1
    go_wp2_with fail
    rw [← HW.out]
    refine (first7_any W).mono ?_
    rintro e w1 ⟨rfl, f1⟩
    obtain ⟨⟨k0, k1, k2⟩, ⟨l0, l1, l2⟩, ⟨m5, m6⟩, HNp, HNq⟩ := HC.out w1 f1
    go_wp2_with fail
    refine (big7_any X Y a n cap w1 HNp.out.len).mono ?_
    rintro e w2 ⟨rfl, f2⟩
    have HB2 := hid hb2
    clear hb2
    rw [decide_eq_false HB1.out]
    clear k0 k1 k2 l0 l1 l2 m5 m6 HNp HNq
    obtain ⟨⟨k0, k1, k2⟩, ⟨l0, l1, l2⟩, ⟨m5, m6⟩, HNp, HNq⟩ := HC.out w2 (f1.trans' f2)
    go_wp2_with fail
    refine (big7_any X' Y' a' n' cap' w2 HNq.out.len).mono ?_
    rintro e w3 ⟨rfl, f3⟩
    rw [decide_eq_true HB2.out]
    clear k0 k1 k2 l0 l1 l2 m5 m6 HNp HNq
    go_wp2
    go_ret
    exact ⟨rfl, F0.trans' ((f1.trans' f2).trans' f3)⟩
end Go.Proofs.Ythhhecdnnbgddaa
