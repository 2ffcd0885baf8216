/-
  WaveTurns: its walk.
-/
import Derived.Test.YtonalomagfekaaaFirst9
namespace Go.Proofs.Ytonalomagfekaaa
open Go.RowKit

theorem Made.gave {w w' : World} {e : Ending} {X Y : Int} {n : Nat} {V : Nat → Int} (h : Made w w' e X Y n V) : Gave w w' e X Y n V := by
  obtain ⟨a, cap, b, he, hn, _, f⟩ := h
  exact ⟨a, cap, b, he, hn, f⟩

set_option maxRecDepth 100000 in
set_option maxHeartbeats 4000000 in
theorem turns9_walk (z : Int) (X Y : Int) (a : Option Addr) (n cap : Nat) (V : Nat → Int) (d : Int) (w : World) (c : CellsIn w a n cap (fun i => .int .i64 (V i))) (bv : ∀ i, -9223372036854775808 ≤ V i ∧ V i ≤ 9223372036854775807) :
    Calls Try.prog 3 #[.int .i64 z, .agg #[.int .i64 X, .int .i64 Y, .slice a n cap], .int .i64 d] w fun e w' => e = .returned (.bool true) ∧ Below w.heap.size w w' := by
  obtain ⟨b, hN, _⟩ := Nums.of_in c
  have hlen := hN.len
  have HFw := hid (fun w1 h => (wforward_any z X Y a n cap V b d w1 h (fun j _ => bv j)).mono (fun e w' h => h.gave))
  have HIn := hid (fun w1 h => (winverse_any z X Y a n cap V b d w1 h (fun j _ => bv j)).mono (fun e w' h => h.gave))
  have HRFw := hid (fun w1 h => rforward_any z X Y a n cap V b d w1 h)
  have HRIn := hid (fun w1 h => rinverse_any z X Y a n cap V b d w1 h)
  have HF := hid (fun w1 => wfits_any X Y a n cap d w1)
  have HRF := hid (fun w1 => rfits_any X Y a n cap d w1)
  obtain ⟨F, hF⟩ : ∃ F, F = fitsP X Y n d := ⟨_, rfl⟩
  rw [← hF] at HF HRF
  obtain ⟨RX, hRX⟩ : ∃ r, r = okI (waveOk z X Y n d) X := ⟨_, rfl⟩
  obtain ⟨RY, hRY⟩ : ∃ r, r = okI (waveOk z X Y n d) Y := ⟨_, rfl⟩
  obtain ⟨rn, hrn⟩ : ∃ r, r = okN2 (waveOk z X Y n d) n := ⟨_, rfl⟩
  obtain ⟨VF, hVF⟩ : ∃ r, r = flatG X.toNat (fwdW z.toNat d.toNat X.toNat Y.toNat (gridV X.toNat V)) := ⟨_, rfl⟩
  obtain ⟨VI, hVI⟩ : ∃ r, r = flatG X.toNat (bwdW z.toNat d.toNat X.toNat Y.toNat (gridV X.toNat V)) := ⟨_, rfl⟩
  rw [← hRX, ← hRY, ← hrn, ← hVF] at HFw HRFw
  rw [← hRX, ← hRY, ← hrn, ← hVI] at HIn HRIn
  have HS : Hid (∀ w1 U a1 k1 b1 a2 k2 b2, Nums w1 a1 rn k1 U b1 → Nums w1 a2 rn k2 U b2 → Calls Try.prog 11 #[.agg #[.int .i64 RX, .int .i64 RY, .slice a1 rn k1], .agg #[.int .i64 RX, .int .i64 RY, .slice a2 rn k2]] w1 fun e w' => e = .returned (.bool true) ∧ Fr (fun _ => False) w1 w') := fun w1 U a1 k1 b1 a2 k2 b2 h h' => by
    have := rsame_any RX RY a1 rn k1 U b1 RX RY a2 rn k2 U b2 w1 h h'
    rwa [sameV_self] at this
  have HN := hid hN
  clear hF hRX hRY hrn hVF hVI bv c hN
  obtain ⟨W, hW⟩ : ∃ W, W = w.alloc (.cells #[.int .i64 X, .int .i64 Y, .slice a n cap] 25) := ⟨_, rfl⟩
  have F0 : Fr (fun _ => False) w W := by rw [hW]; exact (Fr.refl _ w).alloc _
  have O0 : Blk W w.heap.size #[.int .i64 X, .int .i64 Y, .slice a n cap] 25 := by rw [hW]; exact Blk.new _ _ _
  have HW := hid hW
  clear hW
  cases hbig : decide (4200 < n) with
  | true =>
    go_enter Try.func3, Try.ntmps3
    go_wp2_with fail
    rw [← HW.out]
    refine (first9_any W).mono ?_
    rintro e w1 ⟨rfl, f1⟩
    have P1 := O0.fr f1 (fun h => h)
    have c0 : w1.cell? ⟨w.heap.size, 0, none⟩ = some (.int .i64 X) := by rw [P1.cell]; rfl
    have c1 : w1.cell? ⟨w.heap.size, 1, none⟩ = some (.int .i64 Y) := by rw [P1.cell]; rfl
    have c2 : w1.cell? ⟨w.heap.size, 2, none⟩ = some (.slice a n cap) := by rw [P1.cell]; rfl
    go_wp2_with fail
    refine (big9_any X Y a n cap w1 hlen).mono ?_
    rintro e w2 ⟨rfl, f2⟩
    rw [hbig]
    have F2 := (F0.trans' f1).trans' f2
    clear O0 P1 c0 c1 c2 F0 f1 f2
    go_wp2
    go_ret
    exact ⟨rfl, F2.below (Nat.le_refl _) (fun _ _ h => h)⟩
  | false =>
    go_enter Try.func3, Try.ntmps3
    go_wp2_with fail
    rw [← HW.out]
    refine (first9_any W).mono ?_
    rintro e w1 ⟨rfl, f1⟩
    have P1 := O0.fr f1 (fun h => h)
    have c0 : w1.cell? ⟨w.heap.size, 0, none⟩ = some (.int .i64 X) := by rw [P1.cell]; rfl
    have c1 : w1.cell? ⟨w.heap.size, 1, none⟩ = some (.int .i64 Y) := by rw [P1.cell]; rfl
    have c2 : w1.cell? ⟨w.heap.size, 2, none⟩ = some (.slice a n cap) := by rw [P1.cell]; rfl
    go_wp2_with fail
    refine (big9_any X Y a n cap w1 hlen).mono ?_
    rintro e w2 ⟨rfl, f2⟩
    rw [hbig]
    have F2 := (F0.trans' f1).trans' f2
    have P2 := P1.fr f2 (fun h => h)
    have HQ : Hid (∀ wq, Fr (fun _ => False) w2.drew wq → (wq.cell? ⟨w.heap.size, 0, none⟩ = some (.int .i64 X) ∧ wq.cell? ⟨w.heap.size, 1, none⟩ = some (.int .i64 Y) ∧ wq.cell? ⟨w.heap.size, 2, none⟩ = some (.slice a n cap)) ∧ Hid (Nums wq a n cap V b)) := by
      intro wq f
      have f' := (Fr.refl _ w2).drew.trans' f
      have S0 := P2.fr f' (fun h => h)
      exact ⟨⟨by rw [S0.cell]; rfl, by rw [S0.cell]; rfl, by rw [S0.cell]; rfl⟩, HN.out.quiet (F2.trans' f')⟩
    clear O0 P1 P2 c0 c1 c2 F0 f1 f2 HN HW
    go_wp2
    refine weaveS 29 [.eq (Value.agg #[.int .i64 X, .int .i64 Y, .slice a n cap]), .eq (Value.int .i64 d), .eq (Value.bool F), .eq (Value.agg #[.int .i64 X, .int .i64 Y, .slice a n cap]), .eq (Value.int .i64 d), .eq (Value.bool F), .eq (Value.bool true), .eq (Value.bool true), .eq (Value.int .i64 z), .eq (Value.agg #[.int .i64 X, .int .i64 Y, .slice a n cap]), .eq (Value.int .i64 d), .planeN RX RY rn VF, .eq (Value.int .i64 z), .eq (Value.agg #[.int .i64 X, .int .i64 Y, .slice a n cap]), .eq (Value.int .i64 d), .planeN RX RY rn VF, .eq (Value.bool true), .eq (Value.bool true), .eq (Value.bool true), .eq (Value.int .i64 z), .eq (Value.agg #[.int .i64 X, .int .i64 Y, .slice a n cap]), .eq (Value.int .i64 d), .planeN RX RY rn VI, .eq (Value.int .i64 z), .eq (Value.agg #[.int .i64 X, .int .i64 Y, .slice a n cap]), .eq (Value.int .i64 d), .planeN RX RY rn VI, .eq (Value.bool true), .eq (Value.bool true)] (by kernel_rfl) (by kernel_rfl) ?obls ?tail
    case obls =>
      simp only [List.take_succ_cons, List.take_zero]
      refine ⟨?_, ?_, ?_, ?_, ?_, ?_, ?_, ?_, ?_, ?_, ?_, ?_, ?_, ?_, ?_, ?_, ?_, ?_, ?_, ?_, ?_, ?_, ?_, ?_, ?_, ?_, ?_, ?_, ?_, trivial⟩
      · intro vals wq f h
        simp only [fillA, fillT, List.setIfInBounds_toArray, List.set_cons_succ, List.set_cons_zero, Option.getD_some, Nat.zero_add, Nat.reduceAdd]
        obtain ⟨⟨k0, k1, k2⟩, HNp⟩ := HQ.out wq f
        clear h
        go_wp2
        exact ⟨rfl, rfl, _, rfl, Fr.refl _ _, rfl⟩
      · intro vals wq f h
        simp only [fillA, fillT, List.setIfInBounds_toArray, List.set_cons_succ, List.set_cons_zero, Option.getD_some, Nat.zero_add, Nat.reduceAdd]
        obtain ⟨⟨k0, k1, k2⟩, HNp⟩ := HQ.out wq f
        clear h
        go_wp2
        exact ⟨rfl, rfl, _, rfl, Fr.refl _ _, rfl⟩
      · intro vals wq f h
        simp only [fillA, fillT, List.setIfInBounds_toArray, List.set_cons_succ, List.set_cons_zero, Option.getD_some, Nat.zero_add, Nat.reduceAdd]
        have h0 : vals 0 = Value.agg #[.int .i64 X, .int .i64 Y, .slice a n cap] := h 0 (by kernel_rfl)
        rw [h0]
        have h1 : vals 1 = Value.int .i64 d := h 1 (by kernel_rfl)
        rw [h1]
        obtain ⟨⟨k0, k1, k2⟩, HNp⟩ := HQ.out wq f
        clear h
        go_wp2_with fail
        refine (HF.out wq).mono ?_
        rintro e w6 ⟨rfl, f6⟩
        go_wp2
        exact ⟨rfl, rfl, _, rfl, f6, rfl⟩
      · intro vals wq f h
        simp only [fillA, fillT, List.setIfInBounds_toArray, List.set_cons_succ, List.set_cons_zero, Option.getD_some, Nat.zero_add, Nat.reduceAdd]
        obtain ⟨⟨k0, k1, k2⟩, HNp⟩ := HQ.out wq f
        clear h
        go_wp2
        exact ⟨rfl, rfl, _, rfl, Fr.refl _ _, rfl⟩
      · intro vals wq f h
        simp only [fillA, fillT, List.setIfInBounds_toArray, List.set_cons_succ, List.set_cons_zero, Option.getD_some, Nat.zero_add, Nat.reduceAdd]
        obtain ⟨⟨k0, k1, k2⟩, HNp⟩ := HQ.out wq f
        clear h
        go_wp2
        exact ⟨rfl, rfl, _, rfl, Fr.refl _ _, rfl⟩
      · intro vals wq f h
        simp only [fillA, fillT, List.setIfInBounds_toArray, List.set_cons_succ, List.set_cons_zero, Option.getD_some, Nat.zero_add, Nat.reduceAdd]
        have h3 : vals 3 = Value.agg #[.int .i64 X, .int .i64 Y, .slice a n cap] := h 3 (by kernel_rfl)
        rw [h3]
        have h4 : vals 4 = Value.int .i64 d := h 4 (by kernel_rfl)
        rw [h4]
        obtain ⟨⟨k0, k1, k2⟩, HNp⟩ := HQ.out wq f
        clear h
        go_wp2_with fail
        refine (HRF.out wq).mono ?_
        rintro e w6 ⟨rfl, f6⟩
        go_wp2
        exact ⟨rfl, rfl, _, rfl, f6, rfl⟩
      · intro vals wq f h
        simp only [fillA, fillT, List.setIfInBounds_toArray, List.set_cons_succ, List.set_cons_zero, Option.getD_some, Nat.zero_add, Nat.reduceAdd]
        have h2 : vals 2 = Value.bool F := h 2 (by kernel_rfl)
        rw [h2]
        have h5 : vals 5 = Value.bool F := h 5 (by kernel_rfl)
        rw [h5]
        obtain ⟨⟨k0, k1, k2⟩, HNp⟩ := HQ.out wq f
        clear h
        go_wp2
        exact ⟨rfl, rfl, _, rfl, Fr.refl _ _, by first | rfl | (show Value.bool _ = Value.bool _; simp)⟩
      · intro vals wq f h
        simp only [fillA, fillT, List.setIfInBounds_toArray, List.set_cons_succ, List.set_cons_zero, Option.getD_some, Nat.zero_add, Nat.reduceAdd]
        have h6 : vals 6 = Value.bool true := h 6 (by kernel_rfl)
        rw [h6]
        obtain ⟨⟨k0, k1, k2⟩, HNp⟩ := HQ.out wq f
        clear h
        go_wp2
        exact ⟨rfl, rfl, _, rfl, Fr.refl _ _, rfl⟩
      · intro vals wq f h
        simp only [fillA, fillT, List.setIfInBounds_toArray, List.set_cons_succ, List.set_cons_zero, Option.getD_some, Nat.zero_add, Nat.reduceAdd]
        have h7 : vals 7 = Value.bool true := h 7 (by kernel_rfl)
        rw [h7]
        obtain ⟨⟨k0, k1, k2⟩, HNp⟩ := HQ.out wq f
        clear h
        go_wp2
        exact ⟨rfl, rfl, _, rfl, Fr.refl _ _, rfl⟩
      · intro vals wq f h
        simp only [fillA, fillT, List.setIfInBounds_toArray, List.set_cons_succ, List.set_cons_zero, Option.getD_some, Nat.zero_add, Nat.reduceAdd]
        have h7 : vals 7 = Value.bool true := h 7 (by kernel_rfl)
        rw [h7]
        obtain ⟨⟨k0, k1, k2⟩, HNp⟩ := HQ.out wq f
        clear h
        go_wp2
        exact ⟨rfl, rfl, _, rfl, Fr.refl _ _, rfl⟩
      · intro vals wq f h
        simp only [fillA, fillT, List.setIfInBounds_toArray, List.set_cons_succ, List.set_cons_zero, Option.getD_some, Nat.zero_add, Nat.reduceAdd]
        have h7 : vals 7 = Value.bool true := h 7 (by kernel_rfl)
        rw [h7]
        obtain ⟨⟨k0, k1, k2⟩, HNp⟩ := HQ.out wq f
        clear h
        go_wp2
        exact ⟨rfl, rfl, _, rfl, Fr.refl _ _, rfl⟩
      · intro vals wq f h
        simp only [fillA, fillT, List.setIfInBounds_toArray, List.set_cons_succ, List.set_cons_zero, Option.getD_some, Nat.zero_add, Nat.reduceAdd]
        have h8 : vals 8 = Value.int .i64 z := h 8 (by kernel_rfl)
        rw [h8]
        have h9 : vals 9 = Value.agg #[.int .i64 X, .int .i64 Y, .slice a n cap] := h 9 (by kernel_rfl)
        rw [h9]
        have h10 : vals 10 = Value.int .i64 d := h 10 (by kernel_rfl)
        rw [h10]
        have h7 : vals 7 = Value.bool true := h 7 (by kernel_rfl)
        rw [h7]
        obtain ⟨⟨k0, k1, k2⟩, HNp⟩ := HQ.out wq f
        clear h
        go_wp2_with fail
        refine (HFw.out wq HNp.out).mono ?_
        rintro e w6 ⟨a6, cp, b6, rfl, n6, f6⟩
        have HN6 := hid n6
        clear n6
        go_wp2
        exact ⟨rfl, rfl, _, rfl, f6, _, _, _, rfl, HN6.out⟩
      · intro vals wq f h
        simp only [fillA, fillT, List.setIfInBounds_toArray, List.set_cons_succ, List.set_cons_zero, Option.getD_some, Nat.zero_add, Nat.reduceAdd]
        have h7 : vals 7 = Value.bool true := h 7 (by kernel_rfl)
        rw [h7]
        obtain ⟨⟨k0, k1, k2⟩, HNp⟩ := HQ.out wq f
        clear h
        go_wp2
        exact ⟨rfl, rfl, _, rfl, Fr.refl _ _, rfl⟩
      · intro vals wq f h
        simp only [fillA, fillT, List.setIfInBounds_toArray, List.set_cons_succ, List.set_cons_zero, Option.getD_some, Nat.zero_add, Nat.reduceAdd]
        have h7 : vals 7 = Value.bool true := h 7 (by kernel_rfl)
        rw [h7]
        obtain ⟨⟨k0, k1, k2⟩, HNp⟩ := HQ.out wq f
        clear h
        go_wp2
        exact ⟨rfl, rfl, _, rfl, Fr.refl _ _, rfl⟩
      · intro vals wq f h
        simp only [fillA, fillT, List.setIfInBounds_toArray, List.set_cons_succ, List.set_cons_zero, Option.getD_some, Nat.zero_add, Nat.reduceAdd]
        have h7 : vals 7 = Value.bool true := h 7 (by kernel_rfl)
        rw [h7]
        obtain ⟨⟨k0, k1, k2⟩, HNp⟩ := HQ.out wq f
        clear h
        go_wp2
        exact ⟨rfl, rfl, _, rfl, Fr.refl _ _, rfl⟩
      · intro vals wq f h
        simp only [fillA, fillT, List.setIfInBounds_toArray, List.set_cons_succ, List.set_cons_zero, Option.getD_some, Nat.zero_add, Nat.reduceAdd]
        have h12 : vals 12 = Value.int .i64 z := h 12 (by kernel_rfl)
        rw [h12]
        have h13 : vals 13 = Value.agg #[.int .i64 X, .int .i64 Y, .slice a n cap] := h 13 (by kernel_rfl)
        rw [h13]
        have h14 : vals 14 = Value.int .i64 d := h 14 (by kernel_rfl)
        rw [h14]
        have h7 : vals 7 = Value.bool true := h 7 (by kernel_rfl)
        rw [h7]
        obtain ⟨⟨k0, k1, k2⟩, HNp⟩ := HQ.out wq f
        clear h
        go_wp2_with fail
        refine (HRFw.out wq HNp.out).mono ?_
        rintro e w6 ⟨a6, cp, b6, rfl, n6, f6⟩
        have HN6 := hid n6
        clear n6
        go_wp2
        exact ⟨rfl, rfl, _, rfl, f6, _, _, _, rfl, HN6.out⟩
      · intro vals wq f h
        simp only [fillA, fillT, List.setIfInBounds_toArray, List.set_cons_succ, List.set_cons_zero, Option.getD_some, Nat.zero_add, Nat.reduceAdd]
        obtain ⟨a11, k11, b11, h11, n11⟩ : PlaneN wq (vals 11) RX RY rn VF := h 11 (by kernel_rfl)
        rw [h11]
        obtain ⟨a15, k15, b15, h15, n15⟩ : PlaneN wq (vals 15) RX RY rn VF := h 15 (by kernel_rfl)
        rw [h15]
        have h7 : vals 7 = Value.bool true := h 7 (by kernel_rfl)
        rw [h7]
        obtain ⟨⟨k0, k1, k2⟩, HNp⟩ := HQ.out wq f
        clear h
        go_wp2_with fail
        refine (HS.out wq VF _ _ _ _ _ _ n11 n15).mono ?_
        rintro e w6 ⟨rfl, f6⟩
        go_wp2
        exact ⟨rfl, rfl, _, rfl, f6, rfl⟩
      · intro vals wq f h
        simp only [fillA, fillT, List.setIfInBounds_toArray, List.set_cons_succ, List.set_cons_zero, Option.getD_some, Nat.zero_add, Nat.reduceAdd]
        have h7 : vals 7 = Value.bool true := h 7 (by kernel_rfl)
        rw [h7]
        have h16 : vals 16 = Value.bool true := h 16 (by kernel_rfl)
        rw [h16]
        obtain ⟨⟨k0, k1, k2⟩, HNp⟩ := HQ.out wq f
        clear h
        go_wp2
        exact ⟨rfl, rfl, _, rfl, Fr.refl _ _, rfl⟩
      · intro vals wq f h
        simp only [fillA, fillT, List.setIfInBounds_toArray, List.set_cons_succ, List.set_cons_zero, Option.getD_some, Nat.zero_add, Nat.reduceAdd]
        have h17 : vals 17 = Value.bool true := h 17 (by kernel_rfl)
        rw [h17]
        obtain ⟨⟨k0, k1, k2⟩, HNp⟩ := HQ.out wq f
        clear h
        go_wp2
        exact ⟨rfl, rfl, _, rfl, Fr.refl _ _, rfl⟩
      · intro vals wq f h
        simp only [fillA, fillT, List.setIfInBounds_toArray, List.set_cons_succ, List.set_cons_zero, Option.getD_some, Nat.zero_add, Nat.reduceAdd]
        have h18 : vals 18 = Value.bool true := h 18 (by kernel_rfl)
        rw [h18]
        obtain ⟨⟨k0, k1, k2⟩, HNp⟩ := HQ.out wq f
        clear h
        go_wp2
        exact ⟨rfl, rfl, _, rfl, Fr.refl _ _, rfl⟩
      · intro vals wq f h
        simp only [fillA, fillT, List.setIfInBounds_toArray, List.set_cons_succ, List.set_cons_zero, Option.getD_some, Nat.zero_add, Nat.reduceAdd]
        have h18 : vals 18 = Value.bool true := h 18 (by kernel_rfl)
        rw [h18]
        obtain ⟨⟨k0, k1, k2⟩, HNp⟩ := HQ.out wq f
        clear h
        go_wp2
        exact ⟨rfl, rfl, _, rfl, Fr.refl _ _, rfl⟩
      · intro vals wq f h
        simp only [fillA, fillT, List.setIfInBounds_toArray, List.set_cons_succ, List.set_cons_zero, Option.getD_some, Nat.zero_add, Nat.reduceAdd]
        have h18 : vals 18 = Value.bool true := h 18 (by kernel_rfl)
        rw [h18]
        obtain ⟨⟨k0, k1, k2⟩, HNp⟩ := HQ.out wq f
        clear h
        go_wp2
        exact ⟨rfl, rfl, _, rfl, Fr.refl _ _, rfl⟩
      · intro vals wq f h
        simp only [fillA, fillT, List.setIfInBounds_toArray, List.set_cons_succ, List.set_cons_zero, Option.getD_some, Nat.zero_add, Nat.reduceAdd]
        have h19 : vals 19 = Value.int .i64 z := h 19 (by kernel_rfl)
        rw [h19]
        have h20 : vals 20 = Value.agg #[.int .i64 X, .int .i64 Y, .slice a n cap] := h 20 (by kernel_rfl)
        rw [h20]
        have h21 : vals 21 = Value.int .i64 d := h 21 (by kernel_rfl)
        rw [h21]
        have h18 : vals 18 = Value.bool true := h 18 (by kernel_rfl)
        rw [h18]
        obtain ⟨⟨k0, k1, k2⟩, HNp⟩ := HQ.out wq f
        clear h
        go_wp2_with fail
        refine (HIn.out wq HNp.out).mono ?_
        rintro e w6 ⟨a6, cp, b6, rfl, n6, f6⟩
        have HN6 := hid n6
        clear n6
        go_wp2
        exact ⟨rfl, rfl, _, rfl, f6, _, _, _, rfl, HN6.out⟩
      · intro vals wq f h
        simp only [fillA, fillT, List.setIfInBounds_toArray, List.set_cons_succ, List.set_cons_zero, Option.getD_some, Nat.zero_add, Nat.reduceAdd]
        have h18 : vals 18 = Value.bool true := h 18 (by kernel_rfl)
        rw [h18]
        obtain ⟨⟨k0, k1, k2⟩, HNp⟩ := HQ.out wq f
        clear h
        go_wp2
        exact ⟨rfl, rfl, _, rfl, Fr.refl _ _, rfl⟩
      · intro vals wq f h
        simp only [fillA, fillT, List.setIfInBounds_toArray, List.set_cons_succ, List.set_cons_zero, Option.getD_some, Nat.zero_add, Nat.reduceAdd]
        have h18 : vals 18 = Value.bool true := h 18 (by kernel_rfl)
        rw [h18]
        obtain ⟨⟨k0, k1, k2⟩, HNp⟩ := HQ.out wq f
        clear h
        go_wp2
        exact ⟨rfl, rfl, _, rfl, Fr.refl _ _, rfl⟩
      · intro vals wq f h
        simp only [fillA, fillT, List.setIfInBounds_toArray, List.set_cons_succ, List.set_cons_zero, Option.getD_some, Nat.zero_add, Nat.reduceAdd]
        have h18 : vals 18 = Value.bool true := h 18 (by kernel_rfl)
        rw [h18]
        obtain ⟨⟨k0, k1, k2⟩, HNp⟩ := HQ.out wq f
        clear h
        go_wp2
        exact ⟨rfl, rfl, _, rfl, Fr.refl _ _, rfl⟩
      · intro vals wq f h
        simp only [fillA, fillT, List.setIfInBounds_toArray, List.set_cons_succ, List.set_cons_zero, Option.getD_some, Nat.zero_add, Nat.reduceAdd]
        have h23 : vals 23 = Value.int .i64 z := h 23 (by kernel_rfl)
        rw [h23]
        have h24 : vals 24 = Value.agg #[.int .i64 X, .int .i64 Y, .slice a n cap] := h 24 (by kernel_rfl)
        rw [h24]
        have h25 : vals 25 = Value.int .i64 d := h 25 (by kernel_rfl)
        rw [h25]
        have h18 : vals 18 = Value.bool true := h 18 (by kernel_rfl)
        rw [h18]
        obtain ⟨⟨k0, k1, k2⟩, HNp⟩ := HQ.out wq f
        clear h
        go_wp2_with fail
        refine (HRIn.out wq HNp.out).mono ?_
        rintro e w6 ⟨a6, cp, b6, rfl, n6, f6⟩
        have HN6 := hid n6
        clear n6
        go_wp2
        exact ⟨rfl, rfl, _, rfl, f6, _, _, _, rfl, HN6.out⟩
      · intro vals wq f h
        simp only [fillA, fillT, List.setIfInBounds_toArray, List.set_cons_succ, List.set_cons_zero, Option.getD_some, Nat.zero_add, Nat.reduceAdd]
        obtain ⟨a22, k22, b22, h22, n22⟩ : PlaneN wq (vals 22) RX RY rn VI := h 22 (by kernel_rfl)
        rw [h22]
        obtain ⟨a26, k26, b26, h26, n26⟩ : PlaneN wq (vals 26) RX RY rn VI := h 26 (by kernel_rfl)
        rw [h26]
        have h18 : vals 18 = Value.bool true := h 18 (by kernel_rfl)
        rw [h18]
        obtain ⟨⟨k0, k1, k2⟩, HNp⟩ := HQ.out wq f
        clear h
        go_wp2_with fail
        refine (HS.out wq VI _ _ _ _ _ _ n22 n26).mono ?_
        rintro e w6 ⟨rfl, f6⟩
        go_wp2
        exact ⟨rfl, rfl, _, rfl, f6, rfl⟩
      · intro vals wq f h
        simp only [fillA, fillT, List.setIfInBounds_toArray, List.set_cons_succ, List.set_cons_zero, Option.getD_some, Nat.zero_add, Nat.reduceAdd]
        have h18 : vals 18 = Value.bool true := h 18 (by kernel_rfl)
        rw [h18]
        have h27 : vals 27 = Value.bool true := h 27 (by kernel_rfl)
        rw [h27]
        obtain ⟨⟨k0, k1, k2⟩, HNp⟩ := HQ.out wq f
        clear h
        go_wp2
        exact ⟨rfl, rfl, _, rfl, Fr.refl _ _, rfl⟩
    case tail =>
      intro vals wq f h
      simp only [List.take_succ_cons, List.take_zero, fillA, fillT, List.setIfInBounds_toArray, List.set_cons_succ, List.set_cons_zero, List.drop_succ_cons, List.drop_zero, Nat.zero_add, Nat.reduceAdd]
      have h28 : vals 28 = Value.bool true := h 28 (by omega)
      rw [h28]
      clear h h28
      gi_wp2
      go_wp2
      go_ret
      exact ⟨rfl, (F2.trans' ((Fr.refl _ w2).drew.trans' f)).below (Nat.le_refl _) (fun _ _ h => h)⟩
end Go.Proofs.Ytonalomagfekaaa
