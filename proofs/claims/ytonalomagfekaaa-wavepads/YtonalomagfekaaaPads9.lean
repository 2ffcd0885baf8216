/-
  WavePads: its walk.
-/
import Derived.Test.YtonalomagfekaaaTurns9
namespace Go.Proofs.Ytonalomagfekaaa
open Go.RowKit

theorem padN_pos {z d : Int} (h : 0 < padN z d) : 1 ≤ z ∧ z ≤ 1024 ∧ 0 ≤ d ∧ d ≤ 6 := Classical.byContradiction fun hn => by rw [padN_out hn] at h; omega
theorem padN_nonneg (z d : Int) : 0 ≤ padN z d := by
  by_cases h : 1 ≤ z ∧ z ≤ 1024 ∧ 0 ≤ d ∧ d ≤ 6
  · obtain ⟨k, rfl⟩ := Int.eq_ofNat_of_zero_le h.2.2.1
    obtain ⟨m, rfl⟩ := Int.eq_ofNat_of_zero_le (show 0 ≤ z by omega)
    rw [padN_in (by omega) (by omega) (by omega)]; omega
  · rw [padN_out h]; omega
/-- The document's plane of padded sides, where there are such sides. -/
theorem sized_pad (X Y : Int) (a : Option Addr) (n cap : Nat) (V : Nat → Int) (b : Nat) (d : Int) (w : World) (h : Nums w a n cap V b) (hu : 0 < padN X d) (hv : 0 < padN Y d) :
    Calls Try.prog 17 #[.agg #[.int .i64 X, .int .i64 Y, .slice a n cap], .int .i64 (padN X d), .int .i64 (padN Y d)] w fun e w' => ∃ a3 k3 b3, e = .returned (.agg #[.int .i64 (padX X Y n d), .int .i64 (padY X Y n d), .slice a3 (padL X Y n d) k3]) ∧ Nums w' a3 (padL X Y n d) k3 (padV X Y V d) b3 ∧ (0 < padL X Y n d → w.heap.size ≤ b3) ∧ Fr (fun _ => False) w w' := by
  have hX := padN_pos hu
  have hY := padN_pos hv
  obtain ⟨k, rfl⟩ := Int.eq_ofNat_of_zero_le hX.2.2.1
  obtain ⟨x, rfl⟩ := Int.eq_ofNat_of_zero_le (show 0 ≤ X by omega)
  obtain ⟨y, rfl⟩ := Int.eq_ofNat_of_zero_le (show 0 ≤ Y by omega)
  have hk : k ≤ 6 := by omega
  obtain ⟨hu1, _⟩ := pow_small hk
  obtain ⟨ax, bx, _⟩ := padU_lo (n := x) hu1
  obtain ⟨ay, bY, _⟩ := padU_lo (n := y) hu1
  have mx := padU_most (n := x) (by omega) hk
  have my := padU_most (n := y) (by omega) hk
  have hd : deepB (k : Int) = true := deepB_iff.2 ⟨by omega, by omega⟩
  unfold padX padY padL padV padOk
  rw [padN_in (by omega) (by omega) hk, padN_in (by omega) (by omega) hk, hd]
  cases hr : rightP x y n with
  | false =>
    refine (rsized_bad x y _ _ a n cap w (by omega) mx (by omega) my hr).mono ?_
    rintro e w' ⟨rfl, f⟩
    exact ⟨none, 0, 0, rfl, Nums.nil _ _ _, fun h => by simp [okN2] at h, f⟩
  | true =>
    obtain ⟨x', y', e1, e2, hx, hx', hy, hy', hn⟩ := rightP_nat hr
    obtain rfl : x = x' := by omega
    obtain rfl : y = y' := by omega
    refine (rsized_go x y _ _ a n cap V b _ w (by omega) mx (by omega) my hx hx' hy hy' hn.symm rfl h).mono ?_
    rintro e w' ⟨g, rfl, r, lg, f⟩
    exact ⟨_, _, g, rfl, r.nums (by have := mul_most mx my; unfold maxLen; omega), fun _ => lg, f⟩

set_option maxRecDepth 100000 in
set_option maxHeartbeats 1000000 in
theorem pads9_walk (X Y : Int) (a : Option Addr) (n cap : Nat) (V : Nat → Int) (z d : Int) (w : World) (c : CellsIn w a n cap (fun i => .int .i64 (V i))) :
    Calls Try.prog 4 #[.agg #[.int .i64 X, .int .i64 Y, .slice a n cap], .int .i64 z, .int .i64 d] w fun e w' => e = .returned (.bool true) ∧ Below w.heap.size w w' := by
  obtain ⟨b, hN, _⟩ := Nums.of_in c
  have hlen := hN.len
  have HPad := hid (fun w1 h => wpad_any X Y a n cap V b d w1 h)
  have HUV := hid (fun Z w1 => rpadded_any Z d w1)
  have HZ := hid (fun w1 => wpadded_any z d w1)
  have HRZ := hid (fun w1 => rpadded_any z d w1)
  have HSz0 := hid (fun w1 h hu hv => sized_pad X Y a n cap V b d w1 h hu hv)
  have hu0 := padN_nonneg X d
  have hv0 := padN_nonneg Y d
  have HR00 : Hid (padOk X Y n d = true → 0 < padN X d ∧ 0 < padN Y d) := fun hok => by
    obtain ⟨hr, hd⟩ : rightP X Y n = true ∧ deepB d = true := by simpa [padOk] using hok
    obtain ⟨x, y, rfl, rfl, hx, hx', hy, hy', _⟩ := rightP_nat hr
    obtain ⟨k, rfl, hk⟩ := deepB_nat hd
    obtain ⟨hu1, _⟩ := pow_small hk
    have a1 := (padU_lo (n := x) hu1).1
    have a2 := (padU_lo (n := y) hu1).1
    rw [padN_in hx hx' hk, padN_in hy hy' hk]
    omega
  have HR0 : Hid (¬ (0 < padN X d ∧ 0 < padN Y d) → padX X Y n d = 0 ∧ padY X Y n d = 0 ∧ padL X Y n d = 0) := fun hn => by
    have : padOk X Y n d = false := by
      cases h : padOk X Y n d with
      | false => rfl
      | true => exact absurd (HR00.out h) hn
    unfold padX padY padL
    rw [this]
    exact ⟨rfl, rfl, rfl⟩
  obtain ⟨u, hu⟩ : ∃ u, u = padN X d := ⟨_, rfl⟩
  obtain ⟨v, hv⟩ : ∃ v, v = padN Y d := ⟨_, rfl⟩
  obtain ⟨zp, hzp⟩ : ∃ v, v = padN z d := ⟨_, rfl⟩
  obtain ⟨RX, hRX⟩ : ∃ z, z = padX X Y n d := ⟨_, rfl⟩
  obtain ⟨RY, hRY⟩ : ∃ z, z = padY X Y n d := ⟨_, rfl⟩
  obtain ⟨rn, hrn⟩ : ∃ z, z = padL X Y n d := ⟨_, rfl⟩
  obtain ⟨RV, hRV⟩ : ∃ z, z = padV X Y V d := ⟨_, rfl⟩
  rw [← hRX, ← hRY, ← hrn, ← hRV] at HPad
  rw [← hu, ← hv, ← hRX, ← hRY, ← hrn, ← hRV] at HSz0
  rw [← hu, ← hv, ← hRX, ← hRY, ← hrn] at HR0
  rw [← hu] at hu0
  rw [← hv] at hv0
  have HPU := hid hu
  have HPV := hid hv
  rw [← hzp] at HZ HRZ
  have HS : Hid (∀ w1 a1 k1 b1 a2 k2 b2, Nums w1 a1 rn k1 RV b1 → Nums w1 a2 rn k2 RV b2 → Calls Try.prog 11 #[.agg #[.int .i64 RX, .int .i64 RY, .slice a1 rn k1], .agg #[.int .i64 RX, .int .i64 RY, .slice a2 rn k2]] w1 fun e w' => e = .returned (.bool true) ∧ Fr (fun _ => False) w1 w') := fun w1 a1 k1 b1 a2 k2 b2 h h' => by
    have := rsame_any RX RY a1 rn k1 RV b1 RX RY a2 rn k2 RV b2 w1 h h'
    rwa [sameV_self] at this
  have HN := hid hN
  clear hu hv hzp hRX hRY hrn hRV c hN HR00
  obtain ⟨W, hW⟩ : ∃ W, W = w.alloc (.cells #[.int .i64 X, .int .i64 Y, .slice a n cap] 25) := ⟨_, rfl⟩
  have F0 : Fr (fun _ => False) w W := by rw [hW]; exact (Fr.refl _ w).alloc _
  have O0 : Blk W w.heap.size #[.int .i64 X, .int .i64 Y, .slice a n cap] 25 := by rw [hW]; exact Blk.new _ _ _
  have HW := hid hW
  clear hW
  cases hbig : decide (4200 < n) with
  | true =>
    as_aux_lemma =>
      go_enter Try.func4, Try.ntmps4
      go_wp2_with fail
      rw [← HW.out]
      refine (first9_any W).mono ?_
      rintro e w1 ⟨rfl, f1⟩
      have P1 := O0.fr f1 (fun h => h)
      have c0 : w1.cell? ⟨w.heap.size, 0, none⟩ = some (.int .i64 X) := by rw [P1.cell]; rfl
      have c1 : w1.cell? ⟨w.heap.size, 1, none⟩ = some (.int .i64 Y) := by rw [P1.cell]; rfl
      have c2 : w1.cell? ⟨w.heap.size, 2, none⟩ = some (.slice a n cap) := by rw [P1.cell]; rfl
      go_wp2_with fail
      refine (big9_any X Y a n cap w1 hlen).mono ?_
      rintro e w2 ⟨rfl, f2⟩
      rw [hbig]
      have F2 := (F0.trans' f1).trans' f2
      clear O0 P1 c0 c1 c2 F0 f1 f2
      go_wp2
      go_ret
      exact ⟨rfl, F2.below (Nat.le_refl _) (fun _ _ h => h)⟩
  | false =>
    by_cases hpos : 0 < u ∧ 0 < v
    · as_aux_lemma =>
      have g1 : decide (0 < u) = true := decide_eq_true hpos.1
      have g2 : decide (0 < v) = true := decide_eq_true hpos.2
      have HSz := hid (fun w1 h => HSz0.out w1 h hpos.1 hpos.2)
      clear hpos HSz0
      go_enter Try.func4, Try.ntmps4
      go_wp2_with fail
      rw [← HW.out]
      refine (first9_any W).mono ?_
      rintro e w1 ⟨rfl, f1⟩
      have P1 := O0.fr f1 (fun h => h)
      have c0 : w1.cell? ⟨w.heap.size, 0, none⟩ = some (.int .i64 X) := by rw [P1.cell]; rfl
      have c1 : w1.cell? ⟨w.heap.size, 1, none⟩ = some (.int .i64 Y) := by rw [P1.cell]; rfl
      have c2 : w1.cell? ⟨w.heap.size, 2, none⟩ = some (.slice a n cap) := by rw [P1.cell]; rfl
      go_wp2_with fail
      refine (big9_any X Y a n cap w1 hlen).mono ?_
      rintro e w2 ⟨rfl, f2⟩
      rw [hbig]
      have F2 := (F0.trans' f1).trans' f2
      have P2 := P1.fr f2 (fun h => h)
      have hs2 := P2.lt
      clear O0 P1 c0 c1 c2 F0 f1 f2
      obtain ⟨W3, hW3⟩ : ∃ W3, W3 = w2.alloc (.cells #[.int .i64 0, .int .i64 0, .slice none 0 0] 25) := ⟨_, rfl⟩
      obtain ⟨bw, hbw⟩ : ∃ bw, bw = w2.heap.size := ⟨_, rfl⟩
      have P3 : Blk W3 w.heap.size #[.int .i64 X, .int .i64 Y, .slice a n cap] 25 := by rw [hW3]; exact P2.alloc _
      have Z3 : Blk W3 bw #[.int .i64 0, .int .i64 0, .slice none 0 0] 25 := by rw [hW3, hbw]; exact Blk.new _ _ _
      have F3 : Fr (fun _ => False) w W3 := by rw [hW3]; exact F2.alloc _
      have hbw1 : w.heap.size < bw := by omega
      have HW3 := hid hW3
      have HBW := hid hbw
      clear hW3 hbw P2 F2
      go_wp2
      rw [← HW3.out, ← HBW.out]
      have c0 : W3.cell? ⟨w.heap.size, 0, none⟩ = some (.int .i64 X) := by rw [P3.cell]; rfl
      have c1 : W3.cell? ⟨w.heap.size, 1, none⟩ = some (.int .i64 Y) := by rw [P3.cell]; rfl
      go_quiet ((go_at_call 16; exact Calls.quiet_of_same (HUV.out _ _)))
      rw [← HPU.out, ← HPV.out]
      clear c0 c1
      obtain ⟨wq, hwq⟩ : ∃ wq, wq = W3.drewN nq := ⟨_, rfl⟩
      rw [← hwq]
      have P4 : Blk wq w.heap.size #[.int .i64 X, .int .i64 Y, .slice a n cap] 25 := by rw [hwq]; exact P3.drewN nq
      have Z4 : Blk wq bw #[.int .i64 0, .int .i64 0, .slice none 0 0] 25 := by rw [hwq]; exact Z3.drewN nq
      have F4 : Fr (fun _ => False) w wq := by rw [hwq]; exact F3.drewN nq
      clear hwq P3 Z3 F3
      have c0 : wq.cell? ⟨w.heap.size, 0, none⟩ = some (.int .i64 X) := by rw [P4.cell]; rfl
      have c1 : wq.cell? ⟨w.heap.size, 1, none⟩ = some (.int .i64 Y) := by rw [P4.cell]; rfl
      have c2 : wq.cell? ⟨w.heap.size, 2, none⟩ = some (.slice a n cap) := by rw [P4.cell]; rfl
      go_wp2_with fail
      clear c0 c1 c2
      refine (HSz.out wq (HN.out.quiet F4)).mono ?_
      rintro e w5 ⟨a3, k3, b3, rfl, n5, hb5, f5⟩
      have F5 := F4.trans' f5
      have P5 := P4.fr f5 (fun h => h)
      have Z5 := Z4.fr f5 (fun h => h)
      have hz4 := Z4.lt
      have hb3 : 0 < rn → bw ≠ b3 := fun h => by have := hb5 h; omega
      have z0 : w5.cell? ⟨bw, 0, none⟩ = some (.int .i64 0) := by rw [Z5.cell]; rfl
      have z1 : w5.cell? ⟨bw, 1, none⟩ = some (.int .i64 0) := by rw [Z5.cell]; rfl
      have z2 : w5.cell? ⟨bw, 2, none⟩ = some (.slice none 0 0) := by rw [Z5.cell]; rfl
      have zf := Z5.thaw
      obtain ⟨w7, hw7⟩ : ∃ w7, w7 = stored3 w5 bw (.int .i64 RX) (.int .i64 RY) (.slice a3 rn k3) := ⟨_, rfl⟩
      have P7 : Blk w7 w.heap.size #[.int .i64 X, .int .i64 Y, .slice a n cap] 25 := by rw [hw7]; exact P5.fr (fr_put3 _ _ _ _ _) (by omega)
      have Z7 : Blk w7 bw #[.int .i64 RX, .int .i64 RY, .slice a3 rn k3] 25 := by rw [hw7]; exact Z5.put3 _ _ _
      have F7 : Fr (fun _ => False) w w7 := by rw [hw7]; exact F5.put3New (by omega) _ _ _
      have N7 : Nums w7 a3 rn k3 RV b3 := by rw [hw7]; exact n5.fr (fr_put3 _ _ _ _ _) (fun h => fun e => hb3 h e.symm)
      have HW7 : Hid (w7 = ((w5.setCell ⟨bw, 0, none⟩ (.int .i64 RX)).setCell ⟨bw, 1, none⟩ (.int .i64 RY)).setCell ⟨bw, 2, none⟩ (.slice a3 rn k3)) := hw7
      clear hw7 P4 Z4 F4 P5 Z5 F5 n5 f5 hb5 hb3
      go_wp2
      rw [← HW7.out]
      clear z0 z1 z2 zf
      have HQ : Hid (∀ wq, Fr (fun _ => False) w7.drew wq → (wq.cell? ⟨w.heap.size, 0, none⟩ = some (.int .i64 X) ∧ wq.cell? ⟨w.heap.size, 1, none⟩ = some (.int .i64 Y) ∧ wq.cell? ⟨w.heap.size, 2, none⟩ = some (.slice a n cap)) ∧ (wq.cell? ⟨bw, 0, none⟩ = some (.int .i64 RX) ∧ wq.cell? ⟨bw, 1, none⟩ = some (.int .i64 RY) ∧ wq.cell? ⟨bw, 2, none⟩ = some (.slice a3 rn k3)) ∧ Hid (Nums wq a n cap V b) ∧ Hid (Nums wq a3 rn k3 RV b3)) := by
        intro wq f
        have f' := (Fr.refl _ w7).drew.trans' f
        have S0 := P7.fr f' (fun h => h)
        have S1 := Z7.fr f' (fun h => h)
        exact ⟨⟨by rw [S0.cell]; rfl, by rw [S0.cell]; rfl, by rw [S0.cell]; rfl⟩, ⟨by rw [S1.cell]; rfl, by rw [S1.cell]; rfl, by rw [S1.cell]; rfl⟩, HN.out.quiet (F7.trans' f'), N7.quiet f'⟩
      clear P7 Z7 N7
      refine weaveS 14 [.eq (Value.int .i64 z), .eq (Value.int .i64 d), .eq (Value.int .i64 zp), .eq (Value.int .i64 z), .eq (Value.int .i64 d), .eq (Value.int .i64 zp), .eq (Value.bool true), .eq (Value.bool true), .eq (Value.agg #[.int .i64 X, .int .i64 Y, .slice a n cap]), .eq (Value.int .i64 d), .planeN RX RY rn RV, .eq (Value.agg #[.int .i64 RX, .int .i64 RY, .slice a3 rn k3]), .eq (Value.bool true), .eq (Value.bool true)] (by kernel_rfl) (by kernel_rfl) ?obls ?tail
      case obls =>
        simp only [List.take_succ_cons, List.take_zero]
        refine ⟨?_, ?_, ?_, ?_, ?_, ?_, ?_, ?_, ?_, ?_, ?_, ?_, ?_, ?_, trivial⟩
        · intro vals wq f h
          simp only [fillA, fillT, List.setIfInBounds_toArray, List.set_cons_succ, List.set_cons_zero, Option.getD_some, Nat.zero_add, Nat.reduceAdd]
          obtain ⟨⟨k0, k1, k2⟩, ⟨l0, l1, l2⟩, HNp, HNw⟩ := HQ.out wq f
          clear h
          go_wp2
          exact ⟨rfl, rfl, _, rfl, Fr.refl _ _, rfl⟩
        · intro vals wq f h
          simp only [fillA, fillT, List.setIfInBounds_toArray, List.set_cons_succ, List.set_cons_zero, Option.getD_some, Nat.zero_add, Nat.reduceAdd]
          obtain ⟨⟨k0, k1, k2⟩, ⟨l0, l1, l2⟩, HNp, HNw⟩ := HQ.out wq f
          clear h
          go_wp2
          exact ⟨rfl, rfl, _, rfl, Fr.refl _ _, rfl⟩
        · intro vals wq f h
          simp only [fillA, fillT, List.setIfInBounds_toArray, List.set_cons_succ, List.set_cons_zero, Option.getD_some, Nat.zero_add, Nat.reduceAdd]
          have h0 : vals 0 = Value.int .i64 z := h 0 (by kernel_rfl)
          rw [h0]
          have h1 : vals 1 = Value.int .i64 d := h 1 (by kernel_rfl)
          rw [h1]
          obtain ⟨⟨k0, k1, k2⟩, ⟨l0, l1, l2⟩, HNp, HNw⟩ := HQ.out wq f
          clear h
          go_wp2_with fail
          refine (HZ.out wq).mono ?_
          rintro e w6 ⟨rfl, rfl⟩
          go_wp2
          exact ⟨rfl, rfl, _, rfl, Fr.refl _ _, rfl⟩
        · intro vals wq f h
          simp only [fillA, fillT, List.setIfInBounds_toArray, List.set_cons_succ, List.set_cons_zero, Option.getD_some, Nat.zero_add, Nat.reduceAdd]
          obtain ⟨⟨k0, k1, k2⟩, ⟨l0, l1, l2⟩, HNp, HNw⟩ := HQ.out wq f
          clear h
          go_wp2
          exact ⟨rfl, rfl, _, rfl, Fr.refl _ _, rfl⟩
        · intro vals wq f h
          simp only [fillA, fillT, List.setIfInBounds_toArray, List.set_cons_succ, List.set_cons_zero, Option.getD_some, Nat.zero_add, Nat.reduceAdd]
          obtain ⟨⟨k0, k1, k2⟩, ⟨l0, l1, l2⟩, HNp, HNw⟩ := HQ.out wq f
          clear h
          go_wp2
          exact ⟨rfl, rfl, _, rfl, Fr.refl _ _, rfl⟩
        · intro vals wq f h
          simp only [fillA, fillT, List.setIfInBounds_toArray, List.set_cons_succ, List.set_cons_zero, Option.getD_some, Nat.zero_add, Nat.reduceAdd]
          have h3 : vals 3 = Value.int .i64 z := h 3 (by kernel_rfl)
          rw [h3]
          have h4 : vals 4 = Value.int .i64 d := h 4 (by kernel_rfl)
          rw [h4]
          obtain ⟨⟨k0, k1, k2⟩, ⟨l0, l1, l2⟩, HNp, HNw⟩ := HQ.out wq f
          clear h
          go_wp2_with fail
          refine (HRZ.out wq).mono ?_
          rintro e w6 ⟨rfl, rfl⟩
          go_wp2
          exact ⟨rfl, rfl, _, rfl, Fr.refl _ _, rfl⟩
        · intro vals wq f h
          simp only [fillA, fillT, List.setIfInBounds_toArray, List.set_cons_succ, List.set_cons_zero, Option.getD_some, Nat.zero_add, Nat.reduceAdd]
          have h2 : vals 2 = Value.int .i64 zp := h 2 (by kernel_rfl)
          rw [h2]
          have h5 : vals 5 = Value.int .i64 zp := h 5 (by kernel_rfl)
          rw [h5]
          obtain ⟨⟨k0, k1, k2⟩, ⟨l0, l1, l2⟩, HNp, HNw⟩ := HQ.out wq f
          clear h
          go_wp2
          exact ⟨rfl, rfl, _, rfl, Fr.refl _ _, by first | rfl | (show Value.bool _ = Value.bool _; simp)⟩
        · intro vals wq f h
          simp only [fillA, fillT, List.setIfInBounds_toArray, List.set_cons_succ, List.set_cons_zero, Option.getD_some, Nat.zero_add, Nat.reduceAdd]
          have h6 : vals 6 = Value.bool true := h 6 (by kernel_rfl)
          rw [h6]
          obtain ⟨⟨k0, k1, k2⟩, ⟨l0, l1, l2⟩, HNp, HNw⟩ := HQ.out wq f
          clear h
          go_wp2
          exact ⟨rfl, rfl, _, rfl, Fr.refl _ _, rfl⟩
        · intro vals wq f h
          simp only [fillA, fillT, List.setIfInBounds_toArray, List.set_cons_succ, List.set_cons_zero, Option.getD_some, Nat.zero_add, Nat.reduceAdd]
          have h7 : vals 7 = Value.bool true := h 7 (by kernel_rfl)
          rw [h7]
          obtain ⟨⟨k0, k1, k2⟩, ⟨l0, l1, l2⟩, HNp, HNw⟩ := HQ.out wq f
          clear h
          go_wp2
          exact ⟨rfl, rfl, _, rfl, Fr.refl _ _, rfl⟩
        · intro vals wq f h
          simp only [fillA, fillT, List.setIfInBounds_toArray, List.set_cons_succ, List.set_cons_zero, Option.getD_some, Nat.zero_add, Nat.reduceAdd]
          have h7 : vals 7 = Value.bool true := h 7 (by kernel_rfl)
          rw [h7]
          obtain ⟨⟨k0, k1, k2⟩, ⟨l0, l1, l2⟩, HNp, HNw⟩ := HQ.out wq f
          clear h
          go_wp2
          exact ⟨rfl, rfl, _, rfl, Fr.refl _ _, rfl⟩
        · intro vals wq f h
          simp only [fillA, fillT, List.setIfInBounds_toArray, List.set_cons_succ, List.set_cons_zero, Option.getD_some, Nat.zero_add, Nat.reduceAdd]
          have h8 : vals 8 = Value.agg #[.int .i64 X, .int .i64 Y, .slice a n cap] := h 8 (by kernel_rfl)
          rw [h8]
          have h9 : vals 9 = Value.int .i64 d := h 9 (by kernel_rfl)
          rw [h9]
          have h7 : vals 7 = Value.bool true := h 7 (by kernel_rfl)
          rw [h7]
          obtain ⟨⟨k0, k1, k2⟩, ⟨l0, l1, l2⟩, HNp, HNw⟩ := HQ.out wq f
          clear h
          go_wp2_with fail
          refine (HPad.out wq HNp.out).mono ?_
          rintro e w6 ⟨a6, cp, b6, rfl, n6, f6⟩
          have HN6 := hid n6
          clear n6
          go_wp2
          exact ⟨rfl, rfl, _, rfl, f6, _, _, _, rfl, HN6.out⟩
        · intro vals wq f h
          simp only [fillA, fillT, List.setIfInBounds_toArray, List.set_cons_succ, List.set_cons_zero, Option.getD_some, Nat.zero_add, Nat.reduceAdd]
          have h7 : vals 7 = Value.bool true := h 7 (by kernel_rfl)
          rw [h7]
          obtain ⟨⟨k0, k1, k2⟩, ⟨l0, l1, l2⟩, HNp, HNw⟩ := HQ.out wq f
          clear h
          go_wp2
          exact ⟨rfl, rfl, _, rfl, Fr.refl _ _, rfl⟩
        · intro vals wq f h
          simp only [fillA, fillT, List.setIfInBounds_toArray, List.set_cons_succ, List.set_cons_zero, Option.getD_some, Nat.zero_add, Nat.reduceAdd]
          obtain ⟨a10, k10, b10, h10, n10⟩ : PlaneN wq (vals 10) RX RY rn RV := h 10 (by kernel_rfl)
          rw [h10]
          have h11 : vals 11 = Value.agg #[.int .i64 RX, .int .i64 RY, .slice a3 rn k3] := h 11 (by kernel_rfl)
          rw [h11]
          have h7 : vals 7 = Value.bool true := h 7 (by kernel_rfl)
          rw [h7]
          obtain ⟨⟨k0, k1, k2⟩, ⟨l0, l1, l2⟩, HNp, HNw⟩ := HQ.out wq f
          clear h
          go_wp2_with fail
          refine (HS.out wq _ _ _ _ _ _ n10 HNw.out).mono ?_
          rintro e w6 ⟨rfl, f6⟩
          go_wp2
          exact ⟨rfl, rfl, _, rfl, f6, rfl⟩
        · intro vals wq f h
          simp only [fillA, fillT, List.setIfInBounds_toArray, List.set_cons_succ, List.set_cons_zero, Option.getD_some, Nat.zero_add, Nat.reduceAdd]
          have h7 : vals 7 = Value.bool true := h 7 (by kernel_rfl)
          rw [h7]
          have h12 : vals 12 = Value.bool true := h 12 (by kernel_rfl)
          rw [h12]
          obtain ⟨⟨k0, k1, k2⟩, ⟨l0, l1, l2⟩, HNp, HNw⟩ := HQ.out wq f
          clear h
          go_wp2
          exact ⟨rfl, rfl, _, rfl, Fr.refl _ _, rfl⟩
      case tail =>
        intro vals wq f h
        simp only [List.take_succ_cons, List.take_zero, fillA, fillT, List.setIfInBounds_toArray, List.set_cons_succ, List.set_cons_zero, List.drop_succ_cons, List.drop_zero, Nat.zero_add, Nat.reduceAdd]
        have h13 : vals 13 = Value.bool true := h 13 (by omega)
        rw [h13]
        clear h h13
        gi_wp2
        go_wp2
        go_ret
        exact ⟨rfl, (F7.trans' ((Fr.refl _ w7).drew.trans' f)).below (Nat.le_refl _) (fun _ _ h => h)⟩
    · by_cases hu1 : 0 < u
      · as_aux_lemma =>
        have g1 : decide (0 < u) = true := decide_eq_true hu1
        have g2 : decide (0 < v) = false := decide_eq_false (fun h => hpos ⟨hu1, h⟩)
        have HR0 := hid (HR0.out hpos)
        obtain ⟨a3, ha3'⟩ : ∃ a3 : Option Addr, a3 = none := ⟨_, rfl⟩
        obtain ⟨k3, hk3'⟩ : ∃ k3 : Nat, k3 = 0 := ⟨_, rfl⟩
        obtain ⟨b3, hb3'⟩ : ∃ b3 : Nat, b3 = 0 := ⟨_, rfl⟩
        have ha3 := hid ha3'
        have hk3 := hid hk3'
        clear hpos HSz0 ha3' hk3' hb3'
        go_enter Try.func4, Try.ntmps4
        go_wp2_with fail
        rw [← HW.out]
        refine (first9_any W).mono ?_
        rintro e w1 ⟨rfl, f1⟩
        have P1 := O0.fr f1 (fun h => h)
        have c0 : w1.cell? ⟨w.heap.size, 0, none⟩ = some (.int .i64 X) := by rw [P1.cell]; rfl
        have c1 : w1.cell? ⟨w.heap.size, 1, none⟩ = some (.int .i64 Y) := by rw [P1.cell]; rfl
        have c2 : w1.cell? ⟨w.heap.size, 2, none⟩ = some (.slice a n cap) := by rw [P1.cell]; rfl
        go_wp2_with fail
        refine (big9_any X Y a n cap w1 hlen).mono ?_
        rintro e w2 ⟨rfl, f2⟩
        rw [hbig]
        have F2 := (F0.trans' f1).trans' f2
        have P2 := P1.fr f2 (fun h => h)
        have hs2 := P2.lt
        clear O0 P1 c0 c1 c2 F0 f1 f2
        obtain ⟨W3, hW3⟩ : ∃ W3, W3 = w2.alloc (.cells #[.int .i64 0, .int .i64 0, .slice none 0 0] 25) := ⟨_, rfl⟩
        obtain ⟨bw, hbw⟩ : ∃ bw, bw = w2.heap.size := ⟨_, rfl⟩
        have P3 : Blk W3 w.heap.size #[.int .i64 X, .int .i64 Y, .slice a n cap] 25 := by rw [hW3]; exact P2.alloc _
        have Z3 : Blk W3 bw #[.int .i64 0, .int .i64 0, .slice none 0 0] 25 := by rw [hW3, hbw]; exact Blk.new _ _ _
        have F3 : Fr (fun _ => False) w W3 := by rw [hW3]; exact F2.alloc _
        have hbw1 : w.heap.size < bw := by omega
        have HW3 := hid hW3
        have HBW := hid hbw
        clear hW3 hbw P2 F2
        go_wp2
        rw [← HW3.out, ← HBW.out]
        have c0 : W3.cell? ⟨w.heap.size, 0, none⟩ = some (.int .i64 X) := by rw [P3.cell]; rfl
        have c1 : W3.cell? ⟨w.heap.size, 1, none⟩ = some (.int .i64 Y) := by rw [P3.cell]; rfl
        go_quiet ((go_at_call 16; exact Calls.quiet_of_same (HUV.out _ _)))
        rw [← HPU.out, ← HPV.out]
        clear c0 c1
        obtain ⟨wq, hwq⟩ : ∃ wq, wq = W3.drewN nq := ⟨_, rfl⟩
        rw [← hwq]
        have P4 : Blk wq w.heap.size #[.int .i64 X, .int .i64 Y, .slice a n cap] 25 := by rw [hwq]; exact P3.drewN nq
        have Z4 : Blk wq bw #[.int .i64 0, .int .i64 0, .slice none 0 0] 25 := by rw [hwq]; exact Z3.drewN nq
        have F4 : Fr (fun _ => False) w wq := by rw [hwq]; exact F3.drewN nq
        clear hwq P3 Z3 F3
        obtain ⟨w7, hw7⟩ : ∃ w7, w7 = wq := ⟨_, rfl⟩
        rw [← hw7] at P4 Z4 F4 ⊢
        have P7 := P4
        have Z7 : Blk w7 bw #[.int .i64 RX, .int .i64 RY, .slice a3 rn k3] 25 := by rw [HR0.out.1, HR0.out.2.1, HR0.out.2.2, ha3.out, hk3.out]; exact Z4
        have F7 := F4
        have N7 : Nums w7 a3 rn k3 RV b3 := by rw [HR0.out.2.2, ha3.out, hk3.out]; exact Nums.nil _ _ _
        clear hw7 P4 Z4 F4
        go_wp2
        have HQ : Hid (∀ wq, Fr (fun _ => False) w7.drew wq → (wq.cell? ⟨w.heap.size, 0, none⟩ = some (.int .i64 X) ∧ wq.cell? ⟨w.heap.size, 1, none⟩ = some (.int .i64 Y) ∧ wq.cell? ⟨w.heap.size, 2, none⟩ = some (.slice a n cap)) ∧ (wq.cell? ⟨bw, 0, none⟩ = some (.int .i64 RX) ∧ wq.cell? ⟨bw, 1, none⟩ = some (.int .i64 RY) ∧ wq.cell? ⟨bw, 2, none⟩ = some (.slice a3 rn k3)) ∧ Hid (Nums wq a n cap V b) ∧ Hid (Nums wq a3 rn k3 RV b3)) := by
          intro wq f
          have f' := (Fr.refl _ w7).drew.trans' f
          have S0 := P7.fr f' (fun h => h)
          have S1 := Z7.fr f' (fun h => h)
          exact ⟨⟨by rw [S0.cell]; rfl, by rw [S0.cell]; rfl, by rw [S0.cell]; rfl⟩, ⟨by rw [S1.cell]; rfl, by rw [S1.cell]; rfl, by rw [S1.cell]; rfl⟩, HN.out.quiet (F7.trans' f'), N7.quiet f'⟩
        clear P7 Z7 N7
        refine weaveS 14 [.eq (Value.int .i64 z), .eq (Value.int .i64 d), .eq (Value.int .i64 zp), .eq (Value.int .i64 z), .eq (Value.int .i64 d), .eq (Value.int .i64 zp), .eq (Value.bool true), .eq (Value.bool true), .eq (Value.agg #[.int .i64 X, .int .i64 Y, .slice a n cap]), .eq (Value.int .i64 d), .planeN RX RY rn RV, .eq (Value.agg #[.int .i64 RX, .int .i64 RY, .slice a3 rn k3]), .eq (Value.bool true), .eq (Value.bool true)] (by kernel_rfl) (by kernel_rfl) ?obls ?tail
        case obls =>
          simp only [List.take_succ_cons, List.take_zero]
          refine ⟨?_, ?_, ?_, ?_, ?_, ?_, ?_, ?_, ?_, ?_, ?_, ?_, ?_, ?_, trivial⟩
          · intro vals wq f h
            simp only [fillA, fillT, List.setIfInBounds_toArray, List.set_cons_succ, List.set_cons_zero, Option.getD_some, Nat.zero_add, Nat.reduceAdd]
            obtain ⟨⟨k0, k1, k2⟩, ⟨l0, l1, l2⟩, HNp, HNw⟩ := HQ.out wq f
            clear h
            go_wp2
            exact ⟨rfl, rfl, _, rfl, Fr.refl _ _, rfl⟩
          · intro vals wq f h
            simp only [fillA, fillT, List.setIfInBounds_toArray, List.set_cons_succ, List.set_cons_zero, Option.getD_some, Nat.zero_add, Nat.reduceAdd]
            obtain ⟨⟨k0, k1, k2⟩, ⟨l0, l1, l2⟩, HNp, HNw⟩ := HQ.out wq f
            clear h
            go_wp2
            exact ⟨rfl, rfl, _, rfl, Fr.refl _ _, rfl⟩
          · intro vals wq f h
            simp only [fillA, fillT, List.setIfInBounds_toArray, List.set_cons_succ, List.set_cons_zero, Option.getD_some, Nat.zero_add, Nat.reduceAdd]
            have h0 : vals 0 = Value.int .i64 z := h 0 (by kernel_rfl)
            rw [h0]
            have h1 : vals 1 = Value.int .i64 d := h 1 (by kernel_rfl)
            rw [h1]
            obtain ⟨⟨k0, k1, k2⟩, ⟨l0, l1, l2⟩, HNp, HNw⟩ := HQ.out wq f
            clear h
            go_wp2_with fail
            refine (HZ.out wq).mono ?_
            rintro e w6 ⟨rfl, rfl⟩
            go_wp2
            exact ⟨rfl, rfl, _, rfl, Fr.refl _ _, rfl⟩
          · intro vals wq f h
            simp only [fillA, fillT, List.setIfInBounds_toArray, List.set_cons_succ, List.set_cons_zero, Option.getD_some, Nat.zero_add, Nat.reduceAdd]
            obtain ⟨⟨k0, k1, k2⟩, ⟨l0, l1, l2⟩, HNp, HNw⟩ := HQ.out wq f
            clear h
            go_wp2
            exact ⟨rfl, rfl, _, rfl, Fr.refl _ _, rfl⟩
          · intro vals wq f h
            simp only [fillA, fillT, List.setIfInBounds_toArray, List.set_cons_succ, List.set_cons_zero, Option.getD_some, Nat.zero_add, Nat.reduceAdd]
            obtain ⟨⟨k0, k1, k2⟩, ⟨l0, l1, l2⟩, HNp, HNw⟩ := HQ.out wq f
            clear h
            go_wp2
            exact ⟨rfl, rfl, _, rfl, Fr.refl _ _, rfl⟩
          · intro vals wq f h
            simp only [fillA, fillT, List.setIfInBounds_toArray, List.set_cons_succ, List.set_cons_zero, Option.getD_some, Nat.zero_add, Nat.reduceAdd]
            have h3 : vals 3 = Value.int .i64 z := h 3 (by kernel_rfl)
            rw [h3]
            have h4 : vals 4 = Value.int .i64 d := h 4 (by kernel_rfl)
            rw [h4]
            obtain ⟨⟨k0, k1, k2⟩, ⟨l0, l1, l2⟩, HNp, HNw⟩ := HQ.out wq f
            clear h
            go_wp2_with fail
            refine (HRZ.out wq).mono ?_
            rintro e w6 ⟨rfl, rfl⟩
            go_wp2
            exact ⟨rfl, rfl, _, rfl, Fr.refl _ _, rfl⟩
          · intro vals wq f h
            simp only [fillA, fillT, List.setIfInBounds_toArray, List.set_cons_succ, List.set_cons_zero, Option.getD_some, Nat.zero_add, Nat.reduceAdd]
            have h2 : vals 2 = Value.int .i64 zp := h 2 (by kernel_rfl)
            rw [h2]
            have h5 : vals 5 = Value.int .i64 zp := h 5 (by kernel_rfl)
            rw [h5]
            obtain ⟨⟨k0, k1, k2⟩, ⟨l0, l1, l2⟩, HNp, HNw⟩ := HQ.out wq f
            clear h
            go_wp2
            exact ⟨rfl, rfl, _, rfl, Fr.refl _ _, by first | rfl | (show Value.bool _ = Value.bool _; simp)⟩
          · intro vals wq f h
            simp only [fillA, fillT, List.setIfInBounds_toArray, List.set_cons_succ, List.set_cons_zero, Option.getD_some, Nat.zero_add, Nat.reduceAdd]
            have h6 : vals 6 = Value.bool true := h 6 (by kernel_rfl)
            rw [h6]
            obtain ⟨⟨k0, k1, k2⟩, ⟨l0, l1, l2⟩, HNp, HNw⟩ := HQ.out wq f
            clear h
            go_wp2
            exact ⟨rfl, rfl, _, rfl, Fr.refl _ _, rfl⟩
          · intro vals wq f h
            simp only [fillA, fillT, List.setIfInBounds_toArray, List.set_cons_succ, List.set_cons_zero, Option.getD_some, Nat.zero_add, Nat.reduceAdd]
            have h7 : vals 7 = Value.bool true := h 7 (by kernel_rfl)
            rw [h7]
            obtain ⟨⟨k0, k1, k2⟩, ⟨l0, l1, l2⟩, HNp, HNw⟩ := HQ.out wq f
            clear h
            go_wp2
            exact ⟨rfl, rfl, _, rfl, Fr.refl _ _, rfl⟩
          · intro vals wq f h
            simp only [fillA, fillT, List.setIfInBounds_toArray, List.set_cons_succ, List.set_cons_zero, Option.getD_some, Nat.zero_add, Nat.reduceAdd]
            have h7 : vals 7 = Value.bool true := h 7 (by kernel_rfl)
            rw [h7]
            obtain ⟨⟨k0, k1, k2⟩, ⟨l0, l1, l2⟩, HNp, HNw⟩ := HQ.out wq f
            clear h
            go_wp2
            exact ⟨rfl, rfl, _, rfl, Fr.refl _ _, rfl⟩
          · intro vals wq f h
            simp only [fillA, fillT, List.setIfInBounds_toArray, List.set_cons_succ, List.set_cons_zero, Option.getD_some, Nat.zero_add, Nat.reduceAdd]
            have h8 : vals 8 = Value.agg #[.int .i64 X, .int .i64 Y, .slice a n cap] := h 8 (by kernel_rfl)
            rw [h8]
            have h9 : vals 9 = Value.int .i64 d := h 9 (by kernel_rfl)
            rw [h9]
            have h7 : vals 7 = Value.bool true := h 7 (by kernel_rfl)
            rw [h7]
            obtain ⟨⟨k0, k1, k2⟩, ⟨l0, l1, l2⟩, HNp, HNw⟩ := HQ.out wq f
            clear h
            go_wp2_with fail
            refine (HPad.out wq HNp.out).mono ?_
            rintro e w6 ⟨a6, cp, b6, rfl, n6, f6⟩
            have HN6 := hid n6
            clear n6
            go_wp2
            exact ⟨rfl, rfl, _, rfl, f6, _, _, _, rfl, HN6.out⟩
          · intro vals wq f h
            simp only [fillA, fillT, List.setIfInBounds_toArray, List.set_cons_succ, List.set_cons_zero, Option.getD_some, Nat.zero_add, Nat.reduceAdd]
            have h7 : vals 7 = Value.bool true := h 7 (by kernel_rfl)
            rw [h7]
            obtain ⟨⟨k0, k1, k2⟩, ⟨l0, l1, l2⟩, HNp, HNw⟩ := HQ.out wq f
            clear h
            go_wp2
            exact ⟨rfl, rfl, _, rfl, Fr.refl _ _, rfl⟩
          · intro vals wq f h
            simp only [fillA, fillT, List.setIfInBounds_toArray, List.set_cons_succ, List.set_cons_zero, Option.getD_some, Nat.zero_add, Nat.reduceAdd]
            obtain ⟨a10, k10, b10, h10, n10⟩ : PlaneN wq (vals 10) RX RY rn RV := h 10 (by kernel_rfl)
            rw [h10]
            have h11 : vals 11 = Value.agg #[.int .i64 RX, .int .i64 RY, .slice a3 rn k3] := h 11 (by kernel_rfl)
            rw [h11]
            have h7 : vals 7 = Value.bool true := h 7 (by kernel_rfl)
            rw [h7]
            obtain ⟨⟨k0, k1, k2⟩, ⟨l0, l1, l2⟩, HNp, HNw⟩ := HQ.out wq f
            clear h
            go_wp2_with fail
            refine (HS.out wq _ _ _ _ _ _ n10 HNw.out).mono ?_
            rintro e w6 ⟨rfl, f6⟩
            go_wp2
            exact ⟨rfl, rfl, _, rfl, f6, rfl⟩
          · intro vals wq f h
            simp only [fillA, fillT, List.setIfInBounds_toArray, List.set_cons_succ, List.set_cons_zero, Option.getD_some, Nat.zero_add, Nat.reduceAdd]
            have h7 : vals 7 = Value.bool true := h 7 (by kernel_rfl)
            rw [h7]
            have h12 : vals 12 = Value.bool true := h 12 (by kernel_rfl)
            rw [h12]
            obtain ⟨⟨k0, k1, k2⟩, ⟨l0, l1, l2⟩, HNp, HNw⟩ := HQ.out wq f
            clear h
            go_wp2
            exact ⟨rfl, rfl, _, rfl, Fr.refl _ _, rfl⟩
        case tail =>
          intro vals wq f h
          simp only [List.take_succ_cons, List.take_zero, fillA, fillT, List.setIfInBounds_toArray, List.set_cons_succ, List.set_cons_zero, List.drop_succ_cons, List.drop_zero, Nat.zero_add, Nat.reduceAdd]
          have h13 : vals 13 = Value.bool true := h 13 (by omega)
          rw [h13]
          clear h h13
          gi_wp2
          go_wp2
          go_ret
          exact ⟨rfl, (F7.trans' ((Fr.refl _ w7).drew.trans' f)).below (Nat.le_refl _) (fun _ _ h => h)⟩
      · as_aux_lemma =>
        have g1 : decide (0 < u) = false := decide_eq_false hu1
        have HR0 := hid (HR0.out hpos)
        obtain ⟨a3, ha3'⟩ : ∃ a3 : Option Addr, a3 = none := ⟨_, rfl⟩
        obtain ⟨k3, hk3'⟩ : ∃ k3 : Nat, k3 = 0 := ⟨_, rfl⟩
        obtain ⟨b3, hb3'⟩ : ∃ b3 : Nat, b3 = 0 := ⟨_, rfl⟩
        have ha3 := hid ha3'
        have hk3 := hid hk3'
        clear hpos HSz0 ha3' hk3' hb3'
        go_enter Try.func4, Try.ntmps4
        go_wp2_with fail
        rw [← HW.out]
        refine (first9_any W).mono ?_
        rintro e w1 ⟨rfl, f1⟩
        have P1 := O0.fr f1 (fun h => h)
        have c0 : w1.cell? ⟨w.heap.size, 0, none⟩ = some (.int .i64 X) := by rw [P1.cell]; rfl
        have c1 : w1.cell? ⟨w.heap.size, 1, none⟩ = some (.int .i64 Y) := by rw [P1.cell]; rfl
        have c2 : w1.cell? ⟨w.heap.size, 2, none⟩ = some (.slice a n cap) := by rw [P1.cell]; rfl
        go_wp2_with fail
        refine (big9_any X Y a n cap w1 hlen).mono ?_
        rintro e w2 ⟨rfl, f2⟩
        rw [hbig]
        have F2 := (F0.trans' f1).trans' f2
        have P2 := P1.fr f2 (fun h => h)
        have hs2 := P2.lt
        clear O0 P1 c0 c1 c2 F0 f1 f2
        obtain ⟨W3, hW3⟩ : ∃ W3, W3 = w2.alloc (.cells #[.int .i64 0, .int .i64 0, .slice none 0 0] 25) := ⟨_, rfl⟩
        obtain ⟨bw, hbw⟩ : ∃ bw, bw = w2.heap.size := ⟨_, rfl⟩
        have P3 : Blk W3 w.heap.size #[.int .i64 X, .int .i64 Y, .slice a n cap] 25 := by rw [hW3]; exact P2.alloc _
        have Z3 : Blk W3 bw #[.int .i64 0, .int .i64 0, .slice none 0 0] 25 := by rw [hW3, hbw]; exact Blk.new _ _ _
        have F3 : Fr (fun _ => False) w W3 := by rw [hW3]; exact F2.alloc _
        have hbw1 : w.heap.size < bw := by omega
        have HW3 := hid hW3
        have HBW := hid hbw
        clear hW3 hbw P2 F2
        go_wp2
        rw [← HW3.out, ← HBW.out]
        have c0 : W3.cell? ⟨w.heap.size, 0, none⟩ = some (.int .i64 X) := by rw [P3.cell]; rfl
        have c1 : W3.cell? ⟨w.heap.size, 1, none⟩ = some (.int .i64 Y) := by rw [P3.cell]; rfl
        go_quiet ((go_at_call 16; exact Calls.quiet_of_same (HUV.out _ _)))
        rw [← HPU.out, ← HPV.out]
        clear c0 c1
        obtain ⟨wq, hwq⟩ : ∃ wq, wq = W3.drewN nq := ⟨_, rfl⟩
        rw [← hwq]
        have P4 : Blk wq w.heap.size #[.int .i64 X, .int .i64 Y, .slice a n cap] 25 := by rw [hwq]; exact P3.drewN nq
        have Z4 : Blk wq bw #[.int .i64 0, .int .i64 0, .slice none 0 0] 25 := by rw [hwq]; exact Z3.drewN nq
        have F4 : Fr (fun _ => False) w wq := by rw [hwq]; exact F3.drewN nq
        clear hwq P3 Z3 F3
        obtain ⟨w7, hw7⟩ : ∃ w7, w7 = wq := ⟨_, rfl⟩
        rw [← hw7] at P4 Z4 F4 ⊢
        have P7 := P4
        have Z7 : Blk w7 bw #[.int .i64 RX, .int .i64 RY, .slice a3 rn k3] 25 := by rw [HR0.out.1, HR0.out.2.1, HR0.out.2.2, ha3.out, hk3.out]; exact Z4
        have F7 := F4
        have N7 : Nums w7 a3 rn k3 RV b3 := by rw [HR0.out.2.2, ha3.out, hk3.out]; exact Nums.nil _ _ _
        clear hw7 P4 Z4 F4
        go_wp2
        have HQ : Hid (∀ wq, Fr (fun _ => False) w7.drew wq → (wq.cell? ⟨w.heap.size, 0, none⟩ = some (.int .i64 X) ∧ wq.cell? ⟨w.heap.size, 1, none⟩ = some (.int .i64 Y) ∧ wq.cell? ⟨w.heap.size, 2, none⟩ = some (.slice a n cap)) ∧ (wq.cell? ⟨bw, 0, none⟩ = some (.int .i64 RX) ∧ wq.cell? ⟨bw, 1, none⟩ = some (.int .i64 RY) ∧ wq.cell? ⟨bw, 2, none⟩ = some (.slice a3 rn k3)) ∧ Hid (Nums wq a n cap V b) ∧ Hid (Nums wq a3 rn k3 RV b3)) := by
          intro wq f
          have f' := (Fr.refl _ w7).drew.trans' f
          have S0 := P7.fr f' (fun h => h)
          have S1 := Z7.fr f' (fun h => h)
          exact ⟨⟨by rw [S0.cell]; rfl, by rw [S0.cell]; rfl, by rw [S0.cell]; rfl⟩, ⟨by rw [S1.cell]; rfl, by rw [S1.cell]; rfl, by rw [S1.cell]; rfl⟩, HN.out.quiet (F7.trans' f'), N7.quiet f'⟩
        clear P7 Z7 N7
        refine weaveS 14 [.eq (Value.int .i64 z), .eq (Value.int .i64 d), .eq (Value.int .i64 zp), .eq (Value.int .i64 z), .eq (Value.int .i64 d), .eq (Value.int .i64 zp), .eq (Value.bool true), .eq (Value.bool true), .eq (Value.agg #[.int .i64 X, .int .i64 Y, .slice a n cap]), .eq (Value.int .i64 d), .planeN RX RY rn RV, .eq (Value.agg #[.int .i64 RX, .int .i64 RY, .slice a3 rn k3]), .eq (Value.bool true), .eq (Value.bool true)] (by kernel_rfl) (by kernel_rfl) ?obls ?tail
        case obls =>
          simp only [List.take_succ_cons, List.take_zero]
          refine ⟨?_, ?_, ?_, ?_, ?_, ?_, ?_, ?_, ?_, ?_, ?_, ?_, ?_, ?_, trivial⟩
          · intro vals wq f h
            simp only [fillA, fillT, List.setIfInBounds_toArray, List.set_cons_succ, List.set_cons_zero, Option.getD_some, Nat.zero_add, Nat.reduceAdd]
            obtain ⟨⟨k0, k1, k2⟩, ⟨l0, l1, l2⟩, HNp, HNw⟩ := HQ.out wq f
            clear h
            go_wp2
            exact ⟨rfl, rfl, _, rfl, Fr.refl _ _, rfl⟩
          · intro vals wq f h
            simp only [fillA, fillT, List.setIfInBounds_toArray, List.set_cons_succ, List.set_cons_zero, Option.getD_some, Nat.zero_add, Nat.reduceAdd]
            obtain ⟨⟨k0, k1, k2⟩, ⟨l0, l1, l2⟩, HNp, HNw⟩ := HQ.out wq f
            clear h
            go_wp2
            exact ⟨rfl, rfl, _, rfl, Fr.refl _ _, rfl⟩
          · intro vals wq f h
            simp only [fillA, fillT, List.setIfInBounds_toArray, List.set_cons_succ, List.set_cons_zero, Option.getD_some, Nat.zero_add, Nat.reduceAdd]
            have h0 : vals 0 = Value.int .i64 z := h 0 (by kernel_rfl)
            rw [h0]
            have h1 : vals 1 = Value.int .i64 d := h 1 (by kernel_rfl)
            rw [h1]
            obtain ⟨⟨k0, k1, k2⟩, ⟨l0, l1, l2⟩, HNp, HNw⟩ := HQ.out wq f
            clear h
            go_wp2_with fail
            refine (HZ.out wq).mono ?_
            rintro e w6 ⟨rfl, rfl⟩
            go_wp2
            exact ⟨rfl, rfl, _, rfl, Fr.refl _ _, rfl⟩
          · intro vals wq f h
            simp only [fillA, fillT, List.setIfInBounds_toArray, List.set_cons_succ, List.set_cons_zero, Option.getD_some, Nat.zero_add, Nat.reduceAdd]
            obtain ⟨⟨k0, k1, k2⟩, ⟨l0, l1, l2⟩, HNp, HNw⟩ := HQ.out wq f
            clear h
            go_wp2
            exact ⟨rfl, rfl, _, rfl, Fr.refl _ _, rfl⟩
          · intro vals wq f h
            simp only [fillA, fillT, List.setIfInBounds_toArray, List.set_cons_succ, List.set_cons_zero, Option.getD_some, Nat.zero_add, Nat.reduceAdd]
            obtain ⟨⟨k0, k1, k2⟩, ⟨l0, l1, l2⟩, HNp, HNw⟩ := HQ.out wq f
            clear h
            go_wp2
            exact ⟨rfl, rfl, _, rfl, Fr.refl _ _, rfl⟩
          · intro vals wq f h
            simp only [fillA, fillT, List.setIfInBounds_toArray, List.set_cons_succ, List.set_cons_zero, Option.getD_some, Nat.zero_add, Nat.reduceAdd]
            have h3 : vals 3 = Value.int .i64 z := h 3 (by kernel_rfl)
            rw [h3]
            have h4 : vals 4 = Value.int .i64 d := h 4 (by kernel_rfl)
            rw [h4]
            obtain ⟨⟨k0, k1, k2⟩, ⟨l0, l1, l2⟩, HNp, HNw⟩ := HQ.out wq f
            clear h
            go_wp2_with fail
            refine (HRZ.out wq).mono ?_
            rintro e w6 ⟨rfl, rfl⟩
            go_wp2
            exact ⟨rfl, rfl, _, rfl, Fr.refl _ _, rfl⟩
          · intro vals wq f h
            simp only [fillA, fillT, List.setIfInBounds_toArray, List.set_cons_succ, List.set_cons_zero, Option.getD_some, Nat.zero_add, Nat.reduceAdd]
            have h2 : vals 2 = Value.int .i64 zp := h 2 (by kernel_rfl)
            rw [h2]
            have h5 : vals 5 = Value.int .i64 zp := h 5 (by kernel_rfl)
            rw [h5]
            obtain ⟨⟨k0, k1, k2⟩, ⟨l0, l1, l2⟩, HNp, HNw⟩ := HQ.out wq f
            clear h
            go_wp2
            exact ⟨rfl, rfl, _, rfl, Fr.refl _ _, by first | rfl | (show Value.bool _ = Value.bool _; simp)⟩
          · intro vals wq f h
            simp only [fillA, fillT, List.setIfInBounds_toArray, List.set_cons_succ, List.set_cons_zero, Option.getD_some, Nat.zero_add, Nat.reduceAdd]
            have h6 : vals 6 = Value.bool true := h 6 (by kernel_rfl)
            rw [h6]
            obtain ⟨⟨k0, k1, k2⟩, ⟨l0, l1, l2⟩, HNp, HNw⟩ := HQ.out wq f
            clear h
            go_wp2
            exact ⟨rfl, rfl, _, rfl, Fr.refl _ _, rfl⟩
          · intro vals wq f h
            simp only [fillA, fillT, List.setIfInBounds_toArray, List.set_cons_succ, List.set_cons_zero, Option.getD_some, Nat.zero_add, Nat.reduceAdd]
            have h7 : vals 7 = Value.bool true := h 7 (by kernel_rfl)
            rw [h7]
            obtain ⟨⟨k0, k1, k2⟩, ⟨l0, l1, l2⟩, HNp, HNw⟩ := HQ.out wq f
            clear h
            go_wp2
            exact ⟨rfl, rfl, _, rfl, Fr.refl _ _, rfl⟩
          · intro vals wq f h
            simp only [fillA, fillT, List.setIfInBounds_toArray, List.set_cons_succ, List.set_cons_zero, Option.getD_some, Nat.zero_add, Nat.reduceAdd]
            have h7 : vals 7 = Value.bool true := h 7 (by kernel_rfl)
            rw [h7]
            obtain ⟨⟨k0, k1, k2⟩, ⟨l0, l1, l2⟩, HNp, HNw⟩ := HQ.out wq f
            clear h
            go_wp2
            exact ⟨rfl, rfl, _, rfl, Fr.refl _ _, rfl⟩
          · intro vals wq f h
            simp only [fillA, fillT, List.setIfInBounds_toArray, List.set_cons_succ, List.set_cons_zero, Option.getD_some, Nat.zero_add, Nat.reduceAdd]
            have h8 : vals 8 = Value.agg #[.int .i64 X, .int .i64 Y, .slice a n cap] := h 8 (by kernel_rfl)
            rw [h8]
            have h9 : vals 9 = Value.int .i64 d := h 9 (by kernel_rfl)
            rw [h9]
            have h7 : vals 7 = Value.bool true := h 7 (by kernel_rfl)
            rw [h7]
            obtain ⟨⟨k0, k1, k2⟩, ⟨l0, l1, l2⟩, HNp, HNw⟩ := HQ.out wq f
            clear h
            go_wp2_with fail
            refine (HPad.out wq HNp.out).mono ?_
            rintro e w6 ⟨a6, cp, b6, rfl, n6, f6⟩
            have HN6 := hid n6
            clear n6
            go_wp2
            exact ⟨rfl, rfl, _, rfl, f6, _, _, _, rfl, HN6.out⟩
          · intro vals wq f h
            simp only [fillA, fillT, List.setIfInBounds_toArray, List.set_cons_succ, List.set_cons_zero, Option.getD_some, Nat.zero_add, Nat.reduceAdd]
            have h7 : vals 7 = Value.bool true := h 7 (by kernel_rfl)
            rw [h7]
            obtain ⟨⟨k0, k1, k2⟩, ⟨l0, l1, l2⟩, HNp, HNw⟩ := HQ.out wq f
            clear h
            go_wp2
            exact ⟨rfl, rfl, _, rfl, Fr.refl _ _, rfl⟩
          · intro vals wq f h
            simp only [fillA, fillT, List.setIfInBounds_toArray, List.set_cons_succ, List.set_cons_zero, Option.getD_some, Nat.zero_add, Nat.reduceAdd]
            obtain ⟨a10, k10, b10, h10, n10⟩ : PlaneN wq (vals 10) RX RY rn RV := h 10 (by kernel_rfl)
            rw [h10]
            have h11 : vals 11 = Value.agg #[.int .i64 RX, .int .i64 RY, .slice a3 rn k3] := h 11 (by kernel_rfl)
            rw [h11]
            have h7 : vals 7 = Value.bool true := h 7 (by kernel_rfl)
            rw [h7]
            obtain ⟨⟨k0, k1, k2⟩, ⟨l0, l1, l2⟩, HNp, HNw⟩ := HQ.out wq f
            clear h
            go_wp2_with fail
            refine (HS.out wq _ _ _ _ _ _ n10 HNw.out).mono ?_
            rintro e w6 ⟨rfl, f6⟩
            go_wp2
            exact ⟨rfl, rfl, _, rfl, f6, rfl⟩
          · intro vals wq f h
            simp only [fillA, fillT, List.setIfInBounds_toArray, List.set_cons_succ, List.set_cons_zero, Option.getD_some, Nat.zero_add, Nat.reduceAdd]
            have h7 : vals 7 = Value.bool true := h 7 (by kernel_rfl)
            rw [h7]
            have h12 : vals 12 = Value.bool true := h 12 (by kernel_rfl)
            rw [h12]
            obtain ⟨⟨k0, k1, k2⟩, ⟨l0, l1, l2⟩, HNp, HNw⟩ := HQ.out wq f
            clear h
            go_wp2
            exact ⟨rfl, rfl, _, rfl, Fr.refl _ _, rfl⟩
        case tail =>
          intro vals wq f h
          simp only [List.take_succ_cons, List.take_zero, fillA, fillT, List.setIfInBounds_toArray, List.set_cons_succ, List.set_cons_zero, List.drop_succ_cons, List.drop_zero, Nat.zero_add, Nat.reduceAdd]
          have h13 : vals 13 = Value.bool true := h 13 (by omega)
          rw [h13]
          clear h h13
          gi_wp2
          go_wp2
          go_ret
          exact ⟨rfl, (F7.trans' ((Fr.refl _ w7).drew.trans' f)).below (Nat.le_refl _) (fun _ _ h => h)⟩
end Go.Proofs.Ytonalomagfekaaa
