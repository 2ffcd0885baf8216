/-
  BandsHalves: its walk.
-/
import Derived.Test.YtgmainbgliejhaaFirst10
namespace Go.Proofs.Ytgmainbgliejhaa
open Go.RowKit

/-- A list of bands, as a value. -/
def ListAt (w : World) (v : Value) (n : Nat) (L : Nat → BandN) : Prop := ∃ a cap b, v = .slice a n cap ∧ Bds w a n cap L b
theorem ListAt.quiet {w w' : World} {v : Value} {n : Nat} {L : Nat → BandN} (h : ListAt w v n L) (f : Fr (fun _ => False) w w') : ListAt w' v n L := by
  obtain ⟨a, cap, b, e, hB⟩ := h
  exact ⟨a, cap, b, e, hB.quiet f⟩
def StayP.list (n : Nat) (L : Nat → BandN) : StayP := ⟨fun v w => ListAt w v n L, fun h f => h.quiet f⟩
theorem fits_shl {s d : Nat} (hs : 1 ≤ s) : FitsN d (s * 2 ^ d) := ⟨Nat.mul_pos hs (Nat.two_pow_pos d), Nat.mul_mod_left _ _⟩

set_option maxRecDepth 100000 in
set_option maxHeartbeats 4000000 in
theorem halves10_walk (a0 a1 a2 : Nat) (h0 : a0 < 256) (h1 : a1 < 256) (h2 : a2 < 256) (w : World) :
    Calls Try.prog 6 #[.int .u8 (a0 : Int), .int .u8 (a1 : Int), .int .u8 (a2 : Int)] w fun e w' => e = .returned (.bool true) ∧ Below w.heap.size w w' := by
  obtain ⟨d, hd⟩ : ∃ d, a2 % 7 = d := ⟨_, rfl⟩
  obtain ⟨r0, hr0⟩ : ∃ r, a0 % 16 = r := ⟨_, rfl⟩
  obtain ⟨r1, hr1⟩ : ∃ r, a1 % 16 = r := ⟨_, rfl⟩
  have hdI : (a2 : Int) % 7 = (d : Int) := by omega
  have hr0I : (a0 : Int) % 16 = (r0 : Int) := by omega
  have hr1I : (a1 : Int) % 16 = (r1 : Int) := by omega
  have hd6 : d ≤ 6 := by omega
  have hr0' : r0 < 16 := by omega
  have hr1' : r1 < 16 := by omega
  obtain ⟨s0, hs0⟩ : ∃ s, 1 + r0 = s := ⟨_, rfl⟩
  obtain ⟨s1, hs1⟩ : ∃ s, 1 + r1 = s := ⟨_, rfl⟩
  have hs0I : 1 + (r0 : Int) = (s0 : Int) := by omega
  have hs1I : 1 + (r1 : Int) = (s1 : Int) := by omega
  obtain ⟨X, hX⟩ : ∃ X, s0 * 2 ^ d = X := ⟨_, rfl⟩
  obtain ⟨Y, hY⟩ : ∃ Y, s1 * 2 ^ d = Y := ⟨_, rfl⟩
  have hXI : (s0 : Int) * 2 ^ d = (X : Int) := by rw [← hX]; simp
  have hYI : (s1 : Int) * 2 ^ d = (Y : Int) := by rw [← hY]; simp
  have hX' : X ≤ 1024 := by rw [← hX]; exact Nat.mul_le_mul (show s0 ≤ 16 by omega) (pow_small hd6).2
  have hY' : Y ≤ 1024 := by rw [← hY]; exact Nat.mul_le_mul (show s1 ≤ 16 by omega) (pow_small hd6).2
  have fX : FitsN d X := by rw [← hX]; exact fits_shl (by omega)
  have fY : FitsN d Y := by rw [← hY]; exact fits_shl (by omega)
  have hok := bandsOk_of hX' hY' hd6 fX fY
  obtain ⟨n, hn⟩ : ∃ n, 3 * d + 1 = n := ⟨_, rfl⟩
  have hbn : bandsN X Y d = n := by rw [bandsN_ok hok, ← hn]; rfl
  have hcnt : countB d = (n : Int) := by rw [countB, if_pos (by omega)]; omega
  have HLi : Hid (∀ w1, Calls Try.prog 10 #[.int .i64 (X : Int), .int .i64 (Y : Int), .int .i64 (d : Int)] w1 fun e w' => ListMade w1 w' e n (bandAt d X Y)) := fun w1 => by
    have := blist_any X Y d w1
    rw [hbn] at this
    exact this
  have HSm : Hid (∀ k, k < n → (bandAt d X Y k).level ≤ 6 ∧ (bandAt d X Y k).orient ≤ 3 ∧ (bandAt d X Y k).x + (bandAt d X Y k).w ≤ X ∧ (bandAt d X Y k).y + (bandAt d X Y k).h ≤ Y ∧ 1 ≤ (bandAt d X Y k).w ∧ 1 ≤ (bandAt d X Y k).h) := fun k hk => bandAt_small fX fY hd6 (by omega)
  have HPa : Hid (∀ k, k < n → 4 ≤ k → 2 ≤ (bandAt d X Y k).level ∧ ((bandAt d X Y (k - 3)).level = (bandAt d X Y k).level - 1 ∧ (bandAt d X Y (k - 3)).orient = (bandAt d X Y k).orient) ∧ 2 * (bandAt d X Y (k - 3)).w = (bandAt d X Y k).w ∧ 2 * (bandAt d X Y (k - 3)).h = (bandAt d X Y k).h ∧ 2 * (bandAt d X Y (k - 3)).x = (bandAt d X Y k).x ∧ 2 * (bandAt d X Y (k - 3)).y = (bandAt d X Y k).y) := fun k hk h4 => ⟨level_two.2 h4, (parent_iff h4).2 rfl, parent_half fX fY h4 (by omega)⟩
  have hn19 : n ≤ 19 := by omega
  clear hd hr0 hr1 hs0 hs1 hX hY fX fY hok hbn hn
  go_enter Try.func6, Try.ntmps6
  go_wp2_with fail
  refine (first10_any w).mono ?_
  rintro e w1 ⟨rfl, F1⟩
  go_wp2
  refine weaveS 14 [.eq (Value.int .u8 (a0 : Int)), .eq (Value.int .u8 ((a0 : Int) % 16)), .eq (Value.int .i64 (r0 : Int)), .eq (Value.int .i64 (s0 : Int)), .eq (Value.int .i64 (d : Int)), .eq (Value.int .i64 (X : Int)), .eq (Value.int .u8 (a1 : Int)), .eq (Value.int .u8 ((a1 : Int) % 16)), .eq (Value.int .i64 (r1 : Int)), .eq (Value.int .i64 (s1 : Int)), .eq (Value.int .i64 (d : Int)), .eq (Value.int .i64 (Y : Int)), .eq (Value.int .i64 (d : Int)), .list n (bandAt d X Y)] (by kernel_rfl) (by kernel_rfl) ?obls ?tail
  case obls =>
    simp only [List.take_succ_cons, List.take_zero]
    refine ⟨?_, ?_, ?_, ?_, ?_, ?_, ?_, ?_, ?_, ?_, ?_, ?_, ?_, ?_, trivial⟩
    · intro vals wq f h
      simp only [fillA, fillT, List.setIfInBounds_toArray, List.set_cons_succ, List.set_cons_zero, Option.getD_some, Nat.zero_add, Nat.reduceAdd]
      clear h
      go_wp2
      exact ⟨rfl, rfl, _, rfl, Fr.refl _ _, rfl⟩
    · intro vals wq f h
      simp only [fillA, fillT, List.setIfInBounds_toArray, List.set_cons_succ, List.set_cons_zero, Option.getD_some, Nat.zero_add, Nat.reduceAdd]
      have h0 : vals 0 = Value.int .u8 (a0 : Int) := h 0 (by kernel_rfl)
      rw [h0]
      clear h
      go_wp2
      exact ⟨rfl, rfl, _, rfl, Fr.refl _ _, rfl⟩
    · intro vals wq f h
      simp only [fillA, fillT, List.setIfInBounds_toArray, List.set_cons_succ, List.set_cons_zero, Option.getD_some, Nat.zero_add, Nat.reduceAdd]
      have h1 : vals 1 = Value.int .u8 ((a0 : Int) % 16) := h 1 (by kernel_rfl)
      rw [h1]
      clear h
      go_wp2
      exact ⟨rfl, rfl, _, rfl, Fr.refl _ _, rfl⟩
    · intro vals wq f h
      simp only [fillA, fillT, List.setIfInBounds_toArray, List.set_cons_succ, List.set_cons_zero, Option.getD_some, Nat.zero_add, Nat.reduceAdd]
      have h2 : vals 2 = Value.int .i64 (r0 : Int) := h 2 (by kernel_rfl)
      rw [h2]
      clear h
      go_wp2
      exact ⟨rfl, rfl, _, rfl, Fr.refl _ _, rfl⟩
    · intro vals wq f h
      simp only [fillA, fillT, List.setIfInBounds_toArray, List.set_cons_succ, List.set_cons_zero, Option.getD_some, Nat.zero_add, Nat.reduceAdd]
      clear h
      go_wp2
      exact ⟨rfl, rfl, _, rfl, Fr.refl _ _, rfl⟩
    · intro vals wq f h
      simp only [fillA, fillT, List.setIfInBounds_toArray, List.set_cons_succ, List.set_cons_zero, Option.getD_some, Nat.zero_add, Nat.reduceAdd]
      have h3 : vals 3 = Value.int .i64 (s0 : Int) := h 3 (by kernel_rfl)
      rw [h3]
      have h4 : vals 4 = Value.int .i64 (d : Int) := h 4 (by kernel_rfl)
      rw [h4]
      clear h
      go_wp2
      exact ⟨rfl, rfl, _, rfl, Fr.refl _ _, rfl⟩
    · intro vals wq f h
      simp only [fillA, fillT, List.setIfInBounds_toArray, List.set_cons_succ, List.set_cons_zero, Option.getD_some, Nat.zero_add, Nat.reduceAdd]
      clear h
      go_wp2
      exact ⟨rfl, rfl, _, rfl, Fr.refl _ _, rfl⟩
    · intro vals wq f h
      simp only [fillA, fillT, List.setIfInBounds_toArray, List.set_cons_succ, List.set_cons_zero, Option.getD_some, Nat.zero_add, Nat.reduceAdd]
      have h6 : vals 6 = Value.int .u8 (a1 : Int) := h 6 (by kernel_rfl)
      rw [h6]
      clear h
      go_wp2
      exact ⟨rfl, rfl, _, rfl, Fr.refl _ _, rfl⟩
    · intro vals wq f h
      simp only [fillA, fillT, List.setIfInBounds_toArray, List.set_cons_succ, List.set_cons_zero, Option.getD_some, Nat.zero_add, Nat.reduceAdd]
      have h7 : vals 7 = Value.int .u8 ((a1 : Int) % 16) := h 7 (by kernel_rfl)
      rw [h7]
      clear h
      go_wp2
      exact ⟨rfl, rfl, _, rfl, Fr.refl _ _, rfl⟩
    · intro vals wq f h
      simp only [fillA, fillT, List.setIfInBounds_toArray, List.set_cons_succ, List.set_cons_zero, Option.getD_some, Nat.zero_add, Nat.reduceAdd]
      have h8 : vals 8 = Value.int .i64 (r1 : Int) := h 8 (by kernel_rfl)
      rw [h8]
      clear h
      go_wp2
      exact ⟨rfl, rfl, _, rfl, Fr.refl _ _, rfl⟩
    · intro vals wq f h
      simp only [fillA, fillT, List.setIfInBounds_toArray, List.set_cons_succ, List.set_cons_zero, Option.getD_some, Nat.zero_add, Nat.reduceAdd]
      clear h
      go_wp2
      exact ⟨rfl, rfl, _, rfl, Fr.refl _ _, rfl⟩
    · intro vals wq f h
      simp only [fillA, fillT, List.setIfInBounds_toArray, List.set_cons_succ, List.set_cons_zero, Option.getD_some, Nat.zero_add, Nat.reduceAdd]
      have h9 : vals 9 = Value.int .i64 (s1 : Int) := h 9 (by kernel_rfl)
      rw [h9]
      have h10 : vals 10 = Value.int .i64 (d : Int) := h 10 (by kernel_rfl)
      rw [h10]
      clear h
      go_wp2
      exact ⟨rfl, rfl, _, rfl, Fr.refl _ _, rfl⟩
    · intro vals wq f h
      simp only [fillA, fillT, List.setIfInBounds_toArray, List.set_cons_succ, List.set_cons_zero, Option.getD_some, Nat.zero_add, Nat.reduceAdd]
      clear h
      go_wp2
      exact ⟨rfl, rfl, _, rfl, Fr.refl _ _, rfl⟩
    · intro vals wq f h
      simp only [fillA, fillT, List.setIfInBounds_toArray, List.set_cons_succ, List.set_cons_zero, Option.getD_some, Nat.zero_add, Nat.reduceAdd]
      have h5 : vals 5 = Value.int .i64 (X : Int) := h 5 (by kernel_rfl)
      rw [h5]
      have h11 : vals 11 = Value.int .i64 (Y : Int) := h 11 (by kernel_rfl)
      rw [h11]
      have h12 : vals 12 = Value.int .i64 (d : Int) := h 12 (by kernel_rfl)
      rw [h12]
      clear h
      go_wp2_with fail
      refine (HLi.out wq).mono ?_
      rintro e w6 ⟨a6, cp, b6, rfl, n6, _, f6⟩
      have HN6 := hid n6
      clear n6
      go_wp2
      exact ⟨rfl, rfl, _, rfl, f6, _, _, _, rfl, HN6.out⟩
  case tail =>
    intro vals wq f h
    simp only [List.take_succ_cons, List.take_zero, fillA, fillT, List.setIfInBounds_toArray, List.set_cons_succ, List.set_cons_zero, List.drop_succ_cons, List.drop_zero, Nat.zero_add, Nat.reduceAdd]
    obtain ⟨a13, k13, b13, h13, n13⟩ : ListAt wq (vals 13) n (bandAt d X Y) := h 13 (by omega)
    rw [h13]
    have F3 := F1.trans' ((Fr.refl _ w1).drew.trans' f)
    obtain ⟨W3, hW3⟩ : ∃ W3, W3 = wq := ⟨_, rfl⟩
    have HB3 := hid n13
    rw [← hW3] at F3 HB3 ⊢
    clear h h13 n13 hW3 f
    gi_wp2
    go_wp2_with fail
    refine (bcount_any _ _).mono ?_
    rintro e w4 ⟨rfl, rfl⟩
    rw [hcnt]
    go_wp2
    go_loopw [39] (fun i wr => ∃ k : Nat, k ≤ n ∧ i = .int .i64 (k : Int) ∧ Fr (fun _ => False) w4 wr) (fun i _ => n - (intOf i).toNat)
    case atStart => exact ⟨0, Nat.zero_le _, rfl, Fr.refl _ _⟩
    case round =>
      obtain ⟨k, hk, rfl, F⟩ := hrel
      by_cases hlt : k < n
      · have hki : (k : Int) < (n : Int) := by omega
        have HBd := hid (HB3.out.quiet F)
        obtain ⟨c0, c1, c2, c3, c4, c5⟩ := HBd.out.cells hlt
        obtain rfl := HB3.out.addr (by omega)
        obtain ⟨h1, h2, h3, h4, h5, h6⟩ := HSm.out k hlt
        have HPar := hid (bparent_any k)
        by_cases hk4 : k < 4
        · have hlv : (bandAt d X Y k).level < 2 := by have := level_two (d := d) (w := X) (h := Y) (i := k); omega
          rw [show parentZ k = -1 from if_pos (by omega)] at HPar
          generalize bandAt d X Y k = b at *
          obtain ⟨lv, or', bx, by', bw, bh⟩ := b
          dsimp only at c0 c1 c2 c3 c4 c5 h1 h2 h3 h4 h5 h6 hlv
          obtain ⟨W5, hW5⟩ : ∃ W5, W5 = wr.alloc (.cells #[.int .i64 (lv : Int), .int .i64 (or' : Int), .int .i64 (bx : Int), .int .i64 (by' : Int), .int .i64 (bw : Int), .int .i64 (bh : Int)] 31) := ⟨_, rfl⟩
          have F5 : Fr (fun _ => False) w4 W5 := by rw [hW5]; exact F.alloc _
          have B5 : Blk W5 wr.heap.size #[.int .i64 (lv : Int), .int .i64 (or' : Int), .int .i64 (bx : Int), .int .i64 (by' : Int), .int .i64 (bw : Int), .int .i64 (bh : Int)] 31 := by rw [hW5]; exact Blk.new _ _ _
          have d0 : W5.cell? ⟨wr.heap.size, 0, none⟩ = some (.int .i64 (lv : Int)) := by rw [B5.cell]; rfl
          have HW5 := hid hW5
          have hlvI : (lv : Int) < 2 := by omega
          clear hW5 B5
          go_wp2_with fail
          rw [← HW5.out]
          refine (HPar.out _).mono ?_
          rintro e w6 ⟨rfl, rfl⟩
          go_wp2
          go_roundw
          case rel => exact ⟨k + 1, by omega, by go_num, F5⟩
          case measure => simp [intOf]; omega
        · obtain ⟨j, hj⟩ : ∃ j, j = k - 3 := ⟨_, rfl⟩
          have hjn : j < n := by omega
          have hjI : (j : Int) < (n : Int) := by omega
          rw [show parentZ k = (j : Int) from (if_neg (by omega)).trans (by omega)] at HPar
          obtain ⟨p1, ⟨p2, p3⟩, p4, p5, p6, p7⟩ := HPa.out k hlt (by omega)
          rw [← hj] at p2 p3 p4 p5 p6 p7
          have HBj := hid (fun wq (f : Fr (fun _ => False) wr wq) => (HBd.out.quiet f).cells hjn)
          generalize bandAt d X Y k = b at *
          generalize bandAt d X Y j = q at *
          obtain ⟨lv, or', bx, by', bw, bh⟩ := b
          obtain ⟨qlv, qor, qx, qy, qw, qh⟩ := q
          dsimp only at c0 c1 c2 c3 c4 c5 h1 h2 h3 h4 h5 h6 p1 p2 p3 p4 p5 p6 p7 HBj
          obtain rfl : qor = or' := p3
          obtain ⟨W5, hW5⟩ : ∃ W5, W5 = wr.alloc (.cells #[.int .i64 (lv : Int), .int .i64 (qor : Int), .int .i64 (bx : Int), .int .i64 (by' : Int), .int .i64 (bw : Int), .int .i64 (bh : Int)] 31) := ⟨_, rfl⟩
          have f5 : Fr (fun _ => False) wr W5 := by rw [hW5]; exact (Fr.refl _ wr).alloc _
          have F5 : Fr (fun _ => False) w4 W5 := F.trans' f5
          have B5 : Blk W5 wr.heap.size #[.int .i64 (lv : Int), .int .i64 (qor : Int), .int .i64 (bx : Int), .int .i64 (by' : Int), .int .i64 (bw : Int), .int .i64 (bh : Int)] 31 := by rw [hW5]; exact Blk.new _ _ _
          have d0 : W5.cell? ⟨wr.heap.size, 0, none⟩ = some (.int .i64 (lv : Int)) := by rw [B5.cell]; rfl
          obtain ⟨W7, hW7⟩ : ∃ W7, W7 = W5.alloc (.cells #[.int .i64 (qlv : Int), .int .i64 (qor : Int), .int .i64 (qx : Int), .int .i64 (qy : Int), .int .i64 (qw : Int), .int .i64 (qh : Int)] 31) := ⟨_, rfl⟩
          obtain ⟨bj, hbj⟩ : ∃ bj, bj = W5.heap.size := ⟨_, rfl⟩
          obtain ⟨bk, hbk⟩ : ∃ bk, bk = wr.heap.size := ⟨_, rfl⟩
          have F7 : Fr (fun _ => False) w4 W7 := by rw [hW7]; exact F5.alloc _
          have B7 : Blk W7 bj #[.int .i64 (qlv : Int), .int .i64 (qor : Int), .int .i64 (qx : Int), .int .i64 (qy : Int), .int .i64 (qw : Int), .int .i64 (qh : Int)] 31 := by rw [hW7, hbj]; exact Blk.new _ _ _
          have B8 : Blk W7 bk #[.int .i64 (lv : Int), .int .i64 (qor : Int), .int .i64 (bx : Int), .int .i64 (by' : Int), .int .i64 (bw : Int), .int .i64 (bh : Int)] 31 := by rw [hW7, hbk]; exact B5.alloc _
          obtain ⟨e0, e1, e2, e3, e4, e5⟩ := HBj.out W5 f5
          have g0 : W7.cell? ⟨bj, 0, none⟩ = some (.int .i64 (qlv : Int)) := by rw [B7.cell]; rfl
          have g1 : W7.cell? ⟨bj, 1, none⟩ = some (.int .i64 (qor : Int)) := by rw [B7.cell]; rfl
          have g2 : W7.cell? ⟨bj, 2, none⟩ = some (.int .i64 (qx : Int)) := by rw [B7.cell]; rfl
          have g3 : W7.cell? ⟨bj, 3, none⟩ = some (.int .i64 (qy : Int)) := by rw [B7.cell]; rfl
          have g4 : W7.cell? ⟨bj, 4, none⟩ = some (.int .i64 (qw : Int)) := by rw [B7.cell]; rfl
          have g5 : W7.cell? ⟨bj, 5, none⟩ = some (.int .i64 (qh : Int)) := by rw [B7.cell]; rfl
          have m0 : W7.cell? ⟨bk, 0, none⟩ = some (.int .i64 (lv : Int)) := by rw [B8.cell]; rfl
          have m1 : W7.cell? ⟨bk, 1, none⟩ = some (.int .i64 (qor : Int)) := by rw [B8.cell]; rfl
          have m2 : W7.cell? ⟨bk, 2, none⟩ = some (.int .i64 (bx : Int)) := by rw [B8.cell]; rfl
          have m3 : W7.cell? ⟨bk, 3, none⟩ = some (.int .i64 (by' : Int)) := by rw [B8.cell]; rfl
          have m4 : W7.cell? ⟨bk, 4, none⟩ = some (.int .i64 (bw : Int)) := by rw [B8.cell]; rfl
          have m5 : W7.cell? ⟨bk, 5, none⟩ = some (.int .i64 (bh : Int)) := by rw [B8.cell]; rfl
          have HW5 := hid hW5
          have HW7 := hid hW7
          have HBJ := hid hbj
          have HBK := hid hbk
          have HF7 := hid F7
          have i0 : (lv : Int) - 1 = (qlv : Int) := by omega
          have i1 : ¬ (lv : Int) < 2 := by omega
          have i2 : 2 * (qw : Int) = (bw : Int) := by omega
          have i3 : 2 * (qh : Int) = (bh : Int) := by omega
          have i4 : 2 * (qx : Int) = (bx : Int) := by omega
          have i5 : 2 * (qy : Int) = (by' : Int) := by omega
          have hj0 : decide ((j : Int) < 0) = false := decide_eq_false (by omega)
          have i6 : decide ((lv : Int) < 2) = false := decide_eq_false i1
          rw [HBK.out, HW7.out] at m0 m1 m2 m3 m4 m5
          rw [HBJ.out, HW7.out] at g0 g1 g2 g3 g4 g5
          rw [HW7.out] at HF7
          clear hW5 B5 B7 B8 hW7 hbj hbk hj HBd HBj F5 F7 f5 p1 p2 p4 p5 p6 p7 i1 HW7 HBJ HBK
          go_wp2_with fail
          rw [← HW5.out]
          refine (HPar.out _).mono ?_
          rintro e w6 ⟨rfl, rfl⟩
          go_wp2
          go_roundw
          case rel => exact ⟨k + 1, by omega, by go_num, HF7.out⟩
          case measure => simp [intOf]; omega
      · have hki : ¬ (k : Int) < (n : Int) := by omega
        have HE := hid ((F3.trans' F).below (Nat.le_refl _) (fun _ _ h => h))
        go_wp2
        go_ret
        exact ⟨rfl, HE.out⟩
end Go.Proofs.Ytgmainbgliejhaa
