/-
  BandsLie: its walk.
-/
import Derived.BigQuiet
import Derived.Test.YtgmainbgliejhaaHalves10
import Derived.Test.YtgmainbgliejhaaRef10C
import Derived.Test.YtgmainbgliejhaaRef10D
import Derived.Test.YtgmainbgliejhaaLie10A
namespace Go.Proofs.Ytgmainbgliejhaa
open Go.RowKit

theorem ok6464 : bandsOk 64 64 6 = true := bandsOk_of (x := 64) (y := 64) (k := 6) (by decide) (by decide) (by decide) ⟨by decide, by decide⟩ ⟨by decide, by decide⟩
theorem n6464 : bandsN 64 64 6 = 19 := bandsN_ok ok6464
/-- All, and what it gives called with the law's closure. -/
theorem lieAll_ok (X Y D stop : Int) (w3 : World) (a : Option Addr) (cap b : Nat) :
    Calls Try.prog 11 #[.int .i64 X, .int .i64 Y, .int .i64 D] w3 fun e w' => ∃ bc bw bh bd, e = .returned (.func (.func 25) #[] #[.pointer (some ⟨bc, 0, none⟩), .pointer (some ⟨bw, 0, none⟩), .pointer (some ⟨bh, 0, none⟩), .pointer (some ⟨bd, 0, none⟩)]) ∧ Fr (fun _ => False) w3 w' ∧
      ∀ bo bn bl bs, bo < w3.heap.size → bn < w3.heap.size → Bds w' a (bandsN X Y D) cap (bandsL X Y D) b → Blk w' bo #[.bool true] 4 → Blk w' bn #[.int .i64 0] 3 → Blk w' bl #[.slice a (bandsN X Y D) cap] 24 → Blk w' bs #[.int .i64 stop] 3 → bo ≠ bn → bo ≠ bl → bo ≠ bs → bn ≠ bl → bn ≠ bs → (0 < bandsN X Y D → b ≠ bo ∧ b ≠ bn) →
        Calls Try.prog 25 #[.func (.func 12) #[] #[.pointer (some ⟨bo, 0, none⟩), .pointer (some ⟨bn, 0, none⟩), .pointer (some ⟨bl, 0, none⟩), .pointer (some ⟨bs, 0, none⟩)], .pointer (some ⟨bc, 0, none⟩), .pointer (some ⟨bw, 0, none⟩), .pointer (some ⟨bh, 0, none⟩), .pointer (some ⟨bd, 0, none⟩)] w' fun e w'' =>
          e = .returned (.tuple #[]) ∧ (∃ N : Nat, (N = bandsN X Y D ∨ ((N : Int) = stop ∧ N ≤ bandsN X Y D)) ∧ Blk w'' bn #[.int .i64 (N : Int)] 3) ∧ Blk w'' bo #[.bool true] 4 ∧ Fr (fun j => j = bo ∨ j = bn) w' w'' := by
  obtain ⟨c, k, x, y, hx', hy', hk', hc, hm, hX, hcI, hL⟩ : ∃ c k x y : Nat, x ≤ 1024 ∧ y ≤ 1024 ∧ k ≤ 6 ∧ c ≤ k + 1 ∧ startI c = bandsN X Y D ∧ (0 < c → X = (x : Int) ∧ Y = (y : Int) ∧ D = (k : Int)) ∧ levelsB X Y D = (c : Int) ∧ (0 < bandsN X Y D → bandsL X Y D = bandAt k x y) := by
    cases h : bandsOk X Y D with
    | false => exact ⟨0, 0, 0, 0, by omega, by omega, by omega, by omega, by rw [bandsN_no h]; rfl, fun h => absurd h (by omega), by unfold levelsB; rw [h]; rfl, fun h2 => by rw [bandsN_no h] at h2; exact absurd h2 (by omega)⟩
    | true =>
      obtain ⟨x, y, k, rfl, rfl, rfl, hx, hy, hk, _, _⟩ := bandsOk_nat h
      exact ⟨k + 1, k, x, y, hx, hy, hk, Nat.le_refl _, by rw [bandsN_ok h, startI_succ]; rfl, fun _ => ⟨rfl, rfl, rfl⟩, by unfold levelsB; rw [h]; rfl, fun _ => rfl⟩
  refine (ball_any X Y D w3).mono ?_
  rintro e w' ⟨bc, bw, bh, bd, rfl, h1, h2, h3, h4, l1, l2, l3, l4, f⟩
  rw [hcI] at h1
  refine ⟨bc, bw, bh, bd, rfl, f, fun bo bn bl bs p1 p2 hB b1 b2 b3 b4 q1 q2 q3 q4 q5 q6 => ?_⟩
  have hB' : Bds w' a (bandsN X Y D) cap (bandAt k x y) b := hB.congr fun i hi => by rw [hL (by omega)]
  exact lieall_go c k x y _ X Y D hx' hy' hk' hc hm hX bc bw bh bd a cap b stop bo bn bl bs w' hB' h1 ⟨h2, h3, h4⟩ b1 b2 b3 b4 q1 q2 q3 q4 q5 ⟨by omega, by omega⟩ ⟨by omega, by omega⟩ ⟨by omega, by omega⟩ q6

set_option maxRecDepth 100000 in
set_option maxHeartbeats 4000000 in
theorem lie10_walk (X Y D stop : Int) (w : World) :
    Calls Try.prog 3 #[.int .i64 X, .int .i64 Y, .agg #[.int .i64 D, .int .i64 stop]] w fun e w' => e = .returned (.bool true) ∧ Below w.heap.size w w' := by
  obtain ⟨n, hn⟩ : ∃ n, bandsN X Y D = n := ⟨_, rfl⟩
  obtain ⟨L, hL⟩ : ∃ L, bandsL X Y D = L := ⟨_, rfl⟩
  have hn19 : n ≤ 19 := by rw [← hn]; exact bandsN_most X Y D
  have HAl := hid (fun w3 a cap b => lieAll_ok X Y D stop w3 a cap b)
  have HRl := hid (fun w1 => rlist_any X Y D w1)
  have HLi := hid (fun w1 => blist_any X Y D w1)
  rw [hn, hL] at HRl HLi HAl
  clear hn hL
  obtain ⟨W0, hW0⟩ : ∃ W0, W0 = w.alloc (.cells #[.int .i64 D, .int .i64 stop] 22) := ⟨_, rfl⟩
  have F0 : Fr (fun _ => False) w W0 := by rw [hW0]; exact (Fr.refl _ w).alloc _
  have O0 : Blk W0 w.heap.size #[.int .i64 D, .int .i64 stop] 22 := by rw [hW0]; exact Blk.new _ _ _
  have HW0 := hid hW0
  clear hW0
  go_enter Try.func3, Try.ntmps3
  go_wp2_with fail
  rw [← HW0.out]
  refine (first10_any W0).mono ?_
  rintro e w1 ⟨rfl, f1⟩
  have O1 := O0.fr f1 (fun h => h)
  have F1 := F0.trans' f1
  have c0 : w1.cell? ⟨w.heap.size, 0, none⟩ = some (.int .i64 D) := by rw [O1.cell]; rfl
  have c1 : w1.cell? ⟨w.heap.size, 1, none⟩ = some (.int .i64 stop) := by rw [O1.cell]; rfl
  obtain ⟨b0, hb0⟩ : ∃ b0, b0 = w.heap.size := ⟨_, rfl⟩
  rw [← hb0] at c0 c1
  have O1' := O1.alloc (.cells #[.int .i64 0] 3)
  have cA0 : (w1.alloc (.cells #[.int .i64 0] 3)).cell? ⟨b0, 0, none⟩ = some (.int .i64 D) := by rw [hb0, O1'.cell]; rfl
  have cA1 : (w1.alloc (.cells #[.int .i64 0] 3)).cell? ⟨b0, 1, none⟩ = some (.int .i64 stop) := by rw [hb0, O1'.cell]; rfl
  have HB0 := hid hb0
  have HF1 := hid F1
  clear O0 O1 O1' F0 f1 F1 hb0
  go_wp2
  rw [← HB0.out]
  go_region
  obtain ⟨b8, hb8⟩ : ∃ b, b = w1.heap.size := ⟨_, rfl⟩
  obtain ⟨W2, hW2⟩ : ∃ W, W = (w1.alloc (.cells #[.int .i64 stop] 3)).drew := ⟨_, rfl⟩
  have F2 : Fr (fun _ => False) w W2 := by rw [hW2]; exact (HF1.out.alloc _).drew
  have O8 : Blk W2 b8 #[.int .i64 stop] 3 := by rw [hW2, hb8]; exact (Blk.new _ _ _).fr (Fr.refl (fun _ => False) _).drew (fun h => h)
  have hs1 := HF1.out.size
  rw [← hb8] at hs1
  rw [← hW2, ← hb8]
  clear hW2 hb8 cA0 cA1 c0 c1
  go_wp2_with fail
  refine (HRl.out W2).mono ?_
  rintro e w3 ⟨al, cl, bl, rfl, hB3, _, f3⟩
  have P8 := O8.fr f3 (fun h => h)
  have F3 := F2.trans' f3
  obtain ⟨b9, hb9⟩ : ∃ b, b = w3.heap.size := ⟨_, rfl⟩
  obtain ⟨W4, hW4⟩ : ∃ W, W = w3.alloc (.cells #[.slice al n cl] 24) := ⟨_, rfl⟩
  have F4 : Fr (fun _ => False) w W4 := by rw [hW4]; exact F3.alloc _
  have Q9 : Blk W4 b9 #[.slice al n cl] 24 := by rw [hW4, hb9]; exact Blk.new _ _ _
  have Q8 : Blk W4 b8 #[.int .i64 stop] 3 := by rw [hW4]; exact P8.alloc _
  have R4 : Bds W4 al n cl L bl := by rw [hW4]; exact hB3.quiet ((Fr.refl _ w3).alloc _)
  have hs4 : W4.heap.size = b9 + 1 := by rw [hW4, hb9]; simp
  have h89 : b8 < b9 := by rw [hb9]; exact P8.lt
  have hw9 : w.heap.size ≤ b9 := by rw [hb9]; exact F3.size
  have hblt : 0 < n → bl < b9 := fun hp => by rw [hb9]; exact hB3.lt hp
  have HQ : Hid (∀ wq, Fr (fun _ => False) W4.drew wq → wq.cell? ⟨b9, 0, none⟩ = some (.slice al n cl) ∧ Bds wq al n cl L bl) := fun wq f => ⟨by rw [(Q9.fr ((Fr.refl _ W4).drew.trans' f) (fun h => h)).cell]; rfl, R4.quiet ((Fr.refl _ W4).drew.trans' f)⟩
  have HW4 := hid hW4
  have HB9 := hid hb9
  have HQ9 := hid Q9
  have HQ8 := hid Q8
  have HR4 := hid R4
  clear hW4 hb9 Q9 Q8 R4 F2 F3 f3 O8 P8 hB3
  go_wp2
  rw [← HW4.out, ← HB9.out]
  refine weaveS 7 [.eq (Value.int .i64 X), .eq (Value.int .i64 Y), .eq (Value.int .i64 D), .list n L, .eq (Value.slice al n cl), .eq (Value.bool true), .eq (Value.bool false)] (by kernel_rfl) (by kernel_rfl) ?obls ?tail
  case obls =>
    simp only [List.take_succ_cons, List.take_zero]
    refine ⟨?_, ?_, ?_, ?_, ?_, ?_, ?_, trivial⟩
    · intro vals wq f h
      simp only [fillA, fillT, List.setIfInBounds_toArray, List.set_cons_succ, List.set_cons_zero, Option.getD_some, Nat.zero_add, Nat.reduceAdd]
      have c2 := (HQ.out wq f).1
      clear h
      go_wp2
      exact ⟨rfl, rfl, _, rfl, Fr.refl _ _, rfl⟩
    · intro vals wq f h
      simp only [fillA, fillT, List.setIfInBounds_toArray, List.set_cons_succ, List.set_cons_zero, Option.getD_some, Nat.zero_add, Nat.reduceAdd]
      have c2 := (HQ.out wq f).1
      clear h
      go_wp2
      exact ⟨rfl, rfl, _, rfl, Fr.refl _ _, rfl⟩
    · intro vals wq f h
      simp only [fillA, fillT, List.setIfInBounds_toArray, List.set_cons_succ, List.set_cons_zero, Option.getD_some, Nat.zero_add, Nat.reduceAdd]
      have c2 := (HQ.out wq f).1
      clear h
      go_wp2
      exact ⟨rfl, rfl, _, rfl, Fr.refl _ _, rfl⟩
    · intro vals wq f h
      simp only [fillA, fillT, List.setIfInBounds_toArray, List.set_cons_succ, List.set_cons_zero, Option.getD_some, Nat.zero_add, Nat.reduceAdd]
      have h0 : vals 0 = Value.int .i64 X := h 0 (by kernel_rfl)
      rw [h0]
      have h1 : vals 1 = Value.int .i64 Y := h 1 (by kernel_rfl)
      rw [h1]
      have h2 : vals 2 = Value.int .i64 D := h 2 (by kernel_rfl)
      rw [h2]
      have c2 := (HQ.out wq f).1
      clear h
      go_wp2_with fail
      refine (HLi.out wq).mono ?_
      rintro e w6 ⟨a6, cp, b6, rfl, n6, _, f6⟩
      have HN6 := hid n6
      clear n6
      go_wp2
      exact ⟨rfl, rfl, _, rfl, f6, _, _, _, rfl, HN6.out⟩
    · intro vals wq f h
      simp only [fillA, fillT, List.setIfInBounds_toArray, List.set_cons_succ, List.set_cons_zero, Option.getD_some, Nat.zero_add, Nat.reduceAdd]
      have c2 := (HQ.out wq f).1
      clear h
      go_wp2
      exact ⟨rfl, rfl, _, rfl, Fr.refl _ _, rfl⟩
    · intro vals wq f h
      simp only [fillA, fillT, List.setIfInBounds_toArray, List.set_cons_succ, List.set_cons_zero, Option.getD_some, Nat.zero_add, Nat.reduceAdd]
      obtain ⟨a3, k3, b3, h3, n3⟩ : ListAt wq (vals 3) n L := h 3 (by kernel_rfl)
      rw [h3]
      have h4 : vals 4 = Value.slice al n cl := h 4 (by kernel_rfl)
      rw [h4]
      have c2 := (HQ.out wq f).1
      clear h
      have HS := hid (rsameB_self _ n _ L _ _ _ _ wq n3 (HQ.out wq f).2 hn19)
      clear n3
      go_wp2_with fail
      refine HS.out.mono ?_
      rintro e w6 ⟨rfl, f6⟩
      go_wp2
      exact ⟨rfl, rfl, _, rfl, f6, rfl⟩
    · intro vals wq f h
      simp only [fillA, fillT, List.setIfInBounds_toArray, List.set_cons_succ, List.set_cons_zero, Option.getD_some, Nat.zero_add, Nat.reduceAdd]
      have h5 : vals 5 = Value.bool true := h 5 (by kernel_rfl)
      rw [h5]
      have c2 := (HQ.out wq f).1
      clear h
      go_wp2
      exact ⟨rfl, rfl, _, rfl, Fr.refl _ _, rfl⟩
  case tail =>
    intro vals wq f h
    simp only [List.take_succ_cons, List.take_zero, fillA, fillT, List.setIfInBounds_toArray, List.set_cons_succ, List.set_cons_zero, List.drop_succ_cons, List.drop_nil, Nat.zero_add, Nat.reduceAdd]
    have h6 : vals 6 = Value.bool false := h 6 (by omega)
    rw [h6]
    have F45 := (Fr.refl _ W4).drew.trans' f
    have F5 := F4.trans' F45
    obtain ⟨W5, hW5⟩ : ∃ W5, W5 = wq := ⟨_, rfl⟩
    rw [← hW5] at F45 F5 ⊢
    clear h h6 hW5 f HQ F4
    gi_wp2
    obtain ⟨b10, hb10⟩ : ∃ b, b = W5.heap.size := ⟨_, rfl⟩
    obtain ⟨W6, hW6⟩ : ∃ W6, W6 = (W5.alloc (.cells #[.int .i64 0] 3)).alloc (.cells #[.bool true] 4) := ⟨_, rfl⟩
    have F56 : Fr (fun _ => False) W5 W6 := by rw [hW6]; exact ((Fr.refl _ W5).alloc _).alloc _
    have B10 : Blk W6 b10 #[.int .i64 0] 3 := by rw [hW6, hb10]; exact (Blk.new _ _ _).alloc _
    have B11 : Blk W6 (b10 + 1) #[.bool true] 4 := by
      rw [hW6, hb10]
      have := Blk.new (W5.alloc (.cells #[.int .i64 0] 3)) #[.bool true] 4
      simpa using this
    have hs6 : W6.heap.size = b10 + 2 := by rw [hW6, hb10]; simp
    have HW6 := hid hW6
    have HB10 := hid hb10
    have hs56 : W4.heap.size ≤ b10 := by rw [hb10]; exact F45.size
    have R6 := (HR4.out.quiet F45).quiet F56
    have Q9 := (HQ9.out.fr F45 (fun h => h)).fr F56 (fun h => h)
    have Q8 := (HQ8.out.fr F45 (fun h => h)).fr F56 (fun h => h)
    have F6 := F5.trans' F56
    have hw6 := F5.size
    rw [← hb10] at hw6
    clear hb10 hW6 F56 F45 F5
    go_wp2_with fail
    rw [← HW6.out, ← HB10.out]
    refine (HAl.out W6 al cl bl).mono ?_
    rintro e w7 ⟨bc, bw, bh, bd, rfl, f7, HCall⟩
    have HC := hid (HCall (b10 + 1) b10 b9 b8 (by omega) (by omega) (R6.quiet f7) (B11.fr f7 (fun h => h)) (B10.fr f7 (fun h => h)) (Q9.fr f7 (fun h => h)) (Q8.fr f7 (fun h => h)) (by omega) (by omega) (by omega) (by omega) (by omega) (fun hp => by have := hblt hp; omega))
    have F7 := F6.trans' f7
    have Q9' := Q9.fr f7 (fun h => h)
    have Q8' := Q8.fr f7 (fun h => h)
    clear HCall R6 B10 B11 Q9 Q8 f7 F6
    go_wp2_with fail
    refine HC.out.mono ?_
    rintro e w8 ⟨rfl, ⟨N, hN, BN⟩, BO, f8⟩
    have F10 : Fr (fun _ => False) w w8 := F7.trans f8 (fun i hi e => by omega)
    have B8 := Q8'.fr f8 (by omega)
    have B9 := Q9'.fr f8 (by omega)
    have d0 : w8.cell? ⟨b10 + 1, 0, none⟩ = some (.bool true) := by rw [BO.cell]; rfl
    have d1 : w8.cell? ⟨b10, 0, none⟩ = some (.int .i64 (N : Int)) := by rw [BN.cell]; rfl
    have d2 : w8.cell? ⟨b9, 0, none⟩ = some (.slice al n cl) := by rw [B9.cell]; rfl
    have d3 : w8.cell? ⟨b8, 0, none⟩ = some (.int .i64 stop) := by rw [B8.cell]; rfl
    clear HC Q9' Q8' F7 BN BO f8 B9
    by_cases hNn : N = n
    · subst hNn
      clear hN
      go_wp2_with fail
      refine (rlist_any 64 64 6 w8).mono ?_
      rintro e w11 ⟨aS, cs, bs, rfl, hBs, _, f11⟩
      have hBs2 : Bds w11 aS 19 cs six bs := by rwa [n6464] at hBs
      have HBs := hid hBs2
      have F11 := F10.trans' f11
      have HB8 := hid (B8.fr f11 (fun h => h))
      rw [n6464]
      clear hBs hBs2 f11 B8 F10
      go_wp2
      go_loopw [13] (fun i wr => ∃ z : Int, -1 ≤ z ∧ z ≤ 20 ∧ i = .int .i64 z ∧ Fr (fun _ => False) w11 wr) (fun i _ => (20 - intOf i).toNat)
      case atStart => exact ⟨-1, by omega, by omega, rfl, Fr.refl _ _⟩
      case round =>
        obtain ⟨z, hz1, hz2, rfl, F⟩ := hrel
        by_cases hlt : z ≤ 19
        · have HPb := hid (bparent_any z wr)
          have HPr := hid (rparent_any aS cs bs z wr (HBs.out.quiet F))
          obtain ⟨pz, hpz⟩ : ∃ pz, parentZ z = pz := ⟨_, rfl⟩
          rw [hpz] at HPr HPb
          clear hpz
          go_wp2_with fail
          refine HPb.out.mono ?_
          rintro e w6 ⟨rfl, rfl⟩
          go_wp2_with fail
          refine HPr.out.mono ?_
          rintro e w7 ⟨rfl, f7⟩
          go_wp2
          go_roundw
          case rel => exact ⟨z + 1, by omega, by omega, by go_num, F.trans' f7⟩
          case measure => simp [intOf]; omega
        · have hzz : ¬ z ≤ 19 := hlt
          clear hz1 hz2
          have HC8 : Hid (∀ wq, Fr (fun _ => False) wr wq → wq.cell? ⟨b8, 0, none⟩ = some (.int .i64 stop)) := fun wq f => by rw [(HB8.out.fr (F.trans' f) (fun h => h)).cell]; rfl
          have HPr : Hid (∀ wq, Fr (fun _ => False) wr wq → Calls Try.prog 14 #[.slice aS 19 cs, .int .i64 stop] wq fun e w' => e = .returned (.int .i64 (parentZ stop)) ∧ Fr (fun _ => False) wq w') := fun wq f => rparent_any aS cs bs stop wq (HBs.out.quiet (F.trans' f))
          have HPb := hid (fun wq => bparent_any stop wq)
          have HCt := hid (fun wq => bcount_any D wq)
          have HFr := hid (F11.trans' F)
          obtain ⟨pz, hpz⟩ : ∃ pz, parentZ stop = pz := ⟨_, rfl⟩
          obtain ⟨ct, hct⟩ : ∃ ct, countB D = ct := ⟨_, rfl⟩
          rw [hpz] at HPr HPb
          rw [hct] at HCt
          clear hpz F
          by_cases h0 : 0 ≤ D
          · by_cases h6 : D ≤ 6
            · have hct' : 3 * D + 1 = ct := by rw [← hct, countB, if_pos ⟨h0, h6⟩]
              clear hct
              go_wp2
              refine weaveS 12 [.eq (Value.int .i64 D), .eq (Value.int .i64 ct), .eq (Value.int .i64 ct), .eq (Value.bool true), .eq (Value.bool true), .eq (Value.int .i64 stop), .eq (Value.int .i64 pz), .eq (Value.slice aS 19 cs), .eq (Value.int .i64 stop), .eq (Value.int .i64 pz), .eq (Value.bool true), .eq (Value.bool true)] (by kernel_rfl) (by kernel_rfl) ?obls ?tail
              case obls =>
                simp only [List.take_succ_cons, List.take_zero]
                refine ⟨?_, ?_, ?_, ?_, ?_, ?_, ?_, ?_, ?_, ?_, ?_, ?_, trivial⟩
                · intro vals wq f h
                  simp only [fillA, fillT, List.setIfInBounds_toArray, List.set_cons_succ, List.set_cons_zero, Option.getD_some, Nat.zero_add, Nat.reduceAdd]
                  have c8 := HC8.out wq ((Fr.refl _ wr).drew.trans' f)
                  clear h
                  go_wp2
                  exact ⟨rfl, rfl, _, rfl, Fr.refl _ _, rfl⟩
                · intro vals wq f h
                  simp only [fillA, fillT, List.setIfInBounds_toArray, List.set_cons_succ, List.set_cons_zero, Option.getD_some, Nat.zero_add, Nat.reduceAdd]
                  have h0 : vals 0 = Value.int .i64 D := h 0 (by kernel_rfl)
                  rw [h0]
                  have c8 := HC8.out wq ((Fr.refl _ wr).drew.trans' f)
                  clear h
                  go_wp2_with fail
                  refine (HCt.out wq).mono ?_
                  rintro e w6 ⟨rfl, rfl⟩
                  go_wp2
                  exact ⟨rfl, rfl, _, rfl, Fr.refl _ _, rfl⟩
                · intro vals wq f h
                  simp only [fillA, fillT, List.setIfInBounds_toArray, List.set_cons_succ, List.set_cons_zero, Option.getD_some, Nat.zero_add, Nat.reduceAdd]
                  have c8 := HC8.out wq ((Fr.refl _ wr).drew.trans' f)
                  clear h
                  go_wp2
                  exact ⟨rfl, rfl, _, rfl, Fr.refl _ _, rfl⟩
                · intro vals wq f h
                  simp only [fillA, fillT, List.setIfInBounds_toArray, List.set_cons_succ, List.set_cons_zero, Option.getD_some, Nat.zero_add, Nat.reduceAdd]
                  have h1 : vals 1 = Value.int .i64 ct := h 1 (by kernel_rfl)
                  rw [h1]
                  have h2 : vals 2 = Value.int .i64 ct := h 2 (by kernel_rfl)
                  rw [h2]
                  have c8 := HC8.out wq ((Fr.refl _ wr).drew.trans' f)
                  clear h
                  go_wp2
                  exact ⟨rfl, rfl, _, rfl, Fr.refl _ _, rfl⟩
                · intro vals wq f h
                  simp only [fillA, fillT, List.setIfInBounds_toArray, List.set_cons_succ, List.set_cons_zero, Option.getD_some, Nat.zero_add, Nat.reduceAdd]
                  have h3 : vals 3 = Value.bool true := h 3 (by kernel_rfl)
                  rw [h3]
                  have c8 := HC8.out wq ((Fr.refl _ wr).drew.trans' f)
                  clear h
                  go_wp2
                  exact ⟨rfl, rfl, _, rfl, Fr.refl _ _, rfl⟩
                · intro vals wq f h
                  simp only [fillA, fillT, List.setIfInBounds_toArray, List.set_cons_succ, List.set_cons_zero, Option.getD_some, Nat.zero_add, Nat.reduceAdd]
                  have h4 : vals 4 = Value.bool true := h 4 (by kernel_rfl)
                  rw [h4]
                  have c8 := HC8.out wq ((Fr.refl _ wr).drew.trans' f)
                  clear h
                  go_wp2
                  exact ⟨rfl, rfl, _, rfl, Fr.refl _ _, rfl⟩
                · intro vals wq f h
                  simp only [fillA, fillT, List.setIfInBounds_toArray, List.set_cons_succ, List.set_cons_zero, Option.getD_some, Nat.zero_add, Nat.reduceAdd]
                  have h5 : vals 5 = Value.int .i64 stop := h 5 (by kernel_rfl)
                  rw [h5]
                  have h4 : vals 4 = Value.bool true := h 4 (by kernel_rfl)
                  rw [h4]
                  have c8 := HC8.out wq ((Fr.refl _ wr).drew.trans' f)
                  clear h
                  go_wp2_with fail
                  refine (HPb.out wq).mono ?_
                  rintro e w6 ⟨rfl, rfl⟩
                  go_wp2
                  exact ⟨rfl, rfl, _, rfl, Fr.refl _ _, rfl⟩
                · intro vals wq f h
                  simp only [fillA, fillT, List.setIfInBounds_toArray, List.set_cons_succ, List.set_cons_zero, Option.getD_some, Nat.zero_add, Nat.reduceAdd]
                  have h4 : vals 4 = Value.bool true := h 4 (by kernel_rfl)
                  rw [h4]
                  have c8 := HC8.out wq ((Fr.refl _ wr).drew.trans' f)
                  clear h
                  go_wp2
                  exact ⟨rfl, rfl, _, rfl, Fr.refl _ _, rfl⟩
                · intro vals wq f h
                  simp only [fillA, fillT, List.setIfInBounds_toArray, List.set_cons_succ, List.set_cons_zero, Option.getD_some, Nat.zero_add, Nat.reduceAdd]
                  have h4 : vals 4 = Value.bool true := h 4 (by kernel_rfl)
                  rw [h4]
                  have c8 := HC8.out wq ((Fr.refl _ wr).drew.trans' f)
                  clear h
                  go_wp2
                  exact ⟨rfl, rfl, _, rfl, Fr.refl _ _, rfl⟩
                · intro vals wq f h
                  simp only [fillA, fillT, List.setIfInBounds_toArray, List.set_cons_succ, List.set_cons_zero, Option.getD_some, Nat.zero_add, Nat.reduceAdd]
                  have h7 : vals 7 = Value.slice aS 19 cs := h 7 (by kernel_rfl)
                  rw [h7]
                  have h8 : vals 8 = Value.int .i64 stop := h 8 (by kernel_rfl)
                  rw [h8]
                  have h4 : vals 4 = Value.bool true := h 4 (by kernel_rfl)
                  rw [h4]
                  have c8 := HC8.out wq ((Fr.refl _ wr).drew.trans' f)
                  clear h
                  go_wp2_with fail
                  refine (HPr.out wq ((Fr.refl _ wr).drew.trans' f)).mono ?_
                  rintro e w6 ⟨rfl, f6⟩
                  go_wp2
                  exact ⟨rfl, rfl, _, rfl, f6, rfl⟩
                · intro vals wq f h
                  simp only [fillA, fillT, List.setIfInBounds_toArray, List.set_cons_succ, List.set_cons_zero, Option.getD_some, Nat.zero_add, Nat.reduceAdd]
                  have h6 : vals 6 = Value.int .i64 pz := h 6 (by kernel_rfl)
                  rw [h6]
                  have h9 : vals 9 = Value.int .i64 pz := h 9 (by kernel_rfl)
                  rw [h9]
                  have h4 : vals 4 = Value.bool true := h 4 (by kernel_rfl)
                  rw [h4]
                  have c8 := HC8.out wq ((Fr.refl _ wr).drew.trans' f)
                  clear h
                  go_wp2
                  exact ⟨rfl, rfl, _, rfl, Fr.refl _ _, rfl⟩
                · intro vals wq f h
                  simp only [fillA, fillT, List.setIfInBounds_toArray, List.set_cons_succ, List.set_cons_zero, Option.getD_some, Nat.zero_add, Nat.reduceAdd]
                  have h4 : vals 4 = Value.bool true := h 4 (by kernel_rfl)
                  rw [h4]
                  have h10 : vals 10 = Value.bool true := h 10 (by kernel_rfl)
                  rw [h10]
                  have c8 := HC8.out wq ((Fr.refl _ wr).drew.trans' f)
                  clear h
                  go_wp2
                  exact ⟨rfl, rfl, _, rfl, Fr.refl _ _, rfl⟩
              case tail =>
                intro vals wq f h
                simp only [List.take_succ_cons, List.take_zero, fillA, fillT, List.setIfInBounds_toArray, List.set_cons_succ, List.set_cons_zero, List.drop_succ_cons, List.drop_zero, Nat.zero_add, Nat.reduceAdd]
                have h11 : vals 11 = Value.bool true := h 11 (by omega)
                rw [h11]
                have HE := hid ((HFr.out.trans' ((Fr.refl _ wr).drew.trans' f)).below (Nat.le_refl _) (fun _ _ h => h))
                clear h h11 f
                gi_wp2
                go_wp2
                go_ret
                exact ⟨rfl, HE.out⟩
            · have hct' : 0 = ct := by rw [← hct, countB, if_neg (by omega)]
              subst hct'
              clear hct
              go_wp2
              refine weaveS 12 [.eq (Value.int .i64 D), .eq (Value.int .i64 0), .eq (Value.int .i64 0), .eq (Value.bool true), .eq (Value.bool true), .eq (Value.int .i64 stop), .eq (Value.int .i64 pz), .eq (Value.slice aS 19 cs), .eq (Value.int .i64 stop), .eq (Value.int .i64 pz), .eq (Value.bool true), .eq (Value.bool true)] (by kernel_rfl) (by kernel_rfl) ?obls ?tail
              case obls =>
                simp only [List.take_succ_cons, List.take_zero]
                refine ⟨?_, ?_, ?_, ?_, ?_, ?_, ?_, ?_, ?_, ?_, ?_, ?_, trivial⟩
                · intro vals wq f h
                  simp only [fillA, fillT, List.setIfInBounds_toArray, List.set_cons_succ, List.set_cons_zero, Option.getD_some, Nat.zero_add, Nat.reduceAdd]
                  have c8 := HC8.out wq ((Fr.refl _ wr).drew.trans' f)
                  clear h
                  go_wp2
                  exact ⟨rfl, rfl, _, rfl, Fr.refl _ _, rfl⟩
                · intro vals wq f h
                  simp only [fillA, fillT, List.setIfInBounds_toArray, List.set_cons_succ, List.set_cons_zero, Option.getD_some, Nat.zero_add, Nat.reduceAdd]
                  have h0 : vals 0 = Value.int .i64 D := h 0 (by kernel_rfl)
                  rw [h0]
                  have c8 := HC8.out wq ((Fr.refl _ wr).drew.trans' f)
                  clear h
                  go_wp2_with fail
                  refine (HCt.out wq).mono ?_
                  rintro e w6 ⟨rfl, rfl⟩
                  go_wp2
                  exact ⟨rfl, rfl, _, rfl, Fr.refl _ _, rfl⟩
                · intro vals wq f h
                  simp only [fillA, fillT, List.setIfInBounds_toArray, List.set_cons_succ, List.set_cons_zero, Option.getD_some, Nat.zero_add, Nat.reduceAdd]
                  have c8 := HC8.out wq ((Fr.refl _ wr).drew.trans' f)
                  clear h
                  go_wp2
                  exact ⟨rfl, rfl, _, rfl, Fr.refl _ _, rfl⟩
                · intro vals wq f h
                  simp only [fillA, fillT, List.setIfInBounds_toArray, List.set_cons_succ, List.set_cons_zero, Option.getD_some, Nat.zero_add, Nat.reduceAdd]
                  have h1 : vals 1 = Value.int .i64 0 := h 1 (by kernel_rfl)
                  rw [h1]
                  have h2 : vals 2 = Value.int .i64 0 := h 2 (by kernel_rfl)
                  rw [h2]
                  have c8 := HC8.out wq ((Fr.refl _ wr).drew.trans' f)
                  clear h
                  go_wp2
                  exact ⟨rfl, rfl, _, rfl, Fr.refl _ _, rfl⟩
                · intro vals wq f h
                  simp only [fillA, fillT, List.setIfInBounds_toArray, List.set_cons_succ, List.set_cons_zero, Option.getD_some, Nat.zero_add, Nat.reduceAdd]
                  have h3 : vals 3 = Value.bool true := h 3 (by kernel_rfl)
                  rw [h3]
                  have c8 := HC8.out wq ((Fr.refl _ wr).drew.trans' f)
                  clear h
                  go_wp2
                  exact ⟨rfl, rfl, _, rfl, Fr.refl _ _, rfl⟩
                · intro vals wq f h
                  simp only [fillA, fillT, List.setIfInBounds_toArray, List.set_cons_succ, List.set_cons_zero, Option.getD_some, Nat.zero_add, Nat.reduceAdd]
                  have h4 : vals 4 = Value.bool true := h 4 (by kernel_rfl)
                  rw [h4]
                  have c8 := HC8.out wq ((Fr.refl _ wr).drew.trans' f)
                  clear h
                  go_wp2
                  exact ⟨rfl, rfl, _, rfl, Fr.refl _ _, rfl⟩
                · intro vals wq f h
                  simp only [fillA, fillT, List.setIfInBounds_toArray, List.set_cons_succ, List.set_cons_zero, Option.getD_some, Nat.zero_add, Nat.reduceAdd]
                  have h5 : vals 5 = Value.int .i64 stop := h 5 (by kernel_rfl)
                  rw [h5]
                  have h4 : vals 4 = Value.bool true := h 4 (by kernel_rfl)
                  rw [h4]
                  have c8 := HC8.out wq ((Fr.refl _ wr).drew.trans' f)
                  clear h
                  go_wp2_with fail
                  refine (HPb.out wq).mono ?_
                  rintro e w6 ⟨rfl, rfl⟩
                  go_wp2
                  exact ⟨rfl, rfl, _, rfl, Fr.refl _ _, rfl⟩
                · intro vals wq f h
                  simp only [fillA, fillT, List.setIfInBounds_toArray, List.set_cons_succ, List.set_cons_zero, Option.getD_some, Nat.zero_add, Nat.reduceAdd]
                  have h4 : vals 4 = Value.bool true := h 4 (by kernel_rfl)
                  rw [h4]
                  have c8 := HC8.out wq ((Fr.refl _ wr).drew.trans' f)
                  clear h
                  go_wp2
                  exact ⟨rfl, rfl, _, rfl, Fr.refl _ _, rfl⟩
                · intro vals wq f h
                  simp only [fillA, fillT, List.setIfInBounds_toArray, List.set_cons_succ, List.set_cons_zero, Option.getD_some, Nat.zero_add, Nat.reduceAdd]
                  have h4 : vals 4 = Value.bool true := h 4 (by kernel_rfl)
                  rw [h4]
                  have c8 := HC8.out wq ((Fr.refl _ wr).drew.trans' f)
                  clear h
                  go_wp2
                  exact ⟨rfl, rfl, _, rfl, Fr.refl _ _, rfl⟩
                · intro vals wq f h
                  simp only [fillA, fillT, List.setIfInBounds_toArray, List.set_cons_succ, List.set_cons_zero, Option.getD_some, Nat.zero_add, Nat.reduceAdd]
                  have h7 : vals 7 = Value.slice aS 19 cs := h 7 (by kernel_rfl)
                  rw [h7]
                  have h8 : vals 8 = Value.int .i64 stop := h 8 (by kernel_rfl)
                  rw [h8]
                  have h4 : vals 4 = Value.bool true := h 4 (by kernel_rfl)
                  rw [h4]
                  have c8 := HC8.out wq ((Fr.refl _ wr).drew.trans' f)
                  clear h
                  go_wp2_with fail
                  refine (HPr.out wq ((Fr.refl _ wr).drew.trans' f)).mono ?_
                  rintro e w6 ⟨rfl, f6⟩
                  go_wp2
                  exact ⟨rfl, rfl, _, rfl, f6, rfl⟩
                · intro vals wq f h
                  simp only [fillA, fillT, List.setIfInBounds_toArray, List.set_cons_succ, List.set_cons_zero, Option.getD_some, Nat.zero_add, Nat.reduceAdd]
                  have h6 : vals 6 = Value.int .i64 pz := h 6 (by kernel_rfl)
                  rw [h6]
                  have h9 : vals 9 = Value.int .i64 pz := h 9 (by kernel_rfl)
                  rw [h9]
                  have h4 : vals 4 = Value.bool true := h 4 (by kernel_rfl)
                  rw [h4]
                  have c8 := HC8.out wq ((Fr.refl _ wr).drew.trans' f)
                  clear h
                  go_wp2
                  exact ⟨rfl, rfl, _, rfl, Fr.refl _ _, rfl⟩
                · intro vals wq f h
                  simp only [fillA, fillT, List.setIfInBounds_toArray, List.set_cons_succ, List.set_cons_zero, Option.getD_some, Nat.zero_add, Nat.reduceAdd]
                  have h4 : vals 4 = Value.bool true := h 4 (by kernel_rfl)
                  rw [h4]
                  have h10 : vals 10 = Value.bool true := h 10 (by kernel_rfl)
                  rw [h10]
                  have c8 := HC8.out wq ((Fr.refl _ wr).drew.trans' f)
                  clear h
                  go_wp2
                  exact ⟨rfl, rfl, _, rfl, Fr.refl _ _, rfl⟩
              case tail =>
                intro vals wq f h
                simp only [List.take_succ_cons, List.take_zero, fillA, fillT, List.setIfInBounds_toArray, List.set_cons_succ, List.set_cons_zero, List.drop_succ_cons, List.drop_zero, Nat.zero_add, Nat.reduceAdd]
                have h11 : vals 11 = Value.bool true := h 11 (by omega)
                rw [h11]
                have HE := hid ((HFr.out.trans' ((Fr.refl _ wr).drew.trans' f)).below (Nat.le_refl _) (fun _ _ h => h))
                clear h h11 f
                gi_wp2
                go_wp2
                go_ret
                exact ⟨rfl, HE.out⟩
          · have hct' : 0 = ct := by rw [← hct, countB, if_neg (by omega)]
            subst hct'
            clear hct
            go_wp2
            refine weaveS 12 [.eq (Value.int .i64 D), .eq (Value.int .i64 0), .eq (Value.int .i64 0), .eq (Value.bool true), .eq (Value.bool true), .eq (Value.int .i64 stop), .eq (Value.int .i64 pz), .eq (Value.slice aS 19 cs), .eq (Value.int .i64 stop), .eq (Value.int .i64 pz), .eq (Value.bool true), .eq (Value.bool true)] (by kernel_rfl) (by kernel_rfl) ?obls ?tail
            case obls =>
              simp only [List.take_succ_cons, List.take_zero]
              refine ⟨?_, ?_, ?_, ?_, ?_, ?_, ?_, ?_, ?_, ?_, ?_, ?_, trivial⟩
              · intro vals wq f h
                simp only [fillA, fillT, List.setIfInBounds_toArray, List.set_cons_succ, List.set_cons_zero, Option.getD_some, Nat.zero_add, Nat.reduceAdd]
                have c8 := HC8.out wq ((Fr.refl _ wr).drew.trans' f)
                clear h
                go_wp2
                exact ⟨rfl, rfl, _, rfl, Fr.refl _ _, rfl⟩
              · intro vals wq f h
                simp only [fillA, fillT, List.setIfInBounds_toArray, List.set_cons_succ, List.set_cons_zero, Option.getD_some, Nat.zero_add, Nat.reduceAdd]
                have h0 : vals 0 = Value.int .i64 D := h 0 (by kernel_rfl)
                rw [h0]
                have c8 := HC8.out wq ((Fr.refl _ wr).drew.trans' f)
                clear h
                go_wp2_with fail
                refine (HCt.out wq).mono ?_
                rintro e w6 ⟨rfl, rfl⟩
                go_wp2
                exact ⟨rfl, rfl, _, rfl, Fr.refl _ _, rfl⟩
              · intro vals wq f h
                simp only [fillA, fillT, List.setIfInBounds_toArray, List.set_cons_succ, List.set_cons_zero, Option.getD_some, Nat.zero_add, Nat.reduceAdd]
                have c8 := HC8.out wq ((Fr.refl _ wr).drew.trans' f)
                clear h
                go_wp2
                exact ⟨rfl, rfl, _, rfl, Fr.refl _ _, rfl⟩
              · intro vals wq f h
                simp only [fillA, fillT, List.setIfInBounds_toArray, List.set_cons_succ, List.set_cons_zero, Option.getD_some, Nat.zero_add, Nat.reduceAdd]
                have h1 : vals 1 = Value.int .i64 0 := h 1 (by kernel_rfl)
                rw [h1]
                have h2 : vals 2 = Value.int .i64 0 := h 2 (by kernel_rfl)
                rw [h2]
                have c8 := HC8.out wq ((Fr.refl _ wr).drew.trans' f)
                clear h
                go_wp2
                exact ⟨rfl, rfl, _, rfl, Fr.refl _ _, rfl⟩
              · intro vals wq f h
                simp only [fillA, fillT, List.setIfInBounds_toArray, List.set_cons_succ, List.set_cons_zero, Option.getD_some, Nat.zero_add, Nat.reduceAdd]
                have h3 : vals 3 = Value.bool true := h 3 (by kernel_rfl)
                rw [h3]
                have c8 := HC8.out wq ((Fr.refl _ wr).drew.trans' f)
                clear h
                go_wp2
                exact ⟨rfl, rfl, _, rfl, Fr.refl _ _, rfl⟩
              · intro vals wq f h
                simp only [fillA, fillT, List.setIfInBounds_toArray, List.set_cons_succ, List.set_cons_zero, Option.getD_some, Nat.zero_add, Nat.reduceAdd]
                have h4 : vals 4 = Value.bool true := h 4 (by kernel_rfl)
                rw [h4]
                have c8 := HC8.out wq ((Fr.refl _ wr).drew.trans' f)
                clear h
                go_wp2
                exact ⟨rfl, rfl, _, rfl, Fr.refl _ _, rfl⟩
              · intro vals wq f h
                simp only [fillA, fillT, List.setIfInBounds_toArray, List.set_cons_succ, List.set_cons_zero, Option.getD_some, Nat.zero_add, Nat.reduceAdd]
                have h5 : vals 5 = Value.int .i64 stop := h 5 (by kernel_rfl)
                rw [h5]
                have h4 : vals 4 = Value.bool true := h 4 (by kernel_rfl)
                rw [h4]
                have c8 := HC8.out wq ((Fr.refl _ wr).drew.trans' f)
                clear h
                go_wp2_with fail
                refine (HPb.out wq).mono ?_
                rintro e w6 ⟨rfl, rfl⟩
                go_wp2
                exact ⟨rfl, rfl, _, rfl, Fr.refl _ _, rfl⟩
              · intro vals wq f h
                simp only [fillA, fillT, List.setIfInBounds_toArray, List.set_cons_succ, List.set_cons_zero, Option.getD_some, Nat.zero_add, Nat.reduceAdd]
                have h4 : vals 4 = Value.bool true := h 4 (by kernel_rfl)
                rw [h4]
                have c8 := HC8.out wq ((Fr.refl _ wr).drew.trans' f)
                clear h
                go_wp2
                exact ⟨rfl, rfl, _, rfl, Fr.refl _ _, rfl⟩
              · intro vals wq f h
                simp only [fillA, fillT, List.setIfInBounds_toArray, List.set_cons_succ, List.set_cons_zero, Option.getD_some, Nat.zero_add, Nat.reduceAdd]
                have h4 : vals 4 = Value.bool true := h 4 (by kernel_rfl)
                rw [h4]
                have c8 := HC8.out wq ((Fr.refl _ wr).drew.trans' f)
                clear h
                go_wp2
                exact ⟨rfl, rfl, _, rfl, Fr.refl _ _, rfl⟩
              · intro vals wq f h
                simp only [fillA, fillT, List.setIfInBounds_toArray, List.set_cons_succ, List.set_cons_zero, Option.getD_some, Nat.zero_add, Nat.reduceAdd]
                have h7 : vals 7 = Value.slice aS 19 cs := h 7 (by kernel_rfl)
                rw [h7]
                have h8 : vals 8 = Value.int .i64 stop := h 8 (by kernel_rfl)
                rw [h8]
                have h4 : vals 4 = Value.bool true := h 4 (by kernel_rfl)
                rw [h4]
                have c8 := HC8.out wq ((Fr.refl _ wr).drew.trans' f)
                clear h
                go_wp2_with fail
                refine (HPr.out wq ((Fr.refl _ wr).drew.trans' f)).mono ?_
                rintro e w6 ⟨rfl, f6⟩
                go_wp2
                exact ⟨rfl, rfl, _, rfl, f6, rfl⟩
              · intro vals wq f h
                simp only [fillA, fillT, List.setIfInBounds_toArray, List.set_cons_succ, List.set_cons_zero, Option.getD_some, Nat.zero_add, Nat.reduceAdd]
                have h6 : vals 6 = Value.int .i64 pz := h 6 (by kernel_rfl)
                rw [h6]
                have h9 : vals 9 = Value.int .i64 pz := h 9 (by kernel_rfl)
                rw [h9]
                have h4 : vals 4 = Value.bool true := h 4 (by kernel_rfl)
                rw [h4]
                have c8 := HC8.out wq ((Fr.refl _ wr).drew.trans' f)
                clear h
                go_wp2
                exact ⟨rfl, rfl, _, rfl, Fr.refl _ _, rfl⟩
              · intro vals wq f h
                simp only [fillA, fillT, List.setIfInBounds_toArray, List.set_cons_succ, List.set_cons_zero, Option.getD_some, Nat.zero_add, Nat.reduceAdd]
                have h4 : vals 4 = Value.bool true := h 4 (by kernel_rfl)
                rw [h4]
                have h10 : vals 10 = Value.bool true := h 10 (by kernel_rfl)
                rw [h10]
                have c8 := HC8.out wq ((Fr.refl _ wr).drew.trans' f)
                clear h
                go_wp2
                exact ⟨rfl, rfl, _, rfl, Fr.refl _ _, rfl⟩
            case tail =>
              intro vals wq f h
              simp only [List.take_succ_cons, List.take_zero, fillA, fillT, List.setIfInBounds_toArray, List.set_cons_succ, List.set_cons_zero, List.drop_succ_cons, List.drop_zero, Nat.zero_add, Nat.reduceAdd]
              have h11 : vals 11 = Value.bool true := h 11 (by omega)
              rw [h11]
              have HE := hid ((HFr.out.trans' ((Fr.refl _ wr).drew.trans' f)).below (Nat.le_refl _) (fun _ _ h => h))
              clear h h11 f
              gi_wp2
              go_wp2
              go_ret
              exact ⟨rfl, HE.out⟩
    · obtain ⟨hst, hle⟩ := hN.resolve_left hNn
      subst hst
      have hne : ¬ (N : Int) = (n : Int) := by omega
      have hgt : ¬ (n : Int) < (N : Int) := by omega
      clear hN hNn
      go_wp2_with fail
      refine (rlist_any 64 64 6 w8).mono ?_
      rintro e w11 ⟨aS, cs, bs, rfl, hBs, _, f11⟩
      have hBs2 : Bds w11 aS 19 cs six bs := by rwa [n6464] at hBs
      have HBs := hid hBs2
      have F11 := F10.trans' f11
      have HB8 := hid (B8.fr f11 (fun h => h))
      rw [n6464]
      clear hBs hBs2 f11 B8 F10
      go_wp2
      go_loopw [13] (fun i wr => ∃ z : Int, -1 ≤ z ∧ z ≤ 20 ∧ i = .int .i64 z ∧ Fr (fun _ => False) w11 wr) (fun i _ => (20 - intOf i).toNat)
      case atStart => exact ⟨-1, by omega, by omega, rfl, Fr.refl _ _⟩
      case round =>
        obtain ⟨z, hz1, hz2, rfl, F⟩ := hrel
        by_cases hlt : z ≤ 19
        · have HPb := hid (bparent_any z wr)
          have HPr := hid (rparent_any aS cs bs z wr (HBs.out.quiet F))
          obtain ⟨pz, hpz⟩ : ∃ pz, parentZ z = pz := ⟨_, rfl⟩
          rw [hpz] at HPr HPb
          clear hpz
          go_wp2_with fail
          refine HPb.out.mono ?_
          rintro e w6 ⟨rfl, rfl⟩
          go_wp2_with fail
          refine HPr.out.mono ?_
          rintro e w7 ⟨rfl, f7⟩
          go_wp2
          go_roundw
          case rel => exact ⟨z + 1, by omega, by omega, by go_num, F.trans' f7⟩
          case measure => simp [intOf]; omega
        · have hzz : ¬ z ≤ 19 := hlt
          clear hz1 hz2
          have HC8 : Hid (∀ wq, Fr (fun _ => False) wr wq → wq.cell? ⟨b8, 0, none⟩ = some (.int .i64 (N : Int))) := fun wq f => by rw [(HB8.out.fr (F.trans' f) (fun h => h)).cell]; rfl
          have HPr : Hid (∀ wq, Fr (fun _ => False) wr wq → Calls Try.prog 14 #[.slice aS 19 cs, .int .i64 (N : Int)] wq fun e w' => e = .returned (.int .i64 (parentZ (N : Int))) ∧ Fr (fun _ => False) wq w') := fun wq f => rparent_any aS cs bs (N : Int) wq (HBs.out.quiet (F.trans' f))
          have HPb := hid (fun wq => bparent_any (N : Int) wq)
          have HCt := hid (fun wq => bcount_any D wq)
          have HFr := hid (F11.trans' F)
          obtain ⟨pz, hpz⟩ : ∃ pz, parentZ (N : Int) = pz := ⟨_, rfl⟩
          obtain ⟨ct, hct⟩ : ∃ ct, countB D = ct := ⟨_, rfl⟩
          rw [hpz] at HPr HPb
          rw [hct] at HCt
          clear hpz F
          by_cases h0 : 0 ≤ D
          · by_cases h6 : D ≤ 6
            · have hct' : 3 * D + 1 = ct := by rw [← hct, countB, if_pos ⟨h0, h6⟩]
              clear hct
              go_wp2
              refine weaveS 12 [.eq (Value.int .i64 D), .eq (Value.int .i64 ct), .eq (Value.int .i64 ct), .eq (Value.bool true), .eq (Value.bool true), .eq (Value.int .i64 (N : Int)), .eq (Value.int .i64 pz), .eq (Value.slice aS 19 cs), .eq (Value.int .i64 (N : Int)), .eq (Value.int .i64 pz), .eq (Value.bool true), .eq (Value.bool true)] (by kernel_rfl) (by kernel_rfl) ?obls ?tail
              case obls =>
                simp only [List.take_succ_cons, List.take_zero]
                refine ⟨?_, ?_, ?_, ?_, ?_, ?_, ?_, ?_, ?_, ?_, ?_, ?_, trivial⟩
                · intro vals wq f h
                  simp only [fillA, fillT, List.setIfInBounds_toArray, List.set_cons_succ, List.set_cons_zero, Option.getD_some, Nat.zero_add, Nat.reduceAdd]
                  have c8 := HC8.out wq ((Fr.refl _ wr).drew.trans' f)
                  clear h
                  go_wp2
                  exact ⟨rfl, rfl, _, rfl, Fr.refl _ _, rfl⟩
                · intro vals wq f h
                  simp only [fillA, fillT, List.setIfInBounds_toArray, List.set_cons_succ, List.set_cons_zero, Option.getD_some, Nat.zero_add, Nat.reduceAdd]
                  have h0 : vals 0 = Value.int .i64 D := h 0 (by kernel_rfl)
                  rw [h0]
                  have c8 := HC8.out wq ((Fr.refl _ wr).drew.trans' f)
                  clear h
                  go_wp2_with fail
                  refine (HCt.out wq).mono ?_
                  rintro e w6 ⟨rfl, rfl⟩
                  go_wp2
                  exact ⟨rfl, rfl, _, rfl, Fr.refl _ _, rfl⟩
                · intro vals wq f h
                  simp only [fillA, fillT, List.setIfInBounds_toArray, List.set_cons_succ, List.set_cons_zero, Option.getD_some, Nat.zero_add, Nat.reduceAdd]
                  have c8 := HC8.out wq ((Fr.refl _ wr).drew.trans' f)
                  clear h
                  go_wp2
                  exact ⟨rfl, rfl, _, rfl, Fr.refl _ _, rfl⟩
                · intro vals wq f h
                  simp only [fillA, fillT, List.setIfInBounds_toArray, List.set_cons_succ, List.set_cons_zero, Option.getD_some, Nat.zero_add, Nat.reduceAdd]
                  have h1 : vals 1 = Value.int .i64 ct := h 1 (by kernel_rfl)
                  rw [h1]
                  have h2 : vals 2 = Value.int .i64 ct := h 2 (by kernel_rfl)
                  rw [h2]
                  have c8 := HC8.out wq ((Fr.refl _ wr).drew.trans' f)
                  clear h
                  go_wp2
                  exact ⟨rfl, rfl, _, rfl, Fr.refl _ _, rfl⟩
                · intro vals wq f h
                  simp only [fillA, fillT, List.setIfInBounds_toArray, List.set_cons_succ, List.set_cons_zero, Option.getD_some, Nat.zero_add, Nat.reduceAdd]
                  have h3 : vals 3 = Value.bool true := h 3 (by kernel_rfl)
                  rw [h3]
                  have c8 := HC8.out wq ((Fr.refl _ wr).drew.trans' f)
                  clear h
                  go_wp2
                  exact ⟨rfl, rfl, _, rfl, Fr.refl _ _, rfl⟩
                · intro vals wq f h
                  simp only [fillA, fillT, List.setIfInBounds_toArray, List.set_cons_succ, List.set_cons_zero, Option.getD_some, Nat.zero_add, Nat.reduceAdd]
                  have h4 : vals 4 = Value.bool true := h 4 (by kernel_rfl)
                  rw [h4]
                  have c8 := HC8.out wq ((Fr.refl _ wr).drew.trans' f)
                  clear h
                  go_wp2
                  exact ⟨rfl, rfl, _, rfl, Fr.refl _ _, rfl⟩
                · intro vals wq f h
                  simp only [fillA, fillT, List.setIfInBounds_toArray, List.set_cons_succ, List.set_cons_zero, Option.getD_some, Nat.zero_add, Nat.reduceAdd]
                  have h5 : vals 5 = Value.int .i64 (N : Int) := h 5 (by kernel_rfl)
                  rw [h5]
                  have h4 : vals 4 = Value.bool true := h 4 (by kernel_rfl)
                  rw [h4]
                  have c8 := HC8.out wq ((Fr.refl _ wr).drew.trans' f)
                  clear h
                  go_wp2_with fail
                  refine (HPb.out wq).mono ?_
                  rintro e w6 ⟨rfl, rfl⟩
                  go_wp2
                  exact ⟨rfl, rfl, _, rfl, Fr.refl _ _, rfl⟩
                · intro vals wq f h
                  simp only [fillA, fillT, List.setIfInBounds_toArray, List.set_cons_succ, List.set_cons_zero, Option.getD_some, Nat.zero_add, Nat.reduceAdd]
                  have h4 : vals 4 = Value.bool true := h 4 (by kernel_rfl)
                  rw [h4]
                  have c8 := HC8.out wq ((Fr.refl _ wr).drew.trans' f)
                  clear h
                  go_wp2
                  exact ⟨rfl, rfl, _, rfl, Fr.refl _ _, rfl⟩
                · intro vals wq f h
                  simp only [fillA, fillT, List.setIfInBounds_toArray, List.set_cons_succ, List.set_cons_zero, Option.getD_some, Nat.zero_add, Nat.reduceAdd]
                  have h4 : vals 4 = Value.bool true := h 4 (by kernel_rfl)
                  rw [h4]
                  have c8 := HC8.out wq ((Fr.refl _ wr).drew.trans' f)
                  clear h
                  go_wp2
                  exact ⟨rfl, rfl, _, rfl, Fr.refl _ _, rfl⟩
                · intro vals wq f h
                  simp only [fillA, fillT, List.setIfInBounds_toArray, List.set_cons_succ, List.set_cons_zero, Option.getD_some, Nat.zero_add, Nat.reduceAdd]
                  have h7 : vals 7 = Value.slice aS 19 cs := h 7 (by kernel_rfl)
                  rw [h7]
                  have h8 : vals 8 = Value.int .i64 (N : Int) := h 8 (by kernel_rfl)
                  rw [h8]
                  have h4 : vals 4 = Value.bool true := h 4 (by kernel_rfl)
                  rw [h4]
                  have c8 := HC8.out wq ((Fr.refl _ wr).drew.trans' f)
                  clear h
                  go_wp2_with fail
                  refine (HPr.out wq ((Fr.refl _ wr).drew.trans' f)).mono ?_
                  rintro e w6 ⟨rfl, f6⟩
                  go_wp2
                  exact ⟨rfl, rfl, _, rfl, f6, rfl⟩
                · intro vals wq f h
                  simp only [fillA, fillT, List.setIfInBounds_toArray, List.set_cons_succ, List.set_cons_zero, Option.getD_some, Nat.zero_add, Nat.reduceAdd]
                  have h6 : vals 6 = Value.int .i64 pz := h 6 (by kernel_rfl)
                  rw [h6]
                  have h9 : vals 9 = Value.int .i64 pz := h 9 (by kernel_rfl)
                  rw [h9]
                  have h4 : vals 4 = Value.bool true := h 4 (by kernel_rfl)
                  rw [h4]
                  have c8 := HC8.out wq ((Fr.refl _ wr).drew.trans' f)
                  clear h
                  go_wp2
                  exact ⟨rfl, rfl, _, rfl, Fr.refl _ _, rfl⟩
                · intro vals wq f h
                  simp only [fillA, fillT, List.setIfInBounds_toArray, List.set_cons_succ, List.set_cons_zero, Option.getD_some, Nat.zero_add, Nat.reduceAdd]
                  have h4 : vals 4 = Value.bool true := h 4 (by kernel_rfl)
                  rw [h4]
                  have h10 : vals 10 = Value.bool true := h 10 (by kernel_rfl)
                  rw [h10]
                  have c8 := HC8.out wq ((Fr.refl _ wr).drew.trans' f)
                  clear h
                  go_wp2
                  exact ⟨rfl, rfl, _, rfl, Fr.refl _ _, rfl⟩
              case tail =>
                intro vals wq f h
                simp only [List.take_succ_cons, List.take_zero, fillA, fillT, List.setIfInBounds_toArray, List.set_cons_succ, List.set_cons_zero, List.drop_succ_cons, List.drop_zero, Nat.zero_add, Nat.reduceAdd]
                have h11 : vals 11 = Value.bool true := h 11 (by omega)
                rw [h11]
                have HE := hid ((HFr.out.trans' ((Fr.refl _ wr).drew.trans' f)).below (Nat.le_refl _) (fun _ _ h => h))
                clear h h11 f
                gi_wp2
                go_wp2
                go_ret
                exact ⟨rfl, HE.out⟩
            · have hct' : 0 = ct := by rw [← hct, countB, if_neg (by omega)]
              subst hct'
              clear hct
              go_wp2
              refine weaveS 12 [.eq (Value.int .i64 D), .eq (Value.int .i64 0), .eq (Value.int .i64 0), .eq (Value.bool true), .eq (Value.bool true), .eq (Value.int .i64 (N : Int)), .eq (Value.int .i64 pz), .eq (Value.slice aS 19 cs), .eq (Value.int .i64 (N : Int)), .eq (Value.int .i64 pz), .eq (Value.bool true), .eq (Value.bool true)] (by kernel_rfl) (by kernel_rfl) ?obls ?tail
              case obls =>
                simp only [List.take_succ_cons, List.take_zero]
                refine ⟨?_, ?_, ?_, ?_, ?_, ?_, ?_, ?_, ?_, ?_, ?_, ?_, trivial⟩
                · intro vals wq f h
                  simp only [fillA, fillT, List.setIfInBounds_toArray, List.set_cons_succ, List.set_cons_zero, Option.getD_some, Nat.zero_add, Nat.reduceAdd]
                  have c8 := HC8.out wq ((Fr.refl _ wr).drew.trans' f)
                  clear h
                  go_wp2
                  exact ⟨rfl, rfl, _, rfl, Fr.refl _ _, rfl⟩
                · intro vals wq f h
                  simp only [fillA, fillT, List.setIfInBounds_toArray, List.set_cons_succ, List.set_cons_zero, Option.getD_some, Nat.zero_add, Nat.reduceAdd]
                  have h0 : vals 0 = Value.int .i64 D := h 0 (by kernel_rfl)
                  rw [h0]
                  have c8 := HC8.out wq ((Fr.refl _ wr).drew.trans' f)
                  clear h
                  go_wp2_with fail
                  refine (HCt.out wq).mono ?_
                  rintro e w6 ⟨rfl, rfl⟩
                  go_wp2
                  exact ⟨rfl, rfl, _, rfl, Fr.refl _ _, rfl⟩
                · intro vals wq f h
                  simp only [fillA, fillT, List.setIfInBounds_toArray, List.set_cons_succ, List.set_cons_zero, Option.getD_some, Nat.zero_add, Nat.reduceAdd]
                  have c8 := HC8.out wq ((Fr.refl _ wr).drew.trans' f)
                  clear h
                  go_wp2
                  exact ⟨rfl, rfl, _, rfl, Fr.refl _ _, rfl⟩
                · intro vals wq f h
                  simp only [fillA, fillT, List.setIfInBounds_toArray, List.set_cons_succ, List.set_cons_zero, Option.getD_some, Nat.zero_add, Nat.reduceAdd]
                  have h1 : vals 1 = Value.int .i64 0 := h 1 (by kernel_rfl)
                  rw [h1]
                  have h2 : vals 2 = Value.int .i64 0 := h 2 (by kernel_rfl)
                  rw [h2]
                  have c8 := HC8.out wq ((Fr.refl _ wr).drew.trans' f)
                  clear h
                  go_wp2
                  exact ⟨rfl, rfl, _, rfl, Fr.refl _ _, rfl⟩
                · intro vals wq f h
                  simp only [fillA, fillT, List.setIfInBounds_toArray, List.set_cons_succ, List.set_cons_zero, Option.getD_some, Nat.zero_add, Nat.reduceAdd]
                  have h3 : vals 3 = Value.bool true := h 3 (by kernel_rfl)
                  rw [h3]
                  have c8 := HC8.out wq ((Fr.refl _ wr).drew.trans' f)
                  clear h
                  go_wp2
                  exact ⟨rfl, rfl, _, rfl, Fr.refl _ _, rfl⟩
                · intro vals wq f h
                  simp only [fillA, fillT, List.setIfInBounds_toArray, List.set_cons_succ, List.set_cons_zero, Option.getD_some, Nat.zero_add, Nat.reduceAdd]
                  have h4 : vals 4 = Value.bool true := h 4 (by kernel_rfl)
                  rw [h4]
                  have c8 := HC8.out wq ((Fr.refl _ wr).drew.trans' f)
                  clear h
                  go_wp2
                  exact ⟨rfl, rfl, _, rfl, Fr.refl _ _, rfl⟩
                · intro vals wq f h
                  simp only [fillA, fillT, List.setIfInBounds_toArray, List.set_cons_succ, List.set_cons_zero, Option.getD_some, Nat.zero_add, Nat.reduceAdd]
                  have h5 : vals 5 = Value.int .i64 (N : Int) := h 5 (by kernel_rfl)
                  rw [h5]
                  have h4 : vals 4 = Value.bool true := h 4 (by kernel_rfl)
                  rw [h4]
                  have c8 := HC8.out wq ((Fr.refl _ wr).drew.trans' f)
                  clear h
                  go_wp2_with fail
                  refine (HPb.out wq).mono ?_
                  rintro e w6 ⟨rfl, rfl⟩
                  go_wp2
                  exact ⟨rfl, rfl, _, rfl, Fr.refl _ _, rfl⟩
                · intro vals wq f h
                  simp only [fillA, fillT, List.setIfInBounds_toArray, List.set_cons_succ, List.set_cons_zero, Option.getD_some, Nat.zero_add, Nat.reduceAdd]
                  have h4 : vals 4 = Value.bool true := h 4 (by kernel_rfl)
                  rw [h4]
                  have c8 := HC8.out wq ((Fr.refl _ wr).drew.trans' f)
                  clear h
                  go_wp2
                  exact ⟨rfl, rfl, _, rfl, Fr.refl _ _, rfl⟩
                · intro vals wq f h
                  simp only [fillA, fillT, List.setIfInBounds_toArray, List.set_cons_succ, List.set_cons_zero, Option.getD_some, Nat.zero_add, Nat.reduceAdd]
                  have h4 : vals 4 = Value.bool true := h 4 (by kernel_rfl)
                  rw [h4]
                  have c8 := HC8.out wq ((Fr.refl _ wr).drew.trans' f)
                  clear h
                  go_wp2
                  exact ⟨rfl, rfl, _, rfl, Fr.refl _ _, rfl⟩
                · intro vals wq f h
                  simp only [fillA, fillT, List.setIfInBounds_toArray, List.set_cons_succ, List.set_cons_zero, Option.getD_some, Nat.zero_add, Nat.reduceAdd]
                  have h7 : vals 7 = Value.slice aS 19 cs := h 7 (by kernel_rfl)
                  rw [h7]
                  have h8 : vals 8 = Value.int .i64 (N : Int) := h 8 (by kernel_rfl)
                  rw [h8]
                  have h4 : vals 4 = Value.bool true := h 4 (by kernel_rfl)
                  rw [h4]
                  have c8 := HC8.out wq ((Fr.refl _ wr).drew.trans' f)
                  clear h
                  go_wp2_with fail
                  refine (HPr.out wq ((Fr.refl _ wr).drew.trans' f)).mono ?_
                  rintro e w6 ⟨rfl, f6⟩
                  go_wp2
                  exact ⟨rfl, rfl, _, rfl, f6, rfl⟩
                · intro vals wq f h
                  simp only [fillA, fillT, List.setIfInBounds_toArray, List.set_cons_succ, List.set_cons_zero, Option.getD_some, Nat.zero_add, Nat.reduceAdd]
                  have h6 : vals 6 = Value.int .i64 pz := h 6 (by kernel_rfl)
                  rw [h6]
                  have h9 : vals 9 = Value.int .i64 pz := h 9 (by kernel_rfl)
                  rw [h9]
                  have h4 : vals 4 = Value.bool true := h 4 (by kernel_rfl)
                  rw [h4]
                  have c8 := HC8.out wq ((Fr.refl _ wr).drew.trans' f)
                  clear h
                  go_wp2
                  exact ⟨rfl, rfl, _, rfl, Fr.refl _ _, rfl⟩
                · intro vals wq f h
                  simp only [fillA, fillT, List.setIfInBounds_toArray, List.set_cons_succ, List.set_cons_zero, Option.getD_some, Nat.zero_add, Nat.reduceAdd]
                  have h4 : vals 4 = Value.bool true := h 4 (by kernel_rfl)
                  rw [h4]
                  have h10 : vals 10 = Value.bool true := h 10 (by kernel_rfl)
                  rw [h10]
                  have c8 := HC8.out wq ((Fr.refl _ wr).drew.trans' f)
                  clear h
                  go_wp2
                  exact ⟨rfl, rfl, _, rfl, Fr.refl _ _, rfl⟩
              case tail =>
                intro vals wq f h
                simp only [List.take_succ_cons, List.take_zero, fillA, fillT, List.setIfInBounds_toArray, List.set_cons_succ, List.set_cons_zero, List.drop_succ_cons, List.drop_zero, Nat.zero_add, Nat.reduceAdd]
                have h11 : vals 11 = Value.bool true := h 11 (by omega)
                rw [h11]
                have HE := hid ((HFr.out.trans' ((Fr.refl _ wr).drew.trans' f)).below (Nat.le_refl _) (fun _ _ h => h))
                clear h h11 f
                gi_wp2
                go_wp2
                go_ret
                exact ⟨rfl, HE.out⟩
          · have hct' : 0 = ct := by rw [← hct, countB, if_neg (by omega)]
            subst hct'
            clear hct
            go_wp2
            refine weaveS 12 [.eq (Value.int .i64 D), .eq (Value.int .i64 0), .eq (Value.int .i64 0), .eq (Value.bool true), .eq (Value.bool true), .eq (Value.int .i64 (N : Int)), .eq (Value.int .i64 pz), .eq (Value.slice aS 19 cs), .eq (Value.int .i64 (N : Int)), .eq (Value.int .i64 pz), .eq (Value.bool true), .eq (Value.bool true)] (by kernel_rfl) (by kernel_rfl) ?obls ?tail
            case obls =>
              simp only [List.take_succ_cons, List.take_zero]
              refine ⟨?_, ?_, ?_, ?_, ?_, ?_, ?_, ?_, ?_, ?_, ?_, ?_, trivial⟩
              · intro vals wq f h
                simp only [fillA, fillT, List.setIfInBounds_toArray, List.set_cons_succ, List.set_cons_zero, Option.getD_some, Nat.zero_add, Nat.reduceAdd]
                have c8 := HC8.out wq ((Fr.refl _ wr).drew.trans' f)
                clear h
                go_wp2
                exact ⟨rfl, rfl, _, rfl, Fr.refl _ _, rfl⟩
              · intro vals wq f h
                simp only [fillA, fillT, List.setIfInBounds_toArray, List.set_cons_succ, List.set_cons_zero, Option.getD_some, Nat.zero_add, Nat.reduceAdd]
                have h0 : vals 0 = Value.int .i64 D := h 0 (by kernel_rfl)
                rw [h0]
                have c8 := HC8.out wq ((Fr.refl _ wr).drew.trans' f)
                clear h
                go_wp2_with fail
                refine (HCt.out wq).mono ?_
                rintro e w6 ⟨rfl, rfl⟩
                go_wp2
                exact ⟨rfl, rfl, _, rfl, Fr.refl _ _, rfl⟩
              · intro vals wq f h
                simp only [fillA, fillT, List.setIfInBounds_toArray, List.set_cons_succ, List.set_cons_zero, Option.getD_some, Nat.zero_add, Nat.reduceAdd]
                have c8 := HC8.out wq ((Fr.refl _ wr).drew.trans' f)
                clear h
                go_wp2
                exact ⟨rfl, rfl, _, rfl, Fr.refl _ _, rfl⟩
              · intro vals wq f h
                simp only [fillA, fillT, List.setIfInBounds_toArray, List.set_cons_succ, List.set_cons_zero, Option.getD_some, Nat.zero_add, Nat.reduceAdd]
                have h1 : vals 1 = Value.int .i64 0 := h 1 (by kernel_rfl)
                rw [h1]
                have h2 : vals 2 = Value.int .i64 0 := h 2 (by kernel_rfl)
                rw [h2]
                have c8 := HC8.out wq ((Fr.refl _ wr).drew.trans' f)
                clear h
                go_wp2
                exact ⟨rfl, rfl, _, rfl, Fr.refl _ _, rfl⟩
              · intro vals wq f h
                simp only [fillA, fillT, List.setIfInBounds_toArray, List.set_cons_succ, List.set_cons_zero, Option.getD_some, Nat.zero_add, Nat.reduceAdd]
                have h3 : vals 3 = Value.bool true := h 3 (by kernel_rfl)
                rw [h3]
                have c8 := HC8.out wq ((Fr.refl _ wr).drew.trans' f)
                clear h
                go_wp2
                exact ⟨rfl, rfl, _, rfl, Fr.refl _ _, rfl⟩
              · intro vals wq f h
                simp only [fillA, fillT, List.setIfInBounds_toArray, List.set_cons_succ, List.set_cons_zero, Option.getD_some, Nat.zero_add, Nat.reduceAdd]
                have h4 : vals 4 = Value.bool true := h 4 (by kernel_rfl)
                rw [h4]
                have c8 := HC8.out wq ((Fr.refl _ wr).drew.trans' f)
                clear h
                go_wp2
                exact ⟨rfl, rfl, _, rfl, Fr.refl _ _, rfl⟩
              · intro vals wq f h
                simp only [fillA, fillT, List.setIfInBounds_toArray, List.set_cons_succ, List.set_cons_zero, Option.getD_some, Nat.zero_add, Nat.reduceAdd]
                have h5 : vals 5 = Value.int .i64 (N : Int) := h 5 (by kernel_rfl)
                rw [h5]
                have h4 : vals 4 = Value.bool true := h 4 (by kernel_rfl)
                rw [h4]
                have c8 := HC8.out wq ((Fr.refl _ wr).drew.trans' f)
                clear h
                go_wp2_with fail
                refine (HPb.out wq).mono ?_
                rintro e w6 ⟨rfl, rfl⟩
                go_wp2
                exact ⟨rfl, rfl, _, rfl, Fr.refl _ _, rfl⟩
              · intro vals wq f h
                simp only [fillA, fillT, List.setIfInBounds_toArray, List.set_cons_succ, List.set_cons_zero, Option.getD_some, Nat.zero_add, Nat.reduceAdd]
                have h4 : vals 4 = Value.bool true := h 4 (by kernel_rfl)
                rw [h4]
                have c8 := HC8.out wq ((Fr.refl _ wr).drew.trans' f)
                clear h
                go_wp2
                exact ⟨rfl, rfl, _, rfl, Fr.refl _ _, rfl⟩
              · intro vals wq f h
                simp only [fillA, fillT, List.setIfInBounds_toArray, List.set_cons_succ, List.set_cons_zero, Option.getD_some, Nat.zero_add, Nat.reduceAdd]
                have h4 : vals 4 = Value.bool true := h 4 (by kernel_rfl)
                rw [h4]
                have c8 := HC8.out wq ((Fr.refl _ wr).drew.trans' f)
                clear h
                go_wp2
                exact ⟨rfl, rfl, _, rfl, Fr.refl _ _, rfl⟩
              · intro vals wq f h
                simp only [fillA, fillT, List.setIfInBounds_toArray, List.set_cons_succ, List.set_cons_zero, Option.getD_some, Nat.zero_add, Nat.reduceAdd]
                have h7 : vals 7 = Value.slice aS 19 cs := h 7 (by kernel_rfl)
                rw [h7]
                have h8 : vals 8 = Value.int .i64 (N : Int) := h 8 (by kernel_rfl)
                rw [h8]
                have h4 : vals 4 = Value.bool true := h 4 (by kernel_rfl)
                rw [h4]
                have c8 := HC8.out wq ((Fr.refl _ wr).drew.trans' f)
                clear h
                go_wp2_with fail
                refine (HPr.out wq ((Fr.refl _ wr).drew.trans' f)).mono ?_
                rintro e w6 ⟨rfl, f6⟩
                go_wp2
                exact ⟨rfl, rfl, _, rfl, f6, rfl⟩
              · intro vals wq f h
                simp only [fillA, fillT, List.setIfInBounds_toArray, List.set_cons_succ, List.set_cons_zero, Option.getD_some, Nat.zero_add, Nat.reduceAdd]
                have h6 : vals 6 = Value.int .i64 pz := h 6 (by kernel_rfl)
                rw [h6]
                have h9 : vals 9 = Value.int .i64 pz := h 9 (by kernel_rfl)
                rw [h9]
                have h4 : vals 4 = Value.bool true := h 4 (by kernel_rfl)
                rw [h4]
                have c8 := HC8.out wq ((Fr.refl _ wr).drew.trans' f)
                clear h
                go_wp2
                exact ⟨rfl, rfl, _, rfl, Fr.refl _ _, rfl⟩
              · intro vals wq f h
                simp only [fillA, fillT, List.setIfInBounds_toArray, List.set_cons_succ, List.set_cons_zero, Option.getD_some, Nat.zero_add, Nat.reduceAdd]
                have h4 : vals 4 = Value.bool true := h 4 (by kernel_rfl)
                rw [h4]
                have h10 : vals 10 = Value.bool true := h 10 (by kernel_rfl)
                rw [h10]
                have c8 := HC8.out wq ((Fr.refl _ wr).drew.trans' f)
                clear h
                go_wp2
                exact ⟨rfl, rfl, _, rfl, Fr.refl _ _, rfl⟩
            case tail =>
              intro vals wq f h
              simp only [List.take_succ_cons, List.take_zero, fillA, fillT, List.setIfInBounds_toArray, List.set_cons_succ, List.set_cons_zero, List.drop_succ_cons, List.drop_zero, Nat.zero_add, Nat.reduceAdd]
              have h11 : vals 11 = Value.bool true := h 11 (by omega)
              rw [h11]
              have HE := hid ((HFr.out.trans' ((Fr.refl _ wr).drew.trans' f)).below (Nat.le_refl _) (fun _ _ h => h))
              clear h h11 f
              gi_wp2
              go_wp2
              go_ret
              exact ⟨rfl, HE.out⟩
    
end Go.Proofs.Ytgmainbgliejhaa
