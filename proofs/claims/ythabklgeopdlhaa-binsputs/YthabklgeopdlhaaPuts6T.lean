/-
  Law package 6: how any numbers are coded (BinsPuts), by a set that is right: the walk. (Written by gen_puts6.py.)
-/
import Derived.Test.YthabklgeopdlhaaPutsM6
import Derived.Deep.RegionHeld3
import Derived.Deep.RegionHeldLaw
import Derived.StillTailTactics
namespace Go.Proofs.Ythabklgeopdlhaa
open Go.RowKit

theorem rsame_6pT (w : World) (v1 v2 : Value) (A : List Int) (h1 : Reads w v1 (intRow A)) (h2 : Reads w v2 (intRow A)) (hA : A.length ≤ 1000000) :
    Calls Try.prog 20 #[v1, v2] w fun e w' => e = .returned (.bool true) ∧ Fr (fun _ => False) w w' := by
  have := rsame_any w v1 v2 A A h1 h2 hA hA
  rw [show decide (A = A) = true by simp] at this
  exact this

theorem ways_T (y : Int) (n : Nat) (hn : 0 < n) : ((okN y && decide (0 < n)) = true ∧ (okN (unsN y) && decide (0 < n)) = true ∧ okN y = true ∧ okN (unsN y) = true) ∨ ((okN y && decide (0 < n)) = false ∧ (okN (unsN y) && decide (0 < n)) = true ∧ okN y = false ∧ okN (unsN y) = true) ∨ ((okN y && decide (0 < n)) = false ∧ (okN (unsN y) && decide (0 < n)) = false ∧ okN y = false ∧ okN (unsN y) = false) := by
  have hz : decide (0 < n) = true := by simpa using hn
  rw [hz, Bool.and_true, Bool.and_true]
  cases hq : okN y with
  | true => left; rw [okN_uns hq]; exact ⟨rfl, rfl, rfl, rfl⟩
  | false =>
    cases hu : okN (unsN y) with
    | true => right; left; exact ⟨rfl, rfl, rfl, rfl⟩
    | false => right; right; exact ⟨rfl, rfl, rfl, rfl⟩

set_option maxRecDepth 100000 in
set_option maxHeartbeats 8000000 in
theorem puts6_T (a2 : Option Addr) (n cap2 : Nat) (V : Nat → Int) (D S : Int) (cc : Int) (a : Option Addr) (len cap : Nat) (L : Nat → Int) (w : World) (hF : CellsIn w a2 n cap2 (fun i => .int .i64 (V i))) (h0 : CellsIn w a len cap (fun i => .int .i64 (L i))) (hb : ∀ i, -9223372036854775808 ≤ L i ∧ L i ≤ 9223372036854775807) (h100 : ¬ 100 < n) (hr : rightS V n D S (ctxN cc) = true) :
    Calls Try.prog 3 #[.agg #[.slice a2 n cap2, .int .i64 D, .int .i64 S], .int .i64 cc, .slice a len cap] w fun e w' => e = .returned (.bool true) ∧ Below w.heap.size w w' := by
  have hlen : (len : Int) ≤ 9223372036854775807 := by have := h0.1; have := h0.2.1; unfold maxLen at *; omega
  have h100' : ¬ (100 : Int) < (n : Int) := by omega
  obtain ⟨b, sv, hbw⟩ := SetV.of_in hF
  have HF : Hid (a2 = none → n = 0 ∧ cap2 = 0) := by
    show _ → _
    intro e
    rcases hF.2.2 with ⟨_, h1, h2⟩ | ⟨_, _, _, h1, _⟩
    · exact ⟨h1, h2⟩
    · rw [e] at h1; cases h1
  obtain ⟨W, hW⟩ : ∃ W, W = w.alloc (.cells #[.slice a2 n cap2, .int .i64 D, .int .i64 S] 24) := ⟨_, rfl⟩
  have F0 : Fr (fun _ => False) w W := by rw [hW]; exact (Fr.refl _ w).alloc _
  have O0 : SetObj W w.heap.size a2 n cap2 V b D S := ⟨by rw [hW]; exact Blk.new w _ _, sv.quiet F0⟩
  have HW := hid hW
  have H0 := hid h0
  have HV := hid hb
  clear h0 hW hF sv hb
  have c1 := (ctxN_bounds cc).1
  have c2 := (ctxN_bounds cc).2.1
  go_enter Try.func3, Try.ntmps3
  go_wp2_with fail
  rw [← HW.out]
  refine (first6_any _).mono ?_
  rintro e w1 ⟨rfl, f1⟩
  have O1 := O0.quiet f1
  have F1 := F0.trans' f1
  clear O0 F0 f1
  have k0 := O1.k0
  have hw1 : w.heap.size < w1.heap.size := cell_lt k0
  go_wp2_with fail
  refine (newEnc_any w1 cc).mono ?_
  rintro e w3 ⟨p, g, rfl, h3, hg3, f3⟩
  have F3 : Fr (fun _ => False) w w3 := F1.trans' f3
  go_wp2_with fail
  refine (rnewEnc_any w3 cc).mono ?_
  rintro e w4 ⟨px, vx, rfl, x4, hpx, hvx, f4⟩
  obtain ⟨B, hB⟩ : ∃ B, B = w3.heap.size := ⟨_, rfl⟩
  have P4 : PS w w4 B p g px (ctxN cc) a2 n cap2 V b D S (.slice none 0 0) [] vx (startC (ctxN cc)) (startC (ctxN cc)) :=
    ⟨h3.quiet f4, x4, (O1.quiet f3).quiet f4, fun j hj => ⟨by rw [hB]; exact hvx j hj, fun e => by cases e⟩, fun e => (by cases e), by rw [hB]; exact h3.blk.lt, by rw [hB]; exact hpx, by omega, hbw, F3.trans' f4⟩
  clear h3 F3 f3 f4 hg3 F1 O1 x4 hpx hvx hB k0
  generalize ctxN cc = c at *
  obtain ⟨ax, capx, rfl, _⟩ := ownsRow_form P4.rx.own
  have k0 := P4.ob.k0
  have k1 := P4.ob.k1
  have k2 := P4.ob.k2
  have kp : w4.cell? ⟨px, 0, none⟩ = some (.slice ax c capx) := by rw [P4.rx.blk.cell]; rfl
  have HR : Hid (Calls Try.prog 10 #[.agg #[.slice a2 n cap2, .int .i64 D, .int .i64 S], .int .i64 (c : Int)] w4.drew fun e w' => e = .returned (.bool true) ∧ Fr (fun _ => False) w4 w') := by
    have := rright_any w4.drew a2 n cap2 V b D S c (P4.ob.set.quiet ((Fr.refl (fun _ => False) w4).drew)) HF.out (by omega)
    rw [hr] at this
    refine this.mono ?_
    rintro e w2 ⟨rfl, f2⟩
    exact ⟨rfl, ((Fr.refl (fun _ => False) w4).drew).trans' f2⟩
  go_wp2
  refine wp_region_still_tail 6 (by kernel_rfl) (by kernel_rfl) ?_
  show wpStill Try.prog _ w4.drew (fun a' => wpList Try.prog _ _ _ a' w4.drew) _ _
  simp only [List.take_succ_cons, List.take_zero, List.drop_succ_cons, List.drop_zero]
  repeat still_step
  refine wpStill_nil ?_
  go_wp2_with fail
  refine HR.out.mono ?_
  rintro e w5 ⟨rfl, f5⟩
  have P5 := P4.quiet f5
  clear HR k0 k1 k2 kp f5 P4
  go_wp2
  go_loopw [38] (fun i wr => ∃ (k : Nat) (s : CS) (v : Value) (zs : List Nat) (u : Value), k ≤ len ∧ k ≤ 40 ∧ i = .int .i64 (k : Int) ∧ Good c s ∧ s.N ≤ 162 * k ∧ PS w wr B p g px c a2 n cap2 V b D S v zs u s s) (fun i _ => len - (intOf i).toNat)
  case atStart => exact ⟨0, _, _, _, _, Nat.zero_le _, Nat.zero_le _, rfl, Good.first _, Nat.le_refl _, P5⟩
  case round =>
    clear P5
    obtain ⟨k, s, v5, zs5, u5, hk, hk4, rfl, hG, hN, P5⟩ := hrel
    by_cases hgo : k < len ∧ k < 40
    · obtain ⟨hlt, h40⟩ := hgo
      obtain ⟨b3, off, rfl, hcell⟩ := (H0.out.fr P5.fr).at hlt
      have hck := hcell k hlt
      have hki : (k : Int) < (len : Int) := by omega
      have h4i : ¬ (40 : Int) ≤ (k : Int) := by omega
      obtain ⟨y0, y1⟩ := HV.out k
      generalize L k = y at hck y0 y1
      clear hcell
      rcases ways_T y n (rightS_true hr).1 with ⟨hok, his, hq, hu⟩ | ⟨hok, his, hq, hu⟩ | ⟨hok, his, hq, hu⟩
      · as_aux_lemma =>
          have hG8 := putN_good (V := V) (n := n) (D := D) (S := S) hG y
          have hN8 := putN_N (V := V) (n := n) (D := D) (S := S) (c := c) s y
          have hG9 := putG_good (V := V) (n := n) (D := D) (S := S) hG8 y
          have hN9 := putG_N (V := V) (n := n) (D := D) (S := S) (c := c) (putN V n D S c s y) y
          have HSAME := hid (puts_same hr s y)
          have HP1 : Hid ((okN y && rightS V n D S c) = true) := by show _ = _; rw [hr, hq]; rfl
          have HP2 : Hid ((okN (unsN y) && rightS V n D S c) = true) := by show _ = _; rw [hr, hu]; rfl
          have HS1 := hid hok
          have HS2 := hid his
          have HBits : Hid (∀ u, Calls Try.prog 16 #[.int .i64 y] u fun e w' => e = .returned (.int .i64 (ncost y.toNat : Int)) ∧ w' = u) := by
            show ∀ u, _
            intro u
            have := bbits_any y u
            rw [hq] at this
            exact this
          clear hok his
          have k0 := P5.ob.k0
          have k1 := P5.ob.k1
          have k2 := P5.ob.k2
          go_wp2_with fail
          refine (rsteps_any wr a2 n cap2 V b D S y P5.ob.set).mono ?_
          rintro e w6 ⟨vs1, rfl, o6, f6⟩
          rw [HS1.out]
          have R6 := RowK.new P5 o6
          have P6 := P5.quiet f6
          clear o6 f6 P5 k0 k1 k2
          have k0 := P6.ob.k0
          have k1 := P6.ob.k1
          have k2 := P6.ob.k2
          go_wp2_with fail
          refine (rsigned_any w6 a2 n cap2 V b D S y P6.ob.set y0).mono ?_
          rintro e w7 ⟨vs2, rfl, o7, f7⟩
          rw [HS2.out]
          have T7 := RowK.new P6 o7
          have R7 := R6.quiet f7
          have P7 := P6.quiet f7
          clear o7 f7 P6 R6 k0 k1 k2
          have k0 := P7.ob.k0
          have k1 := P7.ob.k1
          have k2 := P7.ob.k2
          go_wp2_with fail
          refine (bput_any w7 p g v5 zs5 c s a2 n cap2 V b D S y P7.en P7.ob.set P7.off (by omega) (by omega) hG).mono ?_
          rintro e w8 ⟨rfl, v8, zs8, h8, st8⟩
          rw [HP1.out]
          have P8 := P7.put h8 st8
          have R8 := R7.put st8
          have T8 := T7.put st8
          clear h8 st8 P7 R7 T7 k0 k1 k2
          have k0 := P8.ob.k0
          have k1 := P8.ob.k1
          have k2 := P8.ob.k2
          go_wp2_with fail
          refine (bputS_any w8 p g v8 zs8 c _ a2 n cap2 V b D S y P8.en P8.ob.set P8.off (by omega) (by omega) hG8 y0 y1).mono ?_
          rintro e w9 ⟨rfl, v9, zs9, h9, st9⟩
          rw [HP2.out]
          have P9 := P8.put h9 st9
          have R9 := R8.put st9
          have T9 := T8.put st9
          clear h9 st9 P8 R8 T8 k0 k1 k2 hG8
          obtain ⟨s9, hs9⟩ : ∃ s9, s9 = putG V n D S c (putN V n D S c s y) y := ⟨_, rfl⟩
          rw [← hs9] at P9 hG9 hN9 HSAME
          clear hs9
          have k0 := P9.ob.k0
          have k1 := P9.ob.k1
          have k2 := P9.ob.k2
          go_wp2_with fail
          refine (bput_nil w9 a2 n cap2 V b D S y P9.ob.set).mono ?_
          rintro e w10 ⟨rfl, f10⟩
          have P10 := P9.quiet f10
          have R10 := R9.quiet f10
          have T10 := T9.quiet f10
          clear f10 P9 R9 T9 k0 k1 k2
          have hL1 := stepsL_len V n D y
          have hL2 := sgnL_len V n D S y
          have hG11 := runC_good c (stepsL V n D y) s hG
          have hN11 := runC_N c (stepsL V n D y) s
          go_wp2_with fail
          refine (rputs_any w10 px u5 c s 0 vs1 (stepsL V n D y) P10.rx R10.own (fun e => (R10.off _ e).2.2.1 rfl) (by omega) (by omega) hG).mono ?_
          rintro e w11 ⟨rfl, u11, x11, f11, hu11⟩
          have P11 := P10.putx x11 f11 hu11
          have T11 := T10.putx f11 hu11
          clear x11 f11 hu11 P10 R10 T10
          go_wp2_with fail
          refine (rputs_any w11 px u11 c _ 0 vs2 (sgnL V n D S y) P11.rx T11.own (fun e => (T11.off _ e).2.2.1 rfl) (by omega) (by omega) hG11).mono ?_
          rintro e w12 ⟨rfl, u12, x12, f12, hu12⟩
          rw [HSAME.out] at x12
          have P12 := P11.putx x12 f12 hu12
          clear x12 f12 hu12 P11 T11
          obtain ⟨y0', y1'⟩ := okN_true hq
          obtain ⟨W13, hW13⟩ : ∃ W13, W13 = w12.alloc (.cells #[.int .i64 0] 3) := ⟨_, rfl⟩
          have F13 : Fr (fun _ => False) w12 W13 := by rw [hW13]; exact (Fr.refl _ w12).alloc _
          have B13 : Blk W13 w12.heap.size #[.int .i64 0] 3 := by rw [hW13]; exact Blk.new w12 _ _
          have s13 : SetV W13 (some ⟨w12.heap.size, 0, none⟩) 1 1 idV w12.heap.size := ⟨Nat.le_refl _, by unfold maxLen; omega, fun _ => ⟨0, rfl, fun j hj => by obtain rfl : j = 0 := (by omega); rw [B13.cell]; rfl⟩⟩
          have P13 := P12.quiet F13
          have HW13 := hid hW13
          have hst : (stepsL idV 1 0 y).length = ncost y.toNat := by unfold stepsL; rw [hq, show (true && decide (0 < 1)) = true by decide, if_pos rfl, numSteps_length]
          have HST := hid hst
          clear hW13 hst
          go_wp2_with fail
          rw [← HW13.out]
          refine (rsteps_any W13 _ 1 1 idV w12.heap.size 0 0 y s13).mono ?_
          rintro e w14 ⟨vs3, rfl, o14, f14⟩
          rw [HST.out] at o14
          obtain ⟨a14, cap14, rfl, _⟩ := ownsRow_form2' o14
          have P14 := P13.quiet f14
          clear o14 f14 P13 F13 B13 s13 P12
          generalize ncost y.toNat = cst at *
          have hselfN : ((s9.N : Int) != (s9.N : Int)) = false := by simp
          have hselfB : ((cst : Int) != (cst : Int)) = false := by simp
          have c4 : w14.cell? ⟨px, 4, none⟩ = some (.int .i64 (s9.N : Int)) := by rw [P14.rx.blk.cell]; rfl
          have HC : Hid (∀ m, Calls Try.prog 17 #[.pointer (some ⟨p, 0, none⟩)] (w14.drewN m) fun e w' => e = .returned (.int .i64 (s9.N : Int)) ∧ w' = w14.drewN m) := fun m => ecount_any _ p g v9 zs9 c s9 (P14.en.quiet ((Fr.refl (fun _ => False) w14).drewN m))
          go_wp2
          go_quiet (first | (go_at_call 16; exact Calls.quiet_of_same (HBits.out _)) | (go_at_call 17; exact Calls.quiet_of_same (HC.out _)))
          go_wp2
          go_roundw
          case rel => exact ⟨k + 1, s9, v9, zs9, u12, by omega, by omega, by go_num, hG9, by omega, P14.quiet ((Fr.refl (fun _ => False) w14).drewN _)⟩
          case measure => simp [intOf]; omega
      · as_aux_lemma =>
          have hG8 := putN_good (V := V) (n := n) (D := D) (S := S) hG y
          have hN8 := putN_N (V := V) (n := n) (D := D) (S := S) (c := c) s y
          have hG9 := putG_good (V := V) (n := n) (D := D) (S := S) hG8 y
          have hN9 := putG_N (V := V) (n := n) (D := D) (S := S) (c := c) (putN V n D S c s y) y
          have HSAME := hid (puts_same hr s y)
          have HP1 : Hid ((okN y && rightS V n D S c) = false) := by show _ = _; rw [hr, hq]; rfl
          have HP2 : Hid ((okN (unsN y) && rightS V n D S c) = true) := by show _ = _; rw [hr, hu]; rfl
          have HS1 := hid hok
          have HS2 := hid his
          have HBits : Hid (∀ u, Calls Try.prog 16 #[.int .i64 y] u fun e w' => e = .returned (.int .i64 0) ∧ w' = u) := by
            show ∀ u, _
            intro u
            have := bbits_any y u
            rw [hq] at this
            exact this
          clear hok his
          have k0 := P5.ob.k0
          have k1 := P5.ob.k1
          have k2 := P5.ob.k2
          go_wp2_with fail
          refine (rsteps_any wr a2 n cap2 V b D S y P5.ob.set).mono ?_
          rintro e w6 ⟨vs1, rfl, o6, f6⟩
          rw [HS1.out]
          have R6 := RowK.new P5 o6
          have P6 := P5.quiet f6
          clear o6 f6 P5 k0 k1 k2
          have k0 := P6.ob.k0
          have k1 := P6.ob.k1
          have k2 := P6.ob.k2
          go_wp2_with fail
          refine (rsigned_any w6 a2 n cap2 V b D S y P6.ob.set y0).mono ?_
          rintro e w7 ⟨vs2, rfl, o7, f7⟩
          rw [HS2.out]
          have T7 := RowK.new P6 o7
          have R7 := R6.quiet f7
          have P7 := P6.quiet f7
          clear o7 f7 P6 R6 k0 k1 k2
          have k0 := P7.ob.k0
          have k1 := P7.ob.k1
          have k2 := P7.ob.k2
          go_wp2_with fail
          refine (bput_any w7 p g v5 zs5 c s a2 n cap2 V b D S y P7.en P7.ob.set P7.off (by omega) (by omega) hG).mono ?_
          rintro e w8 ⟨rfl, v8, zs8, h8, st8⟩
          rw [HP1.out]
          have P8 := P7.put h8 st8
          have R8 := R7.put st8
          have T8 := T7.put st8
          clear h8 st8 P7 R7 T7 k0 k1 k2
          have k0 := P8.ob.k0
          have k1 := P8.ob.k1
          have k2 := P8.ob.k2
          go_wp2_with fail
          refine (bputS_any w8 p g v8 zs8 c _ a2 n cap2 V b D S y P8.en P8.ob.set P8.off (by omega) (by omega) hG8 y0 y1).mono ?_
          rintro e w9 ⟨rfl, v9, zs9, h9, st9⟩
          rw [HP2.out]
          have P9 := P8.put h9 st9
          have R9 := R8.put st9
          have T9 := T8.put st9
          clear h9 st9 P8 R8 T8 k0 k1 k2 hG8
          obtain ⟨s9, hs9⟩ : ∃ s9, s9 = putG V n D S c (putN V n D S c s y) y := ⟨_, rfl⟩
          rw [← hs9] at P9 hG9 hN9 HSAME
          clear hs9
          have k0 := P9.ob.k0
          have k1 := P9.ob.k1
          have k2 := P9.ob.k2
          go_wp2_with fail
          refine (bput_nil w9 a2 n cap2 V b D S y P9.ob.set).mono ?_
          rintro e w10 ⟨rfl, f10⟩
          have P10 := P9.quiet f10
          have R10 := R9.quiet f10
          have T10 := T9.quiet f10
          clear f10 P9 R9 T9 k0 k1 k2
          have hL1 := stepsL_len V n D y
          have hL2 := sgnL_len V n D S y
          have hG11 := runC_good c (stepsL V n D y) s hG
          have hN11 := runC_N c (stepsL V n D y) s
          go_wp2_with fail
          refine (rputs_any w10 px u5 c s 0 vs1 (stepsL V n D y) P10.rx R10.own (fun e => (R10.off _ e).2.2.1 rfl) (by omega) (by omega) hG).mono ?_
          rintro e w11 ⟨rfl, u11, x11, f11, hu11⟩
          have P11 := P10.putx x11 f11 hu11
          have T11 := T10.putx f11 hu11
          clear x11 f11 hu11 P10 R10 T10
          go_wp2_with fail
          refine (rputs_any w11 px u11 c _ 0 vs2 (sgnL V n D S y) P11.rx T11.own (fun e => (T11.off _ e).2.2.1 rfl) (by omega) (by omega) hG11).mono ?_
          rintro e w12 ⟨rfl, u12, x12, f12, hu12⟩
          rw [HSAME.out] at x12
          have P12 := P11.putx x12 f12 hu12
          clear x12 f12 hu12 P11 T11
          have hqq : y < 0 ∨ (0 ≤ y ∧ 2199023255550 < y) := by have := okN_false hq; omega
          rcases hqq with hy | ⟨hy, hy'⟩
          · have P14 := P12
            clear P12
            have hyd : decide (0 ≤ y) = false := by simp; omega
            have hselfN : ((s9.N : Int) != (s9.N : Int)) = false := by simp
            have hselfB : (0 != 0) = false := by simp
            have c4 : w12.cell? ⟨px, 4, none⟩ = some (.int .i64 (s9.N : Int)) := by rw [P14.rx.blk.cell]; rfl
            have HC : Hid (∀ m, Calls Try.prog 17 #[.pointer (some ⟨p, 0, none⟩)] (w12.drewN m) fun e w' => e = .returned (.int .i64 (s9.N : Int)) ∧ w' = w12.drewN m) := fun m => ecount_any _ p g v9 zs9 c s9 (P14.en.quiet ((Fr.refl (fun _ => False) w12).drewN m))
            go_wp2
            go_quiet (first | (go_at_call 16; exact Calls.quiet_of_same (HBits.out _)) | (go_at_call 17; exact Calls.quiet_of_same (HC.out _)))
            go_wp2
            go_roundw
            case rel => exact ⟨k + 1, s9, v9, zs9, u12, by omega, by omega, by go_num, hG9, by omega, P14.quiet ((Fr.refl (fun _ => False) w12).drewN _)⟩
            case measure => simp [intOf]; omega
          · have P14 := P12
            clear P12
            have hyd : decide (y ≤ 2199023255550) = false := by simp; omega
            have hselfN : ((s9.N : Int) != (s9.N : Int)) = false := by simp
            have hselfB : (0 != 0) = false := by simp
            have c4 : w12.cell? ⟨px, 4, none⟩ = some (.int .i64 (s9.N : Int)) := by rw [P14.rx.blk.cell]; rfl
            have HC : Hid (∀ m, Calls Try.prog 17 #[.pointer (some ⟨p, 0, none⟩)] (w12.drewN m) fun e w' => e = .returned (.int .i64 (s9.N : Int)) ∧ w' = w12.drewN m) := fun m => ecount_any _ p g v9 zs9 c s9 (P14.en.quiet ((Fr.refl (fun _ => False) w12).drewN m))
            go_wp2
            go_quiet (first | (go_at_call 16; exact Calls.quiet_of_same (HBits.out _)) | (go_at_call 17; exact Calls.quiet_of_same (HC.out _)))
            go_wp2
            go_roundw
            case rel => exact ⟨k + 1, s9, v9, zs9, u12, by omega, by omega, by go_num, hG9, by omega, P14.quiet ((Fr.refl (fun _ => False) w12).drewN _)⟩
            case measure => simp [intOf]; omega
      · as_aux_lemma =>
          have hG8 := putN_good (V := V) (n := n) (D := D) (S := S) hG y
          have hN8 := putN_N (V := V) (n := n) (D := D) (S := S) (c := c) s y
          have hG9 := putG_good (V := V) (n := n) (D := D) (S := S) hG8 y
          have hN9 := putG_N (V := V) (n := n) (D := D) (S := S) (c := c) (putN V n D S c s y) y
          have HSAME := hid (puts_same hr s y)
          have HP1 : Hid ((okN y && rightS V n D S c) = false) := by show _ = _; rw [hr, hq]; rfl
          have HP2 : Hid ((okN (unsN y) && rightS V n D S c) = false) := by show _ = _; rw [hr, hu]; rfl
          have HS1 := hid hok
          have HS2 := hid his
          have HBits : Hid (∀ u, Calls Try.prog 16 #[.int .i64 y] u fun e w' => e = .returned (.int .i64 0) ∧ w' = u) := by
            show ∀ u, _
            intro u
            have := bbits_any y u
            rw [hq] at this
            exact this
          clear hok his
          have k0 := P5.ob.k0
          have k1 := P5.ob.k1
          have k2 := P5.ob.k2
          go_wp2_with fail
          refine (rsteps_any wr a2 n cap2 V b D S y P5.ob.set).mono ?_
          rintro e w6 ⟨vs1, rfl, o6, f6⟩
          rw [HS1.out]
          have R6 := RowK.new P5 o6
          have P6 := P5.quiet f6
          clear o6 f6 P5 k0 k1 k2
          have k0 := P6.ob.k0
          have k1 := P6.ob.k1
          have k2 := P6.ob.k2
          go_wp2_with fail
          refine (rsigned_any w6 a2 n cap2 V b D S y P6.ob.set y0).mono ?_
          rintro e w7 ⟨vs2, rfl, o7, f7⟩
          rw [HS2.out]
          have T7 := RowK.new P6 o7
          have R7 := R6.quiet f7
          have P7 := P6.quiet f7
          clear o7 f7 P6 R6 k0 k1 k2
          have k0 := P7.ob.k0
          have k1 := P7.ob.k1
          have k2 := P7.ob.k2
          go_wp2_with fail
          refine (bput_any w7 p g v5 zs5 c s a2 n cap2 V b D S y P7.en P7.ob.set P7.off (by omega) (by omega) hG).mono ?_
          rintro e w8 ⟨rfl, v8, zs8, h8, st8⟩
          rw [HP1.out]
          have P8 := P7.put h8 st8
          have R8 := R7.put st8
          have T8 := T7.put st8
          clear h8 st8 P7 R7 T7 k0 k1 k2
          have k0 := P8.ob.k0
          have k1 := P8.ob.k1
          have k2 := P8.ob.k2
          go_wp2_with fail
          refine (bputS_any w8 p g v8 zs8 c _ a2 n cap2 V b D S y P8.en P8.ob.set P8.off (by omega) (by omega) hG8 y0 y1).mono ?_
          rintro e w9 ⟨rfl, v9, zs9, h9, st9⟩
          rw [HP2.out]
          have P9 := P8.put h9 st9
          have R9 := R8.put st9
          have T9 := T8.put st9
          clear h9 st9 P8 R8 T8 k0 k1 k2 hG8
          obtain ⟨s9, hs9⟩ : ∃ s9, s9 = putG V n D S c (putN V n D S c s y) y := ⟨_, rfl⟩
          rw [← hs9] at P9 hG9 hN9 HSAME
          clear hs9
          have k0 := P9.ob.k0
          have k1 := P9.ob.k1
          have k2 := P9.ob.k2
          go_wp2_with fail
          refine (bput_nil w9 a2 n cap2 V b D S y P9.ob.set).mono ?_
          rintro e w10 ⟨rfl, f10⟩
          have P10 := P9.quiet f10
          have R10 := R9.quiet f10
          have T10 := T9.quiet f10
          clear f10 P9 R9 T9 k0 k1 k2
          have hL1 := stepsL_len V n D y
          have hL2 := sgnL_len V n D S y
          have hG11 := runC_good c (stepsL V n D y) s hG
          have hN11 := runC_N c (stepsL V n D y) s
          go_wp2_with fail
          refine (rputs_any w10 px u5 c s 0 vs1 (stepsL V n D y) P10.rx R10.own (fun e => (R10.off _ e).2.2.1 rfl) (by omega) (by omega) hG).mono ?_
          rintro e w11 ⟨rfl, u11, x11, f11, hu11⟩
          have P11 := P10.putx x11 f11 hu11
          have T11 := T10.putx f11 hu11
          clear x11 f11 hu11 P10 R10 T10
          go_wp2_with fail
          refine (rputs_any w11 px u11 c _ 0 vs2 (sgnL V n D S y) P11.rx T11.own (fun e => (T11.off _ e).2.2.1 rfl) (by omega) (by omega) hG11).mono ?_
          rintro e w12 ⟨rfl, u12, x12, f12, hu12⟩
          rw [HSAME.out] at x12
          have P12 := P11.putx x12 f12 hu12
          clear x12 f12 hu12 P11 T11
          have hqq : y < 0 ∨ (0 ≤ y ∧ 2199023255550 < y) := by have := okN_false hq; omega
          rcases hqq with hy | ⟨hy, hy'⟩
          · have P14 := P12
            clear P12
            have hyd : decide (0 ≤ y) = false := by simp; omega
            have hselfN : ((s9.N : Int) != (s9.N : Int)) = false := by simp
            have hselfB : (0 != 0) = false := by simp
            have c4 : w12.cell? ⟨px, 4, none⟩ = some (.int .i64 (s9.N : Int)) := by rw [P14.rx.blk.cell]; rfl
            have HC : Hid (∀ m, Calls Try.prog 17 #[.pointer (some ⟨p, 0, none⟩)] (w12.drewN m) fun e w' => e = .returned (.int .i64 (s9.N : Int)) ∧ w' = w12.drewN m) := fun m => ecount_any _ p g v9 zs9 c s9 (P14.en.quiet ((Fr.refl (fun _ => False) w12).drewN m))
            go_wp2
            go_quiet (first | (go_at_call 16; exact Calls.quiet_of_same (HBits.out _)) | (go_at_call 17; exact Calls.quiet_of_same (HC.out _)))
            go_wp2
            go_roundw
            case rel => exact ⟨k + 1, s9, v9, zs9, u12, by omega, by omega, by go_num, hG9, by omega, P14.quiet ((Fr.refl (fun _ => False) w12).drewN _)⟩
            case measure => simp [intOf]; omega
          · have P14 := P12
            clear P12
            have hyd : decide (y ≤ 2199023255550) = false := by simp; omega
            have hselfN : ((s9.N : Int) != (s9.N : Int)) = false := by simp
            have hselfB : (0 != 0) = false := by simp
            have c4 : w12.cell? ⟨px, 4, none⟩ = some (.int .i64 (s9.N : Int)) := by rw [P14.rx.blk.cell]; rfl
            have HC : Hid (∀ m, Calls Try.prog 17 #[.pointer (some ⟨p, 0, none⟩)] (w12.drewN m) fun e w' => e = .returned (.int .i64 (s9.N : Int)) ∧ w' = w12.drewN m) := fun m => ecount_any _ p g v9 zs9 c s9 (P14.en.quiet ((Fr.refl (fun _ => False) w12).drewN m))
            go_wp2
            go_quiet (first | (go_at_call 16; exact Calls.quiet_of_same (HBits.out _)) | (go_at_call 17; exact Calls.quiet_of_same (HC.out _)))
            go_wp2
            go_roundw
            case rel => exact ⟨k + 1, s9, v9, zs9, u12, by omega, by omega, by go_num, hG9, by omega, P14.quiet ((Fr.refl (fun _ => False) w12).drewN _)⟩
            case measure => simp [intOf]; omega
    · have hexit : (¬ (k : Int) < (len : Int)) ∨ ((k : Int) < (len : Int) ∧ (40 : Int) ≤ (k : Int)) := by omega
      obtain ⟨a5, cap5, rfl, _⟩ := ownsRow_form P5.rx.own
      rcases hexit with hki | ⟨hki, h4i⟩
      · clear hgo
        as_aux_lemma =>
          go_wp2
          have h6 := P5.en.quiet ((Fr.refl (fun _ => False) wr).drew)
          have k0 : wr.cell? ⟨px, 0, none⟩ = some (.slice a5 c cap5) := by rw [P5.rx.blk.cell]; rfl
          have hPl : s.P.length = c := P5.en.len
          have hcl : c ≤ 64 := by omega
          first | go_region_held_law (fun w' => w'.cell? ⟨px, 0, none⟩ = some (.slice a5 c cap5)) (go_keep) (first
            | (go_at_call 18; refine (ebytes_any _ p g v5 zs5 c s h6 hG (by omega)).mono ?_; rintro e w10 ⟨q10, cap10, ys, rfl, o10, T10, f10⟩; have P10 := P5.quiet (((Fr.refl (fun _ => False) wr).drew).trans' f10); have m0 : w10.cell? ⟨px, 0, none⟩ = some (.slice a5 c cap5) := (by rw [P10.rx.blk.cell]; rfl); have hcv10 := conv_owned w10 _ _ ys o10; have HB10 := hid (rbytes_any w10 px _ c s P10.rx (by omega) hG))
            | (go_at_call 19; refine HB10.out.mono ?_; rintro e w11 ⟨u11, ys11, rfl, o11, T11, f11⟩; obtain rfl : ys = ys11 := T10.unique T11; have P11 := P10.quiet f11; have l0 : w11.cell? ⟨px, 0, none⟩ = some (.slice a5 c cap5) := (by rw [P11.rx.blk.cell]; rfl); have hcv11 := conv_owned w11 _ u11 ys o11; have hcv12 := conv_owned w11 _ _ ys (ownsRow_fr o10 f11 (fun _ _ h => h)))
            | (go_at_call 21; refine (echances_any _ p g v5 zs5 c s P11.en hcl).mono ?_; rintro e w7 ⟨q7, rfl, b7, hq7, f7⟩; have P13 := P11.quiet f7; have j0 : w7.cell? ⟨px, 0, none⟩ = some (.slice a5 c cap5) := (by rw [P13.rx.blk.cell]; rfl); have hsame := hid (rsame_6pT w7 (.slice (some ⟨q7, 0, none⟩) c c) (.slice a5 c cap5) s.P (reads_blkI b7 hPl) (Reads.of_owns (by rw [intRow_length, hPl]; exact P13.rx.own)) (by omega)))
            | (go_at_call 20; refine hsame.out.mono ?_; rintro e w8 ⟨rfl, f8⟩; have P14 := P13.quiet f8; have i0 : w8.cell? ⟨px, 0, none⟩ = some (.slice a5 c cap5) := (by rw [P14.rx.blk.cell]; rfl))) | fail
          all_goals
            go_wp2
            go_ret
            exact ⟨rfl, P14.fr.below (Nat.le_refl _) (fun _ _ h => h)⟩
      · have hlt : k < len := by omega
        obtain ⟨b3, off, rfl, hcell⟩ := (H0.out.fr P5.fr).at hlt
        have hck := hcell k hlt
        clear hcell hgo
        as_aux_lemma =>
          go_wp2
          have h6 := P5.en.quiet ((Fr.refl (fun _ => False) wr).drew)
          have k0 : wr.cell? ⟨px, 0, none⟩ = some (.slice a5 c cap5) := by rw [P5.rx.blk.cell]; rfl
          have hPl : s.P.length = c := P5.en.len
          have hcl : c ≤ 64 := by omega
          first | go_region_held_law (fun w' => w'.cell? ⟨px, 0, none⟩ = some (.slice a5 c cap5)) (go_keep) (first
            | (go_at_call 18; refine (ebytes_any _ p g v5 zs5 c s h6 hG (by omega)).mono ?_; rintro e w10 ⟨q10, cap10, ys, rfl, o10, T10, f10⟩; have P10 := P5.quiet (((Fr.refl (fun _ => False) wr).drew).trans' f10); have m0 : w10.cell? ⟨px, 0, none⟩ = some (.slice a5 c cap5) := (by rw [P10.rx.blk.cell]; rfl); have hcv10 := conv_owned w10 _ _ ys o10; have HB10 := hid (rbytes_any w10 px _ c s P10.rx (by omega) hG))
            | (go_at_call 19; refine HB10.out.mono ?_; rintro e w11 ⟨u11, ys11, rfl, o11, T11, f11⟩; obtain rfl : ys = ys11 := T10.unique T11; have P11 := P10.quiet f11; have l0 : w11.cell? ⟨px, 0, none⟩ = some (.slice a5 c cap5) := (by rw [P11.rx.blk.cell]; rfl); have hcv11 := conv_owned w11 _ u11 ys o11; have hcv12 := conv_owned w11 _ _ ys (ownsRow_fr o10 f11 (fun _ _ h => h)))
            | (go_at_call 21; refine (echances_any _ p g v5 zs5 c s P11.en hcl).mono ?_; rintro e w7 ⟨q7, rfl, b7, hq7, f7⟩; have P13 := P11.quiet f7; have j0 : w7.cell? ⟨px, 0, none⟩ = some (.slice a5 c cap5) := (by rw [P13.rx.blk.cell]; rfl); have hsame := hid (rsame_6pT w7 (.slice (some ⟨q7, 0, none⟩) c c) (.slice a5 c cap5) s.P (reads_blkI b7 hPl) (Reads.of_owns (by rw [intRow_length, hPl]; exact P13.rx.own)) (by omega)))
            | (go_at_call 20; refine hsame.out.mono ?_; rintro e w8 ⟨rfl, f8⟩; have P14 := P13.quiet f8; have i0 : w8.cell? ⟨px, 0, none⟩ = some (.slice a5 c cap5) := (by rw [P14.rx.blk.cell]; rfl))) | fail
          all_goals
            go_wp2
            go_ret
            exact ⟨rfl, P14.fr.below (Nat.le_refl _) (fun _ _ h => h)⟩
end Go.Proofs.Ythabklgeopdlhaa
