/-
  Law 8, LiftBack: what is done is taken back, whatever the numbers are; a flat line has no high part.
-/
import Derived.Test.YtpkjnnalpoimhaaLines8
namespace Go.Proofs.Ytpkjnnalpoimhaa
open Go.RowKit

theorem forwardL_lo {f n : Nat} {V : Nat → Int} {j : Nat} (h : -9223372036854775808 ≤ V j ∧ V j ≤ 9223372036854775807) : -9223372036854775808 ≤ forwardL f n V j ∧ forwardL f n V j ≤ 9223372036854775807 := stepL_lo (stepL_lo h)
theorem inverseL_lo {f n : Nat} {V : Nat → Int} {j : Nat} (h : -9223372036854775808 ≤ V j ∧ V j ≤ 9223372036854775807) : -9223372036854775808 ≤ inverseL f n V j ∧ inverseL f n V j ≤ 9223372036854775807 := stepL_lo (stepL_lo h)

set_option maxRecDepth 100000 in
theorem back8_out (z : Int) (a : Option Addr) (n cap : Nat) (c : Int) (w : World) (hl : (n : Int) ≤ 9223372036854775807) (hc : 300 < n ∨ lineB n = false ∨ filtB z = false) :
    Calls Try.prog 5 #[.int .i64 z, .slice a n cap, .int .i32 c] w fun e w' => e = .returned (.bool true) ∧ Fr (fun _ => False) w w' := by
  by_cases h0 : 300 < n
  · have d0 : decide ((300 : Int) < (n : Int)) = true := decide_eq_true (by omega)
    clear hc
    go_enter Try.func5, Try.ntmps5
    go_wp2_with fail
    refine (first8_any w).mono ?_
    rintro e w1 ⟨rfl, f1⟩
    have HF := hid f1
    clear f1
    go_wp2
    go_ret
    exact ⟨rfl, HF.out⟩
  · have d0 : decide ((300 : Int) < (n : Int)) = false := decide_eq_false (by omega)
    by_cases h1 : n = 0
    · subst h1
      clear hc
      go_enter Try.func5, Try.ntmps5
      go_wp2_with fail
      refine (first8_any w).mono ?_
      rintro e w1 ⟨rfl, f1⟩
      have HF := hid f1
      clear f1
      go_wp2
      go_ret
      exact ⟨rfl, HF.out⟩
    · have d1 : ((n : Int) == 0) = false := by simp; omega
      by_cases h2 : n % 2 = 1
      · have d2 : ((n : Int) % 2) = 1 := by omega
        clear hc h2
        go_enter Try.func5, Try.ntmps5
        go_wp2_with fail
        refine (first8_any w).mono ?_
        rintro e w1 ⟨rfl, f1⟩
        have HF := hid f1
        clear f1
        go_wp2
        go_ret
        exact ⟨rfl, HF.out⟩
      · have d2 : ((n : Int) % 2) = 0 := by omega
        have hz : filtB z = false := by
          rcases hc with h | h | h
          · omega
          · have := lineB_false.1 h; omega
          · exact h
        clear hc h2
        go_enter Try.func5, Try.ntmps5
        go_wp2_with fail
        refine (first8_any w).mono ?_
        rintro e w1 ⟨rfl, f1⟩
        have HF := hid f1
        clear f1
        go_wp2_with fail
        refine (lright_any z _).mono ?_
        rintro e w2 ⟨rfl, rfl⟩
        rw [hz]
        go_wp2
        go_ret
        exact ⟨rfl, HF.out⟩

set_option maxRecDepth 100000 in
set_option maxHeartbeats 2000000 in
theorem back8_in (z : Int) (a : Option Addr) (n cap : Nat) (V : Nat → Int) (b : Nat) (c : Int) (w : World) (h : Nums w a n cap V b) (hV : ∀ j, -9223372036854775808 ≤ V j ∧ V j ≤ 9223372036854775807) (hcb : -2147483648 ≤ c ∧ c ≤ 2147483647) (hn : n ≤ 300) (hl : lineB n = true) (hz : filtB z = true) :
    Calls Try.prog 5 #[.int .i64 z, .slice a n cap, .int .i32 c] w fun e w' => e = .returned (.bool true) ∧ Fr (fun _ => False) w w' := by
  have h2 : 2 ≤ n := by have := lineB_iff.1 hl; omega
  have he : n % 2 = 0 := (lineB_iff.1 hl).2
  have HFw : Hid (∀ w1 a1 cap1 b1 U, Nums w1 a1 n cap1 U b1 → (∀ j, -9223372036854775808 ≤ U j ∧ U j ≤ 9223372036854775807) → Calls Try.prog 9 #[.int .i64 z, .slice a1 n cap1] w1 fun e w' => MadeL w1 w' e n (forwardL z.toNat n U)) := by
    intro w1 a1 cap1 b1 U h1 hU
    have := lforward_any w1 a1 n cap1 U b1 h1 (by omega) (fun j _ => hU j) z
    rwa [liftN_in hz hl] at this
  have HIn : Hid (∀ w1 a1 cap1 b1 U, Nums w1 a1 n cap1 U b1 → (∀ j, -9223372036854775808 ≤ U j ∧ U j ≤ 9223372036854775807) → Calls Try.prog 11 #[.int .i64 z, .slice a1 n cap1] w1 fun e w' => MadeL w1 w' e n (inverseL z.toNat n U)) := by
    intro w1 a1 cap1 b1 U h1 hU
    have := linverse_any w1 a1 n cap1 U b1 h1 (by omega) (fun j _ => hU j) z
    rwa [liftN_in hz hl] at this
  obtain ⟨q, hq⟩ : ∃ q, n / 2 = q := ⟨_, rfl⟩
  have HPa : Hid (∀ w1 a1 cap1 b1, Nums w1 a1 n cap1 (forwardL z.toNat n (fun _ => c)) b1 → Calls Try.prog 15 #[.slice a1 n cap1] w1 fun e w' => ∃ g g', e = .returned (.tuple #[.slice (some ⟨g, 0, none⟩) q q, .slice (some ⟨g', 0, none⟩) q q]) ∧ Row w' g q (fun _ => c) ∧ Row w' g' q (fun _ => 0) ∧ Fr (fun _ => False) w1 w') := by
    intro w1 a1 cap1 b1 h1
    have := lpart_go w1 a1 n cap1 _ b1 h1 hl (by omega)
    rw [hq] at this
    refine this.mono fun e w' ⟨g, g', he', r, r', _, _, _, f⟩ => ⟨g, g', he', r.congr fun j hj => ?_, r'.congr fun j hj => ?_, f⟩
    · exact (forward_flat (f := z.toNat) h2 he hcb (show 2 * j < n by omega)).2 (by omega)
    · exact (forward_flat (f := z.toNat) h2 he hcb (show 2 * j + 1 < n by omega)).1 (by omega)
  have HBF : Hid (∀ w1 a1 cap1 b1, Nums w1 a1 n cap1 (inverseL z.toNat n (forwardL z.toNat n V)) b1 → Nums w1 a1 n cap1 V b1) := fun w1 a1 cap1 b1 h1 => h1.congr fun j hj => inverse_forward h2 he (fun j _ => hV j) hj
  have HBI : Hid (∀ w1 a1 cap1 b1, Nums w1 a1 n cap1 (forwardL z.toNat n (inverseL z.toNat n V)) b1 → Nums w1 a1 n cap1 V b1) := fun w1 a1 cap1 b1 h1 => h1.congr fun j hj => forward_inverse h2 he (fun j _ => hV j) hj
  have d0 : decide ((300 : Int) < (n : Int)) = false := decide_eq_false (by omega)
  have d1 : ((n : Int) == 0) = false := by simp; omega
  have d2 : ((n : Int) % 2) = 0 := by omega
  have d3 : ((n : Int) / 2) = (q : Int) := by omega
  have d4 : (n : Int).tdiv 2 = (q : Int) := by rw [Int.tdiv_eq_ediv_of_nonneg (by omega)]; omega
  have hq1 : q ≤ 150 := by omega
  have hmk : ∀ w : World, (Instr.makeSlice 23 (.int .i64 (n : Int)) (.int .i64 (n : Int))).run Try.prog w = .ok (.slice (some ⟨w.heap.size, 0, none⟩) n n) (w.alloc (.cells (madeCells #[.int .i64 0] n) 3)) := run_make_row' (P := Try.prog) 23 3 (.int .i64 0) 8 Try.underlying23 Try.info_int rfl .i64 .i64 n (by omega) (by omega)
  have HV := hid hV
  have H0 := hid h
  clear h hV hq hl
  go_enter Try.func5, Try.ntmps5
  go_wp2_with fail
  refine (first8_any w).mono ?_
  rintro e w1 ⟨rfl, f1⟩
  have H1 := hid (H0.out.quiet f1)
  have HF1 := hid f1
  clear H0 f1
  go_wp2_with fail
  refine (lright_any z _).mono ?_
  rintro e w2 ⟨rfl, rfl⟩
  rw [hz]
  go_wp2_with fail
  refine (HFw.out w2 a cap b V H1.out HV.out).mono ?_
  rintro e w3 ⟨a3, cap3, b3, rfl, n3, _, _, f3⟩
  have H3 := hid (H1.out.quiet f3)
  have HX3 := hid n3
  have HF3 := hid (HF1.out.trans' f3)
  clear H1 n3 HF1 f3
  go_wp2_with fail
  refine (HIn.out w3 a cap b V H3.out HV.out).mono ?_
  rintro e w4 ⟨a4, cap4, b4, rfl, n4, _, _, f4⟩
  have H4 := hid (H3.out.quiet f4)
  have HX4 := hid (HX3.out.quiet f4)
  have HY4 := hid n4
  have HF4 := hid (HF3.out.trans' f4)
  clear H3 HX3 n4 HF3 f4
  go_wp2_with fail
  refine (HIn.out w4 a3 cap3 b3 _ HX4.out (fun j => forwardL_lo (HV.out j))).mono ?_
  rintro e w5 ⟨a5, cap5, b5, rfl, n5, _, _, f5⟩
  have H5 := hid (H4.out.quiet f5)
  have HY5 := hid (HY4.out.quiet f5)
  have HZ5 := hid (HBF.out _ _ _ _ n5)
  have HF5 := hid (HF4.out.trans' f5)
  clear H4 HX4 HY4 n5 HF4 f5
  go_wp2_with fail
  refine (rsame_self w5 _ n _ V _ _ _ _ HZ5.out H5.out).mono ?_
  rintro e w6 ⟨rfl, f6⟩
  have H6 := hid (H5.out.quiet f6)
  have HY6 := hid (HY5.out.quiet f6)
  have HF6 := hid (HF5.out.trans' f6)
  clear H5 HY5 HZ5 HF5 f6
  go_wp2_with fail
  refine (HFw.out w6 a4 cap4 b4 _ HY6.out (fun j => inverseL_lo (HV.out j))).mono ?_
  rintro e w7 ⟨a7, cap7, b7, rfl, n7, _, _, f7⟩
  have H7 := hid (H6.out.quiet f7)
  have HZ7 := hid (HBI.out _ _ _ _ n7)
  have HF7 := hid (HF6.out.trans' f7)
  clear H6 HY6 n7 HF6 f7
  go_wp2_with fail
  refine (rsame_self w7 _ n _ V _ _ _ _ HZ7.out H7.out).mono ?_
  rintro e w8 ⟨rfl, f8⟩
  have HF8 := hid (HF7.out.trans' f8)
  clear H7 HZ7 HF7 f8
  obtain ⟨W9, hW9⟩ : ∃ W9, W9 = w8.alloc (.cells (madeCells #[.int .i64 0] n) 3) := ⟨_, rfl⟩
  have R9 : Row W9 w8.heap.size n (fun _ => 0) := by rw [hW9]; exact Row.made w8 n
  have HF9 : Hid (Fr (fun _ => False) w W9) := by rw [hW9]; exact HF8.out.alloc _
  have HS9 := hid (show w.heap.size ≤ w8.heap.size from HF8.out.size)
  have HW9 := hid hW9
  clear hW9
  go_wp2
  rw [← HW9.out]
  go_loopw [60] (fun i wr => ∃ k : Nat, k ≤ n ∧ i = .int .i64 (k : Int) ∧ Row wr w8.heap.size n (fun j => if j < k then c else 0) ∧ Fr (fun j => j = w8.heap.size) W9 wr) (fun i _ => n - (intOf i).toNat)
  case atStart => exact ⟨0, Nat.zero_le _, rfl, R9.congr (fun j _ => by simp), Fr.refl _ _⟩
  case round =>
    obtain ⟨k, hk, rfl, hr, Fk⟩ := hrel
    by_cases hlt : k < n
    · have hki : (k : Int) < (n : Int) := by omega
      have ck := hr.cell hlt
      have cf := hr.thaw k
      rw [if_neg (Nat.lt_irrefl k)] at ck
      have HR := hid hr
      clear hr
      go_wp2
      go_roundw
      case rel =>
        refine ⟨k + 1, by omega, by go_num, (HR.out.set k c).congr fun j hj => ?_, Fk.setCell (p := ⟨w8.heap.size, k, none⟩) (fun _ => rfl) _⟩
        by_cases ejk : j = k
        · subst ejk; rw [if_pos rfl, if_pos (by omega)]
        · rw [if_neg ejk]
          by_cases hjk : j < k
          · rw [if_pos hjk, if_pos (by omega)]
          · rw [if_neg hjk, if_neg (by omega)]
      case measure => simp [intOf]; omega
    · have hki : ¬ (k : Int) < (n : Int) := by omega
      obtain ⟨w10, rfl⟩ : ∃ w10, w10 = wr := ⟨_, rfl⟩
      have HR := hid (hr.congr (V' := fun _ => c) fun j hj => if_pos (by omega))
      have HF10 := hid (HF9.out.trans Fk (fun j hj e => by have := HS9.out; omega))
      clear hr Fk
      go_wp2_with fail
      refine (HFw.out w10 _ n w8.heap.size (fun _ => c) (HR.out.nums (by unfold maxLen; omega)) (fun _ => by omega)).mono ?_
      rintro e w11 ⟨a11, cap11, b11, rfl, n11, _, _, f11⟩
      have HX11 := hid n11
      have HF11 := hid (HF10.out.trans' f11)
      clear n11 f11 HF10
      go_wp2_with fail
      refine (HPa.out w11 a11 cap11 b11 HX11.out).mono ?_
      rintro e w12 ⟨g, g', rfl, r, r', f12⟩
      have HR1 := hid r
      have HR2 := hid r'
      have HF12 := hid (HF11.out.trans' f12)
      clear r r' f12 HF11 HX11
      go_wp2
      go_loopw [78] (fun i wr => ∃ k : Nat, k ≤ q ∧ i = .int .i64 (k : Int) ∧ SameW wr w12) (fun i _ => q - (intOf i).toNat)
      case atStart => exact ⟨0, Nat.zero_le _, rfl, SameW.rfl⟩
      case round =>
        obtain ⟨j, hj, rfl, hw⟩ := hrel
        obtain rfl : w12 = wr := Eq.symm hw
        by_cases hjl : j < q
        · have hji : (j : Int) < (q : Int) := by omega
          have c1 := HR1.out.cell hjl
          have c2 := HR2.out.cell hjl
          go_wp2
          go_roundw
          case rel => exact ⟨j + 1, by omega, by go_num, SameW.rfl⟩
          case measure => simp [intOf]; omega
        · have hji : ¬ (j : Int) < (q : Int) := by omega
          go_wp2
          go_ret
          exact ⟨rfl, HF12.out⟩

theorem back8_walk (z : Int) (a : Option Addr) (n cap : Nat) (V : Nat → Int) (c : Int) (w : World) (ci : CellsIn w a n cap (fun i => .int .i64 (V i))) (hV : ∀ j, -9223372036854775808 ≤ V j ∧ V j ≤ 9223372036854775807) (hc : -2147483648 ≤ c ∧ c ≤ 2147483647) :
    Calls Try.prog 5 #[.int .i64 z, .slice a n cap, .int .i32 c] w fun e w' => e = .returned (.bool true) ∧ Below w.heap.size w w' := by
  obtain ⟨b, h, _⟩ := Nums.of_in ci
  have key : Calls Try.prog 5 #[.int .i64 z, .slice a n cap, .int .i32 c] w fun e w' => e = .returned (.bool true) ∧ Fr (fun _ => False) w w' := by
    by_cases ho : 300 < n ∨ lineB n = false ∨ filtB z = false
    · exact back8_out z a n cap c w h.len ho
    · refine back8_in z a n cap V b c w h hV hc ?_ ?_ ?_
      · omega
      · cases hl : lineB n with
        | true => rfl
        | false => exact absurd (.inr (.inl hl)) ho
      · cases hz : filtB z with
        | true => rfl
        | false => exact absurd (.inr (.inr hz)) ho
  exact key.mono fun e w' ⟨he, f⟩ => ⟨he, f.below (Nat.le_refl _) (fun _ _ h => h)⟩
end Go.Proofs.Ytpkjnnalpoimhaa
