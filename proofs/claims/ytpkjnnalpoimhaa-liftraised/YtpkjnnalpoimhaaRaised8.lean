/-
  Law 8, LiftRaised: of a line that is raised as a whole the low part is, and the high part isn't.
-/
import Derived.Test.YtpkjnnalpoimhaaLines8
namespace Go.Proofs.Ytpkjnnalpoimhaa
open Go.RowKit

set_option maxRecDepth 100000 in
theorem raised8_out (z : Int) (a : Option Addr) (n cap : Nat) (c : Int) (w : World) (hl : (n : Int) ≤ 9223372036854775807) (hc : 300 < n ∨ lineB n = false ∨ filtB z = false) :
    Calls Try.prog 6 #[.int .i64 z, .slice a n cap, .int .i32 c] w fun e w' => e = .returned (.bool true) ∧ Fr (fun _ => False) w w' := by
  by_cases h0 : 300 < n
  · have d0 : decide ((300 : Int) < (n : Int)) = true := decide_eq_true (by omega)
    clear hc
    go_enter Try.func6, Try.ntmps6
    go_wp2_with fail
    refine (first8_any w).mono ?_
    rintro e w1 ⟨rfl, f1⟩
    have HF := hid f1
    clear f1
    go_wp2
    go_ret
    exact ⟨rfl, HF.out⟩
  · have d0 : decide ((300 : Int) < (n : Int)) = false := decide_eq_false (by omega)
    by_cases h1 : n = 0
    · subst h1
      clear hc
      go_enter Try.func6, Try.ntmps6
      go_wp2_with fail
      refine (first8_any w).mono ?_
      rintro e w1 ⟨rfl, f1⟩
      have HF := hid f1
      clear f1
      go_wp2
      go_ret
      exact ⟨rfl, HF.out⟩
    · have d1 : ((n : Int) == 0) = false := by simp; omega
      by_cases h2 : n % 2 = 1
      · have d2 : ((n : Int) % 2) = 1 := by omega
        clear hc h2
        go_enter Try.func6, Try.ntmps6
        go_wp2_with fail
        refine (first8_any w).mono ?_
        rintro e w1 ⟨rfl, f1⟩
        have HF := hid f1
        clear f1
        go_wp2
        go_ret
        exact ⟨rfl, HF.out⟩
      · have d2 : ((n : Int) % 2) = 0 := by omega
        have hz : filtB z = false := by
          rcases hc with h | h | h
          · omega
          · have := lineB_false.1 h; omega
          · exact h
        clear hc h2
        go_enter Try.func6, Try.ntmps6
        go_wp2_with fail
        refine (first8_any w).mono ?_
        rintro e w1 ⟨rfl, f1⟩
        have HF := hid f1
        clear f1
        go_wp2_with fail
        refine (lright_any z _).mono ?_
        rintro e w2 ⟨rfl, rfl⟩
        rw [hz]
        go_wp2
        go_ret
        exact ⟨rfl, HF.out⟩

set_option maxRecDepth 100000 in
set_option maxHeartbeats 2000000 in
theorem raised8_in (z : Int) (a : Option Addr) (n cap : Nat) (V : Nat → Int) (b : Nat) (c : Int) (w : World) (h : Nums w a n cap V b) (hV : ∀ j, -9223372036854775808 ≤ V j ∧ V j ≤ 9223372036854775807) (hcb : -2147483648 ≤ c ∧ c ≤ 2147483647) (hn : n ≤ 300) (hl : lineB n = true) (hz : filtB z = true) :
    Calls Try.prog 6 #[.int .i64 z, .slice a n cap, .int .i32 c] w fun e w' => e = .returned (.bool true) ∧ Fr (fun _ => False) w w' := by
  have h2 : 2 ≤ n := by have := lineB_iff.1 hl; omega
  have he : n % 2 = 0 := (lineB_iff.1 hl).2
  have HFw : Hid (∀ w1 a1 cap1 b1 U, Nums w1 a1 n cap1 U b1 → (∀ j, j < n → -9223372036854775808 ≤ U j ∧ U j ≤ 9223372036854775807) → Calls Try.prog 9 #[.int .i64 z, .slice a1 n cap1] w1 fun e w' => MadeL w1 w' e n (forwardL z.toNat n U)) := by
    intro w1 a1 cap1 b1 U h1 hU
    have := lforward_any w1 a1 n cap1 U b1 h1 (by omega) hU z
    rwa [liftN_in hz hl] at this
  obtain ⟨q, hq⟩ : ∃ q, n / 2 = q := ⟨_, rfl⟩
  have HPa : Hid (∀ w1 a1 cap1 b1 U, Nums w1 a1 n cap1 U b1 → Calls Try.prog 15 #[.slice a1 n cap1] w1 fun e w' => ∃ g g', e = .returned (.tuple #[.slice (some ⟨g, 0, none⟩) q q, .slice (some ⟨g', 0, none⟩) q q]) ∧ Row w' g q (fun j => U (2 * j)) ∧ Row w' g' q (fun j => U (2 * j + 1)) ∧ Fr (fun _ => False) w1 w') := by
    intro w1 a1 cap1 b1 U h1
    have := lpart_go w1 a1 n cap1 _ b1 h1 hl (by omega)
    rw [hq] at this
    exact this.mono fun e w' ⟨g, g', he', r, r', _, _, _, f⟩ => ⟨g, g', he', r, r', f⟩
  have HRai : Hid ((∀ j, j < n → -1125899906842624 ≤ V j ∧ V j ≤ 1125899906842624) → ∀ j, j < q → forwardL z.toNat n (fun j => V j + c) (2 * j + 1) = forwardL z.toNat n V (2 * j + 1) ∧ forwardL z.toNat n (fun j => V j + c) (2 * j) = forwardL z.toNat n V (2 * j) + c ∧ -9223372036854775808 ≤ forwardL z.toNat n V (2 * j) + c ∧ forwardL z.toNat n V (2 * j) + c ≤ 9223372036854775807) := by
    intro hs j hj
    have r0 := (forward_raised (f := z.toNat) (V := V) (U := fun j => V j + c) h2 he hcb hs (fun _ _ => rfl) (show 2 * j < n by omega)).2 (by omega)
    have r1 := (forward_raised (f := z.toNat) (V := V) (U := fun j => V j + c) h2 he hcb hs (fun _ _ => rfl) (show 2 * j + 1 < n by omega)).1 (by omega)
    exact ⟨r1, r0.1, r0.2.1, r0.2.2⟩
  have d0 : decide ((300 : Int) < (n : Int)) = false := decide_eq_false (by omega)
  have d1 : ((n : Int) == 0) = false := by simp; omega
  have d2 : ((n : Int) % 2) = 0 := by omega
  have d3 : ((n : Int) / 2) = (q : Int) := by omega
  have d4 : (n : Int).tdiv 2 = (q : Int) := by rw [Int.tdiv_eq_ediv_of_nonneg (by omega)]; omega
  have hq1 : q ≤ 150 := by omega
  have hmk : ∀ w : World, (Instr.makeSlice 23 (.int .i64 (n : Int)) (.int .i64 (n : Int))).run Try.prog w = .ok (.slice (some ⟨w.heap.size, 0, none⟩) n n) (w.alloc (.cells (madeCells #[.int .i64 0] n) 3)) := run_make_row' (P := Try.prog) 23 3 (.int .i64 0) 8 Try.underlying23 Try.info_int rfl .i64 .i64 n (by omega) (by omega)
  have HV := hid hV
  have hbl := h.lt (by omega)
  have H0 := hid h
  clear h hV hq hl
  go_enter Try.func6, Try.ntmps6
  go_wp2_with fail
  refine (first8_any w).mono ?_
  rintro e w1 ⟨rfl, f1⟩
  have H1 := hid (H0.out.quiet f1)
  have HF1 := hid f1
  have hs1 := f1.size
  clear H0 f1
  go_wp2_with fail
  refine (lright_any z _).mono ?_
  rintro e w2 ⟨rfl, rfl⟩
  rw [hz]
  obtain ⟨off, rfl, _⟩ := H1.out.at' (by omega)
  obtain ⟨W9, hW9⟩ : ∃ W9, W9 = w2.alloc (.cells (madeCells #[.int .i64 0] n) 3) := ⟨_, rfl⟩
  have R9 : Row W9 w2.heap.size n (fun _ => 0) := by rw [hW9]; exact Row.made w2 n
  have F9 : Fr (fun _ => False) w2 W9 := by rw [hW9]; exact (Fr.refl _ w2).alloc _
  have H9 := hid (H1.out.quiet F9)
  have HF9 := hid (HF1.out.trans' F9)
  have HW9 := hid hW9
  clear hW9 H1 HF1 F9
  go_wp2
  rw [← HW9.out]
  go_loopw [41] (fun i wr => ∃ k : Nat, k ≤ n ∧ i = .int .i64 (k : Int) ∧ Row wr w2.heap.size n (fun j => if j < k then V j + c else 0) ∧ (∀ j, j < k → -1125899906842624 ≤ V j ∧ V j ≤ 1125899906842624) ∧ Fr (fun j => j = w2.heap.size) W9 wr) (fun i _ => n - (intOf i).toNat)
  case atStart => exact ⟨0, Nat.zero_le _, rfl, R9.congr (fun j _ => by simp), fun j hj => absurd hj (by omega), Fr.refl _ _⟩
  case round =>
    obtain ⟨k, hk, rfl, hr, hsm, Fk⟩ := hrel
    have HSm := hid hsm
    have H10 := hid (H9.out.fr Fk (fun _ => by omega))
    have HF10 := hid (HF9.out.trans Fk (fun j hj e => by omega))
    clear hsm
    by_cases hlt : k < n
    · have hki : (k : Int) < (n : Int) := by omega
      obtain ⟨off', eo, hc⟩ := H10.out.at' (by omega)
      have ev := hc k hlt
      obtain rfl : off = off' := by simpa using eo
      have ck := hr.cell hlt
      have cf := hr.thaw k
      rw [if_neg (Nat.lt_irrefl k)] at ck
      have HR := hid hr
      obtain ⟨v, hv⟩ : ∃ v, V k = v := ⟨_, rfl⟩
      rw [hv] at ev
      have HVk := hid hv
      clear hr hc eo hv
      by_cases hv1 : 1125899906842624 < v
      · have g1 : decide ((1125899906842624 : Int) < v) = true := decide_eq_true hv1
        go_wp2
        go_ret
        exact ⟨rfl, HF10.out⟩
      · have g1 : decide ((1125899906842624 : Int) < v) = false := decide_eq_false hv1
        by_cases hv2 : v < -1125899906842624
        · have g2 : decide (v < (-1125899906842624 : Int)) = true := decide_eq_true hv2
          go_wp2
          go_ret
          exact ⟨rfl, HF10.out⟩
        · have g2 : decide (v < (-1125899906842624 : Int)) = false := decide_eq_false hv2
          go_wp2
          go_roundw
          case rel =>
            refine ⟨k + 1, by omega, by go_num, (HR.out.set k (v + c)).congr fun j hj => ?_, fun j hj => ?_, Fk.setCell (p := ⟨w2.heap.size, k, none⟩) (fun _ => rfl) _⟩
            · by_cases ejk : j = k
              · subst ejk; rw [if_pos rfl, if_pos (by omega), HVk.out]
              · rw [if_neg ejk]
                by_cases hjk : j < k
                · rw [if_pos hjk, if_pos (by omega)]
                · rw [if_neg hjk, if_neg (by omega)]
            · by_cases ejk : j = k
              · subst ejk; rw [HVk.out]; omega
              · exact HSm.out j (by omega)
          case measure => simp [intOf]; omega
    · have hki : ¬ (k : Int) < (n : Int) := by omega
      obtain ⟨w10, rfl⟩ : ∃ w10, w10 = wr := ⟨_, rfl⟩
      have HR := hid (hr.congr (V' := fun j => V j + c) fun j hj => if_pos (by omega))
      have HQ := hid (HRai.out (fun j hj => HSm.out j (by omega)))
      have HUb : Hid (∀ j, j < n → -9223372036854775808 ≤ (fun j => V j + c) j ∧ (fun j => V j + c) j ≤ 9223372036854775807) := by
        intro j hj
        have := HSm.out j (by omega)
        show _ ≤ V j + c ∧ V j + c ≤ _
        omega
      clear hr Fk
      go_wp2_with fail
      refine (HFw.out w10 _ cap b V H10.out (fun j _ => HV.out j)).mono ?_
      rintro e w11 ⟨a11, cap11, b11, rfl, n11, _, _, f11⟩
      have HX11 := hid n11
      have HR11 := hid (HR.out.quiet f11)
      have HF11 := hid (HF10.out.trans' f11)
      clear n11 f11 HF10 HR H10
      go_wp2_with fail
      refine (HPa.out w11 a11 cap11 b11 _ HX11.out).mono ?_
      rintro e w12 ⟨g, g', rfl, r, r', f12⟩
      have HA := hid r
      have HB := hid r'
      have HR12 := hid (HR11.out.quiet f12)
      have HF12 := hid (HF11.out.trans' f12)
      clear r r' f12 HF11 HX11 HR11
      go_wp2_with fail
      refine (HFw.out w12 _ n w2.heap.size _ (HR12.out.nums (by unfold maxLen; omega)) HUb.out).mono ?_
      rintro e w13 ⟨a13, cap13, b13, rfl, n13, _, _, f13⟩
      have HX13 := hid n13
      have HA13 := hid (HA.out.quiet f13)
      have HB13 := hid (HB.out.quiet f13)
      have HF13 := hid (HF12.out.trans' f13)
      clear n13 f13 HF12 HR12 HA HB
      go_wp2_with fail
      refine (HPa.out w13 a13 cap13 b13 _ HX13.out).mono ?_
      rintro e w14 ⟨p, p', rfl, r, r', f14⟩
      have HC := hid r
      have HD := hid r'
      have HA := hid (HA13.out.quiet f14)
      have HB := hid (HB13.out.quiet f14)
      have HF14 := hid (HF13.out.trans' f14)
      clear r r' f14 HF13 HX13 HA13 HB13
      have HCell : Hid (∀ wr j, Fr (fun _ => False) w14 wr → j < q → ∃ x y : Int, (-9223372036854775808 ≤ x + c ∧ x + c ≤ 9223372036854775807) ∧ wr.cell? ⟨g, j, none⟩ = some (.int .i64 x) ∧ wr.cell? ⟨g', j, none⟩ = some (.int .i64 y) ∧ wr.cell? ⟨p, j, none⟩ = some (.int .i64 (x + c)) ∧ wr.cell? ⟨p', j, none⟩ = some (.int .i64 y)) := by
        intro wr j f hj
        obtain ⟨e1, e2, e3, e4⟩ := HQ.out j hj
        refine ⟨_, _, ⟨e3, e4⟩, (HA.out.quiet f).cell hj, (HB.out.quiet f).cell hj, ?_, ?_⟩
        · rw [(HC.out.quiet f).cell hj, e2]
        · rw [(HD.out.quiet f).cell hj, e1]
      clear HA HB HC HD
      go_wp2
      go_loopw [76] (fun i wr => ∃ k : Nat, k ≤ q ∧ i = .int .i64 (k : Int) ∧ Fr (fun _ => False) w14 wr) (fun i _ => q - (intOf i).toNat)
      case atStart => exact ⟨0, Nat.zero_le _, rfl, Fr.refl _ _⟩
      case round =>
        obtain ⟨j, hj, rfl, Fj⟩ := hrel
        by_cases hjl : j < q
        · have hji : (j : Int) < (q : Int) := by omega
          obtain ⟨x, y, hb, c1, c2, c3, c4⟩ := HCell.out wr j Fj hjl
          have hd : (x + c != x + c) = false := by simp
          go_wp2
          go_quiet (fail)
          go_wp2
          go_roundw
          case rel => exact ⟨j + 1, by omega, by go_num, Fj.drewN _⟩
          case measure => simp [intOf]; omega
        · have hji : ¬ (j : Int) < (q : Int) := by omega
          have HFe := hid (HF14.out.trans' Fj)
          go_wp2
          go_ret
          exact ⟨rfl, HFe.out⟩

theorem raised8_walk (z : Int) (a : Option Addr) (n cap : Nat) (V : Nat → Int) (c : Int) (w : World) (ci : CellsIn w a n cap (fun i => .int .i64 (V i))) (hV : ∀ j, -9223372036854775808 ≤ V j ∧ V j ≤ 9223372036854775807) (hc : -2147483648 ≤ c ∧ c ≤ 2147483647) :
    Calls Try.prog 6 #[.int .i64 z, .slice a n cap, .int .i32 c] w fun e w' => e = .returned (.bool true) ∧ Below w.heap.size w w' := by
  obtain ⟨b, h, _⟩ := Nums.of_in ci
  have key : Calls Try.prog 6 #[.int .i64 z, .slice a n cap, .int .i32 c] w fun e w' => e = .returned (.bool true) ∧ Fr (fun _ => False) w w' := by
    by_cases ho : 300 < n ∨ lineB n = false ∨ filtB z = false
    · exact raised8_out z a n cap c w h.len ho
    · refine raised8_in z a n cap V b c w h hV hc ?_ ?_ ?_
      · omega
      · cases hl : lineB n with
        | true => rfl
        | false => exact absurd (.inr (.inl hl)) ho
      · cases hz : filtB z with
        | true => rfl
        | false => exact absurd (.inr (.inr hz)) ho
  exact key.mono fun e w' ⟨he, f⟩ => ⟨he, f.below (Nat.le_refl _) (fun _ _ h => h)⟩
end Go.Proofs.Ytpkjnnalpoimhaa
