/-
  Law 8, LiftParts: lines parted, and woven of any two lists.
-/
import Derived.Test.YtpkjnnalpoimhaaLines8
namespace Go.Proofs.Ytpkjnnalpoimhaa
open Go.RowKit

set_option maxRecDepth 100000 in
set_option maxHeartbeats 2000000 in
theorem parts8_zz (a : Option Addr) (n cap : Nat) (V : Nat → Int) (b : Nat) (a' : Option Addr) (n' cap' : Nat) (V' : Nat → Int) (b' : Nat) (w : World) (h : Nums w a n cap V b) (h' : Nums w a' n' cap' V' b') (hn : n ≤ 300) (hn' : n' ≤ 300) (hc : n = 0 ∧ n' = 0) :
    Calls Try.prog 4 #[.slice a n cap, .slice a' n' cap'] w fun e w' => e = .returned (.bool true) ∧ Fr (fun _ => False) w w' := by
  have HP := hid (fun w1 => lpart_bad w1 a n cap (lineB_false.2 (by omega)) (by omega))
  have HW := hid (fun w1 h h' => lweave_any w1 a n cap V b a' n' cap' V' b' h h' (by omega))
  have hni : ¬ (300 : Int) < (n : Int) := by omega
  have hni' : ¬ (300 : Int) < (n' : Int) := by omega
  have d0 : decide ((300 : Int) < (n : Int)) = false := decide_eq_false hni
  have H0 := hid h
  have H0' := hid h'
  clear h h'
  obtain ⟨rfl, rfl⟩ := hc
  have e0 : weaveN 0 0 = 0 := rfl
  rw [e0] at HW
  clear e0
  go_enter Try.func4, Try.ntmps4
  go_wp2_with fail
  refine (first8_any w).mono ?_
  rintro e w1 ⟨rfl, f1⟩
  have H1 := hid (H0.out.quiet f1)
  have H1' := hid (H0'.out.quiet f1)
  have HF1 := hid f1
  clear H0 H0' f1
  go_wp2_with fail
  refine (HP.out w1).mono ?_
  rintro e w2 ⟨rfl, rfl⟩
  go_wp2_with fail
  refine (HW.out w2 H1.out H1'.out).mono ?_
  rintro e w3 ⟨a3, cap3, b3, rfl, _, _, _, f3⟩
  have HF3 := hid (HF1.out.trans' f3)
  clear f3 H1 H1' HF1 HP HW
  go_wp2
  go_ret
  exact ⟨rfl, HF3.out⟩

set_option maxRecDepth 100000 in
set_option maxHeartbeats 2000000 in
theorem parts8_zx (a : Option Addr) (n cap : Nat) (V : Nat → Int) (b : Nat) (a' : Option Addr) (n' cap' : Nat) (V' : Nat → Int) (b' : Nat) (w : World) (h : Nums w a n cap V b) (h' : Nums w a' n' cap' V' b') (hn : n ≤ 300) (hn' : n' ≤ 300) (hc : n = 0 ∧ n' ≠ 0) :
    Calls Try.prog 4 #[.slice a n cap, .slice a' n' cap'] w fun e w' => e = .returned (.bool true) ∧ Fr (fun _ => False) w w' := by
  have HP := hid (fun w1 => lpart_bad w1 a n cap (lineB_false.2 (by omega)) (by omega))
  have HW := hid (fun w1 h h' => lweave_any w1 a n cap V b a' n' cap' V' b' h h' (by omega))
  have hni : ¬ (300 : Int) < (n : Int) := by omega
  have hni' : ¬ (300 : Int) < (n' : Int) := by omega
  have d0 : decide ((300 : Int) < (n : Int)) = false := decide_eq_false hni
  have H0 := hid h
  have H0' := hid h'
  clear h h'
  obtain ⟨rfl, hne⟩ := hc
  have e0 : weaveN 0 n' = 0 := by unfold weaveN; split <;> omega
  have g1 : ((0 : Int) == (n' : Int)) = false := by simp; omega
  rw [e0] at HW
  clear e0
  go_enter Try.func4, Try.ntmps4
  go_wp2_with fail
  refine (first8_any w).mono ?_
  rintro e w1 ⟨rfl, f1⟩
  have H1 := hid (H0.out.quiet f1)
  have H1' := hid (H0'.out.quiet f1)
  have HF1 := hid f1
  clear H0 H0' f1
  go_wp2_with fail
  refine (HP.out w1).mono ?_
  rintro e w2 ⟨rfl, rfl⟩
  go_wp2_with fail
  refine (HW.out w2 H1.out H1'.out).mono ?_
  rintro e w3 ⟨a3, cap3, b3, rfl, _, _, _, f3⟩
  have HF3 := hid (HF1.out.trans' f3)
  clear f3 H1 H1' HF1 HP HW
  go_wp2
  go_ret
  exact ⟨rfl, HF3.out⟩

set_option maxRecDepth 100000 in
set_option maxHeartbeats 2000000 in
theorem parts8_oo (a : Option Addr) (n cap : Nat) (V : Nat → Int) (b : Nat) (a' : Option Addr) (n' cap' : Nat) (V' : Nat → Int) (b' : Nat) (w : World) (h : Nums w a n cap V b) (h' : Nums w a' n' cap' V' b') (hn : n ≤ 300) (hn' : n' ≤ 300) (hc : n % 2 = 1 ∧ n = n') :
    Calls Try.prog 4 #[.slice a n cap, .slice a' n' cap'] w fun e w' => e = .returned (.bool true) ∧ Fr (fun _ => False) w w' := by
  have HP := hid (fun w1 => lpart_bad w1 a n cap (lineB_false.2 (by omega)) (by omega))
  have HW := hid (fun w1 h h' => lweave_any w1 a n cap V b a' n' cap' V' b' h h' (by omega))
  have hni : ¬ (300 : Int) < (n : Int) := by omega
  have hni' : ¬ (300 : Int) < (n' : Int) := by omega
  have d0 : decide ((300 : Int) < (n : Int)) = false := decide_eq_false hni
  have H0 := hid h
  have H0' := hid h'
  clear h h'
  obtain ⟨ho, rfl⟩ := hc
  obtain ⟨k2, hk2⟩ : ∃ k2, k2 = 2 * n := ⟨_, rfl⟩
  have e0 : weaveN n n = k2 := by rw [hk2]; exact if_pos rfl
  have hI : (2 : Int) * (n : Int) = (k2 : Int) := by omega
  have g0 : ((n : Int) == 0) = false := by simp; omega
  have g1 : ((n : Int) % 2) = 1 := by omega
  have hk : k2 ≤ 600 := by omega
  clear hk2 ho
  rw [e0] at HW
  clear e0
  go_enter Try.func4, Try.ntmps4
  go_wp2_with fail
  refine (first8_any w).mono ?_
  rintro e w1 ⟨rfl, f1⟩
  have H1 := hid (H0.out.quiet f1)
  have H1' := hid (H0'.out.quiet f1)
  have HF1 := hid f1
  clear H0 H0' f1
  go_wp2_with fail
  refine (HP.out w1).mono ?_
  rintro e w2 ⟨rfl, rfl⟩
  go_wp2_with fail
  refine (HW.out w2 H1.out H1'.out).mono ?_
  rintro e w3 ⟨a3, cap3, b3, rfl, _, _, _, f3⟩
  have HF3 := hid (HF1.out.trans' f3)
  clear f3 H1 H1' HF1 HP HW
  go_wp2
  go_ret
  exact ⟨rfl, HF3.out⟩

set_option maxRecDepth 100000 in
set_option maxHeartbeats 2000000 in
theorem parts8_ox (a : Option Addr) (n cap : Nat) (V : Nat → Int) (b : Nat) (a' : Option Addr) (n' cap' : Nat) (V' : Nat → Int) (b' : Nat) (w : World) (h : Nums w a n cap V b) (h' : Nums w a' n' cap' V' b') (hn : n ≤ 300) (hn' : n' ≤ 300) (hc : n % 2 = 1 ∧ n ≠ n') :
    Calls Try.prog 4 #[.slice a n cap, .slice a' n' cap'] w fun e w' => e = .returned (.bool true) ∧ Fr (fun _ => False) w w' := by
  have HP := hid (fun w1 => lpart_bad w1 a n cap (lineB_false.2 (by omega)) (by omega))
  have HW := hid (fun w1 h h' => lweave_any w1 a n cap V b a' n' cap' V' b' h h' (by omega))
  have hni : ¬ (300 : Int) < (n : Int) := by omega
  have hni' : ¬ (300 : Int) < (n' : Int) := by omega
  have d0 : decide ((300 : Int) < (n : Int)) = false := decide_eq_false hni
  have H0 := hid h
  have H0' := hid h'
  clear h h'
  obtain ⟨ho, hne⟩ := hc
  obtain ⟨k2, hk2⟩ : ∃ k2, k2 = 2 * n := ⟨_, rfl⟩
  have e0 : weaveN n n' = 0 := if_neg hne
  have hI : (2 : Int) * (n : Int) = (k2 : Int) := by omega
  have g0 : ((n : Int) == 0) = false := by simp; omega
  have g1 : ((n : Int) % 2) = 1 := by omega
  have g2 : ((n : Int) == (n' : Int)) = false := by simp; omega
  have g3 : ((0 : Int) == (k2 : Int)) = false := by simp; omega
  have hk : k2 ≤ 600 := by omega
  clear hk2 ho hne
  rw [e0] at HW
  clear e0
  go_enter Try.func4, Try.ntmps4
  go_wp2_with fail
  refine (first8_any w).mono ?_
  rintro e w1 ⟨rfl, f1⟩
  have H1 := hid (H0.out.quiet f1)
  have H1' := hid (H0'.out.quiet f1)
  have HF1 := hid f1
  clear H0 H0' f1
  go_wp2_with fail
  refine (HP.out w1).mono ?_
  rintro e w2 ⟨rfl, rfl⟩
  go_wp2_with fail
  refine (HW.out w2 H1.out H1'.out).mono ?_
  rintro e w3 ⟨a3, cap3, b3, rfl, _, _, _, f3⟩
  have HF3 := hid (HF1.out.trans' f3)
  clear f3 H1 H1' HF1 HP HW
  go_wp2
  go_ret
  exact ⟨rfl, HF3.out⟩

set_option maxRecDepth 100000 in
set_option maxHeartbeats 2000000 in
theorem parts8_line (a : Option Addr) (n cap : Nat) (V : Nat → Int) (b : Nat) (a' : Option Addr) (n' cap' : Nat) (V' : Nat → Int) (b' : Nat) (w : World) (h : Nums w a n cap V b) (h' : Nums w a' n' cap' V' b') (hn : n ≤ 300) (hn' : n' ≤ 300) (hl : lineB n = true) :
    Calls Try.prog 4 #[.slice a n cap, .slice a' n' cap'] w fun e w' => e = .returned (.bool true) ∧ Fr (fun _ => False) w w' := by
  obtain ⟨q, hq⟩ : ∃ q, n = 2 * q := ⟨n / 2, by have := lineB_iff.1 hl; omega⟩
  have hpos := (lineB_iff.1 hl).1
  have hq2 : n / 2 = q := by omega
  have HP : Hid (∀ w1, Nums w1 a n cap V b → Calls Try.prog 15 #[.slice a n cap] w1 fun e w' => ∃ g g', e = .returned (.tuple #[.slice (some ⟨g, 0, none⟩) q q, .slice (some ⟨g', 0, none⟩) q q]) ∧ Nums w' (some ⟨g, 0, none⟩) q q (fun j => V (2 * j)) g ∧ Nums w' (some ⟨g', 0, none⟩) q q (fun j => V (2 * j + 1)) g' ∧ Fr (fun _ => False) w1 w') := by
    intro w1 h1
    have := lpart_go w1 a n cap V b h1 hl (by omega)
    rw [hq2] at this
    exact this.mono fun e w' ⟨g, g', he, r, r', _, _, _, f⟩ => ⟨g, g', he, r.nums (by unfold maxLen; omega), r'.nums (by unfold maxLen; omega), f⟩
  have HE0 : Hid (∀ w1, Nums w1 a n cap V b → Calls Try.prog 17 #[.slice a n cap, .int .i64 0] w1 fun e w' => MadeL w1 w' e q (fun j => V (2 * j))) := by
    intro w1 h1
    subst hq
    exact revery_any w1 a q cap V b h1 (by omega) 0 (by omega)
  have HE1 : Hid (∀ w1, Nums w1 a n cap V b → Calls Try.prog 17 #[.slice a n cap, .int .i64 1] w1 fun e w' => MadeL w1 w' e q (fun j => V (2 * j + 1))) := by
    intro w1 h1
    subst hq
    exact revery_any w1 a q cap V b h1 (by omega) 1 (by omega)
  have HWab : Hid (∀ w1 g g', Nums w1 (some ⟨g, 0, none⟩) q q (fun j => V (2 * j)) g → Nums w1 (some ⟨g', 0, none⟩) q q (fun j => V (2 * j + 1)) g' → Calls Try.prog 16 #[.slice (some ⟨g, 0, none⟩) q q, .slice (some ⟨g', 0, none⟩) q q] w1 fun e w' => MadeL w1 w' e n V) := by
    intro w1 g g' h1 h2
    have := lweave_any w1 _ q q _ g _ q q _ g' h1 h2 (by omega)
    rw [show weaveN q q = n by rw [hq]; exact if_pos rfl] at this
    refine this.mono fun e w' hm => hm.congr fun j hj => ?_
    rcases Nat.mod_two_eq_zero_or_one j with e | e
    · obtain ⟨i, rfl⟩ : ∃ i, j = 2 * i := ⟨j / 2, by omega⟩
      rw [weaveV_even]
    · obtain ⟨i, rfl⟩ : ∃ i, j = 2 * i + 1 := ⟨j / 2, by omega⟩
      rw [weaveV_odd]
  obtain ⟨k2, hk2⟩ : ∃ k2, k2 = 2 * n := ⟨_, rfl⟩
  have hI : (2 : Int) * (n : Int) = (k2 : Int) := by omega
  have hk : k2 ≤ 600 := by omega
  have hk0 : 0 < k2 := by omega
  have HWl : Hid (∀ w1, Nums w1 a n cap V b → Nums w1 a' n' cap' V' b' → Calls Try.prog 16 #[.slice a n cap, .slice a' n' cap'] w1 fun e w' => MadeL w1 w' e (if n = n' then k2 else 0) (weaveV V V')) := by
    intro w1 h1 h2
    have := lweave_any w1 a n cap V b a' n' cap' V' b' h1 h2 (by omega)
    unfold weaveN at this
    rwa [← hk2] at this
  have HV0 : Hid (∀ w1 a1 cap1 b1, Nums w1 a1 k2 cap1 (weaveV V V') b1 → Calls Try.prog 17 #[.slice a1 k2 cap1, .int .i64 0] w1 fun e w' => MadeL w1 w' e n V) := by
    intro w1 a1 cap1 b1 h1
    subst hk2
    exact (revery_any w1 a1 n cap1 _ b1 h1 (by omega) 0 (by omega)).mono fun e w' hm => hm.congr fun j _ => weaveV_even V V' j
  have HV1 : Hid (∀ w1 a1 cap1 b1, Nums w1 a1 k2 cap1 (weaveV V V') b1 → Calls Try.prog 17 #[.slice a1 k2 cap1, .int .i64 1] w1 fun e w' => MadeL w1 w' e n V') := by
    intro w1 a1 cap1 b1 h1
    subst hk2
    exact (revery_any w1 a1 n cap1 _ b1 h1 (by omega) 1 (by omega)).mono fun e w' hm => hm.congr fun j _ => weaveV_odd V V' j
  have g0 : ((n : Int) == 0) = false := by simp; omega
  have g1 : ((n : Int) % 2) = 0 := by have := lineB_iff.1 hl; omega
  have hni : ¬ (300 : Int) < (n : Int) := by omega
  have hni' : ¬ (300 : Int) < (n' : Int) := by omega
  have d0 : decide ((300 : Int) < (n : Int)) = false := decide_eq_false hni
  have H0 := hid h
  have H0' := hid h'
  clear h h' hk2 hq hq2 hl
  go_enter Try.func4, Try.ntmps4
  go_wp2_with fail
  refine (first8_any w).mono ?_
  rintro e w1 ⟨rfl, f1⟩
  have H1 := hid (H0.out.quiet f1)
  have H1' := hid (H0'.out.quiet f1)
  have HF1 := hid f1
  clear H0 H0' f1
  go_wp2_with fail
  refine (HP.out w1 H1.out).mono ?_
  rintro e w2 ⟨g, g', rfl, na, nb, f2⟩
  have H2 := hid (H1.out.quiet f2)
  have H2' := hid (H1'.out.quiet f2)
  have HF2 := hid (HF1.out.trans' f2)
  have HA2 := hid na
  have HB2 := hid nb
  clear H1 H1' HF1 na nb f2 HP
  go_wp2_with fail
  refine (HWl.out w2 H2.out H2'.out).mono ?_
  rintro e w3 ⟨a3, cap3, b3, rfl, n3, _, _, f3⟩
  have H3 := hid (H2.out.quiet f3)
  have H3' := hid (H2'.out.quiet f3)
  have HF3 := hid (HF2.out.trans' f3)
  have HA3 := hid (HA2.out.quiet f3)
  have HB3 := hid (HB2.out.quiet f3)
  have HW3 := hid n3
  clear H2 H2' HF2 HA2 HB2 n3 f3 HWl
  by_cases hnn : n = n'
  · as_aux_lemma =>
    subst hnn
    rw [if_pos rfl] at HW3 ⊢
    have gk : ((k2 : Int) == 0) = false := by simp; omega
    go_wp2_with fail
    refine (HE0.out w3 H3.out).mono ?_
    rintro e w4 ⟨a4, cap4, b4, rfl, n4, _, _, f4⟩
    have H4 := hid (H3.out.quiet f4)
    have H4' := hid (H3'.out.quiet f4)
    have HF4 := hid (HF3.out.trans' f4)
    have HA4 := hid (HA3.out.quiet f4)
    have HB4 := hid (HB3.out.quiet f4)
    have HW4 := hid (HW3.out.quiet f4)
    have HX4 := hid n4
    clear H3 H3' HF3 HA3 HB3 HW3 n4 f4
    go_wp2_with fail
    refine (rsame_self w4 _ q _ _ _ _ _ _ HA4.out HX4.out).mono ?_
    rintro e w5 ⟨rfl, f5⟩
    have H5 := hid (H4.out.quiet f5)
    have H5' := hid (H4'.out.quiet f5)
    have HF5 := hid (HF4.out.trans' f5)
    have HA5 := hid (HA4.out.quiet f5)
    have HB5 := hid (HB4.out.quiet f5)
    have HW5 := hid (HW4.out.quiet f5)
    clear H4 H4' HF4 HA4 HB4 HW4 HX4 f5
    go_wp2_with fail
    refine (HE1.out w5 H5.out).mono ?_
    rintro e w6 ⟨a6, cap6, b6, rfl, n6, _, _, f6⟩
    have H6 := hid (H5.out.quiet f6)
    have H6' := hid (H5'.out.quiet f6)
    have HF6 := hid (HF5.out.trans' f6)
    have HA6 := hid (HA5.out.quiet f6)
    have HB6 := hid (HB5.out.quiet f6)
    have HW6 := hid (HW5.out.quiet f6)
    have HX6 := hid n6
    clear H5 H5' HF5 HA5 HB5 HW5 n6 f6
    go_wp2_with fail
    refine (rsame_self w6 _ q _ _ _ _ _ _ HB6.out HX6.out).mono ?_
    rintro e w7 ⟨rfl, f7⟩
    have H7 := hid (H6.out.quiet f7)
    have H7' := hid (H6'.out.quiet f7)
    have HF7 := hid (HF6.out.trans' f7)
    have HA7 := hid (HA6.out.quiet f7)
    have HB7 := hid (HB6.out.quiet f7)
    have HW7 := hid (HW6.out.quiet f7)
    clear H6 H6' HF6 HA6 HB6 HW6 HX6 f7
    go_wp2_with fail
    refine (HWab.out w7 g g' HA7.out HB7.out).mono ?_
    rintro e w8 ⟨a8, cap8, b8, rfl, n8, _, _, f8⟩
    have H8 := hid (H7.out.quiet f8)
    have H8' := hid (H7'.out.quiet f8)
    have HF8 := hid (HF7.out.trans' f8)
    have HW8 := hid (HW7.out.quiet f8)
    have HX8 := hid n8
    clear H7 H7' HF7 HA7 HB7 HW7 n8 f8
    go_wp2_with fail
    refine (rsame_self w8 _ n _ _ _ _ _ _ HX8.out H8.out).mono ?_
    rintro e w9 ⟨rfl, f9⟩
    have H9 := hid (H8.out.quiet f9)
    have H9' := hid (H8'.out.quiet f9)
    have HF9 := hid (HF8.out.trans' f9)
    have HW9 := hid (HW8.out.quiet f9)
    clear H8 H8' HF8 HW8 HX8 f9
    go_wp2_with fail
    refine (HV0.out w9 _ _ _ HW9.out).mono ?_
    rintro e w10 ⟨a10, cap10, b10, rfl, n10, _, _, f10⟩
    have H10 := hid (H9.out.quiet f10)
    have H10' := hid (H9'.out.quiet f10)
    have HF10 := hid (HF9.out.trans' f10)
    have HW10 := hid (HW9.out.quiet f10)
    have HX10 := hid n10
    clear H9 H9' HF9 HW9 n10 f10
    go_wp2_with fail
    refine (rsame_self w10 _ n _ _ _ _ _ _ HX10.out H10.out).mono ?_
    rintro e w11 ⟨rfl, f11⟩
    have H11' := hid (H10'.out.quiet f11)
    have HF11 := hid (HF10.out.trans' f11)
    have HW11 := hid (HW10.out.quiet f11)
    clear H10 H10' HF10 HW10 HX10 f11
    go_wp2_with fail
    refine (HV1.out w11 _ _ _ HW11.out).mono ?_
    rintro e w12 ⟨a12, cap12, b12, rfl, n12, _, _, f12⟩
    have H12' := hid (H11'.out.quiet f12)
    have HF12 := hid (HF11.out.trans' f12)
    have HX12 := hid n12
    clear H11' HF11 HW11 n12 f12
    go_wp2_with fail
    refine (rsame_self w12 _ n _ _ _ _ _ _ HX12.out H12'.out).mono ?_
    rintro e w13 ⟨rfl, f13⟩
    have HF13 := hid (HF12.out.trans' f13)
    clear H12' HF12 HX12 f13
    go_wp2
    go_ret
    exact ⟨rfl, HF13.out⟩
  · as_aux_lemma =>
    have gn : ((n : Int) == (n' : Int)) = false := by simp; omega
    rw [if_neg hnn] at HW3 ⊢
    have gk : ((0 : Int) == (k2 : Int)) = false := by simp; omega
    clear hnn
    go_wp2_with fail
    refine (HE0.out w3 H3.out).mono ?_
    rintro e w4 ⟨a4, cap4, b4, rfl, n4, _, _, f4⟩
    have H4 := hid (H3.out.quiet f4)
    have H4' := hid (H3'.out.quiet f4)
    have HF4 := hid (HF3.out.trans' f4)
    have HA4 := hid (HA3.out.quiet f4)
    have HB4 := hid (HB3.out.quiet f4)
    have HW4 := hid (HW3.out.quiet f4)
    have HX4 := hid n4
    clear H3 H3' HF3 HA3 HB3 HW3 n4 f4
    go_wp2_with fail
    refine (rsame_self w4 _ q _ _ _ _ _ _ HA4.out HX4.out).mono ?_
    rintro e w5 ⟨rfl, f5⟩
    have H5 := hid (H4.out.quiet f5)
    have H5' := hid (H4'.out.quiet f5)
    have HF5 := hid (HF4.out.trans' f5)
    have HA5 := hid (HA4.out.quiet f5)
    have HB5 := hid (HB4.out.quiet f5)
    have HW5 := hid (HW4.out.quiet f5)
    clear H4 H4' HF4 HA4 HB4 HW4 HX4 f5
    go_wp2_with fail
    refine (HE1.out w5 H5.out).mono ?_
    rintro e w6 ⟨a6, cap6, b6, rfl, n6, _, _, f6⟩
    have H6 := hid (H5.out.quiet f6)
    have H6' := hid (H5'.out.quiet f6)
    have HF6 := hid (HF5.out.trans' f6)
    have HA6 := hid (HA5.out.quiet f6)
    have HB6 := hid (HB5.out.quiet f6)
    have HW6 := hid (HW5.out.quiet f6)
    have HX6 := hid n6
    clear H5 H5' HF5 HA5 HB5 HW5 n6 f6
    go_wp2_with fail
    refine (rsame_self w6 _ q _ _ _ _ _ _ HB6.out HX6.out).mono ?_
    rintro e w7 ⟨rfl, f7⟩
    have H7 := hid (H6.out.quiet f7)
    have H7' := hid (H6'.out.quiet f7)
    have HF7 := hid (HF6.out.trans' f7)
    have HA7 := hid (HA6.out.quiet f7)
    have HB7 := hid (HB6.out.quiet f7)
    have HW7 := hid (HW6.out.quiet f7)
    clear H6 H6' HF6 HA6 HB6 HW6 HX6 f7
    go_wp2_with fail
    refine (HWab.out w7 g g' HA7.out HB7.out).mono ?_
    rintro e w8 ⟨a8, cap8, b8, rfl, n8, _, _, f8⟩
    have H8 := hid (H7.out.quiet f8)
    have H8' := hid (H7'.out.quiet f8)
    have HF8 := hid (HF7.out.trans' f8)
    have HW8 := hid (HW7.out.quiet f8)
    have HX8 := hid n8
    clear H7 H7' HF7 HA7 HB7 HW7 n8 f8
    go_wp2_with fail
    refine (rsame_self w8 _ n _ _ _ _ _ _ HX8.out H8.out).mono ?_
    rintro e w9 ⟨rfl, f9⟩
    have H9 := hid (H8.out.quiet f9)
    have H9' := hid (H8'.out.quiet f9)
    have HF9 := hid (HF8.out.trans' f9)
    have HW9 := hid (HW8.out.quiet f9)
    clear H8 H8' HF8 HW8 HX8 f9
    go_wp2
    go_ret
    exact ⟨rfl, HF9.out⟩

theorem parts8_walk (a : Option Addr) (n cap : Nat) (V : Nat → Int) (a' : Option Addr) (n' cap' : Nat) (V' : Nat → Int) (w : World) (c : CellsIn w a n cap (fun i => .int .i64 (V i))) (c' : CellsIn w a' n' cap' (fun i => .int .i64 (V' i))) :
    Calls Try.prog 4 #[.slice a n cap, .slice a' n' cap'] w fun e w' => e = .returned (.bool true) ∧ Below w.heap.size w w' := by
  obtain ⟨b, h, _⟩ := Nums.of_in c
  obtain ⟨b', h', _⟩ := Nums.of_in c'
  have key : Calls Try.prog 4 #[.slice a n cap, .slice a' n' cap'] w fun e w' => e = .returned (.bool true) ∧ Fr (fun _ => False) w w' := by
    by_cases hn : n ≤ 300
    · by_cases hn' : n' ≤ 300
      · cases hl : lineB n with
        | true => exact parts8_line a n cap V b a' n' cap' V' b' w h h' hn hn' hl
        | false =>
          by_cases h0 : n = 0
          · by_cases h1 : n' = 0
            · exact parts8_zz a n cap V b a' n' cap' V' b' w h h' hn hn' ⟨h0, h1⟩
            · exact parts8_zx a n cap V b a' n' cap' V' b' w h h' hn hn' ⟨h0, h1⟩
          · have ho : n % 2 = 1 := by have := lineB_false.1 hl; omega
            by_cases h1 : n = n'
            · exact parts8_oo a n cap V b a' n' cap' V' b' w h h' hn hn' ⟨ho, h1⟩
            · exact parts8_ox a n cap V b a' n' cap' V' b' w h h' hn hn' ⟨ho, h1⟩
      · have hl' := h'.len
        have hni : decide ((300 : Int) < (n : Int)) = false := decide_eq_false (by omega)
        have hni' : decide ((300 : Int) < (n' : Int)) = true := decide_eq_true (by omega)
        clear h h' c c'
        go_enter Try.func4, Try.ntmps4
        go_wp2_with fail
        refine (first8_any w).mono ?_
        rintro e w1 ⟨rfl, f1⟩
        have HF := hid f1
        clear f1
        go_wp2
        go_ret
        exact ⟨rfl, HF.out⟩
    · have hl := h.len
      have hni : decide ((300 : Int) < (n : Int)) = true := decide_eq_true (by omega)
      clear h h' c c'
      go_enter Try.func4, Try.ntmps4
      go_wp2_with fail
      refine (first8_any w).mono ?_
      rintro e w1 ⟨rfl, f1⟩
      have HF := hid f1
      clear f1
      go_wp2
      go_ret
      exact ⟨rfl, HF.out⟩
  exact key.mono fun e w' ⟨he, f⟩ => ⟨he, f.below (Nat.le_refl _) (fun _ _ h => h)⟩
end Go.Proofs.Ytpkjnnalpoimhaa
