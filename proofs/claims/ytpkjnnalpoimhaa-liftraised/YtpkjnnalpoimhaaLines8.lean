/-
  Law 8, LiftLines: any line, there and back, by any filter.
-/
import Derived.Test.YtpkjnnalpoimhaaFirst8
namespace Go.Proofs.Ytpkjnnalpoimhaa
open Go.RowKit

theorem rsame_self (w : World) (a : Option Addr) (n cap : Nat) (V : Nat → Int) (b : Nat) (a' : Option Addr) (cap' : Nat) (b' : Nat) (h : Nums w a n cap V b) (h' : Nums w a' n cap' V b') :
    Calls Try.prog 8 #[.slice a n cap, .slice a' n cap'] w fun e w' => e = .returned (.bool true) ∧ Fr (fun _ => False) w w' := by
  have := rsame_any w a n cap V b a' n cap' V b' h h'
  rwa [show (decide (n = n) && eqV n V V) = true by simp [eqV]] at this

set_option maxRecDepth 100000 in
set_option maxHeartbeats 2000000 in
theorem lines8_neg (z : Int) (a : Option Addr) (n cap : Nat) (V : Nat → Int) (b : Nat) (w : World) (h : Nums w a n cap V b) (hf : a = none → n = 0 ∧ cap = 0) (hV : ∀ j, -9223372036854775808 ≤ V j ∧ V j ≤ 9223372036854775807) (hn : n ≤ 300) (hz : z < 0) :
    Calls Try.prog 3 #[.int .i64 z, .slice a n cap] w fun e w' => e = .returned (.bool true) ∧ Fr (fun _ => False) w w' := by
  have HR : Hid (filtB z = false) := by show _ = _; exact filtB_false.2 (by omega)
  have HS : Hid (shiftL z = 0) := by show _ = _; unfold shiftL; rw [if_neg (by omega)]
  obtain ⟨m, U, HF, HRF⟩ : ∃ (m : Nat) (U : Nat → Int), Hid (∀ w1 a1 cap1 b1, Nums w1 a1 n cap1 V b1 → Calls Try.prog 9 #[.int .i64 z, .slice a1 n cap1] w1 fun e w' => MadeL w1 w' e m U) ∧ Hid (∀ w1, Nums w1 a n cap V b → Calls Try.prog 10 #[.int .i64 z, .slice a n cap] w1 fun e w' => MadeL w1 w' e m U) :=
    ⟨_, _, fun w1 a1 cap1 b1 h => lforward_any w1 a1 n cap1 V b1 h (by omega) (fun j _ => hV j) z, fun w1 h => rforward_any w1 a n cap V b h (by omega) z⟩
  obtain ⟨m', U', HI, HRI⟩ : ∃ (m : Nat) (U : Nat → Int), Hid (∀ w1 a1 cap1 b1, Nums w1 a1 n cap1 V b1 → Calls Try.prog 11 #[.int .i64 z, .slice a1 n cap1] w1 fun e w' => MadeL w1 w' e m U) ∧ Hid (∀ w1, Nums w1 a n cap V b → Calls Try.prog 12 #[.int .i64 z, .slice a n cap] w1 fun e w' => MadeL w1 w' e m U) :=
    ⟨_, _, fun w1 a1 cap1 b1 h => linverse_any w1 a1 n cap1 V b1 h (by omega) (fun j _ => hV j) z, fun w1 h => rinverse_any w1 a n cap V b h (by omega) z⟩
  have hni : ¬ (300 : Int) < (n : Int) := by omega
  have g0 : decide (0 ≤ z) = false := decide_eq_false (by omega)
  have HFo := hid hf
  have H0 := hid h
  clear h hf hV hz
  go_enter Try.func3, Try.ntmps3
  go_wp2_with fail
  refine (first8_any w).mono ?_
  rintro e w1 ⟨rfl, f1⟩
  have HN := hid (H0.out.quiet f1)
  have HFr := hid f1
  clear H0 f1
  go_wp2_with (at_builtin; refine wpList_copyI rfl _ _ rfl rfl a n cap V b rfl HN.out HFo.out (by omega) ?_)
  rintro a2 cap2 b2 w2 ⟨hN, _, _⟩ f2
  have HO2 := hid hN
  have HN2 := hid (HN.out.quiet f2)
  have HF2 := hid (HFr.out.trans' f2)
  clear hN f2 HN HFr
  go_wp2_with fail
  refine (HF.out w2 a2 cap2 b2 HO2.out).mono ?_
  rintro e w3 ⟨a3, cap3, b3, rfl, n3, _, _, f3⟩
  have HX3 := hid n3
  have HO3 := hid (HO2.out.quiet f3)
  have HN3 := hid (HN2.out.quiet f3)
  have HF3 := hid (HF2.out.trans' f3)
  clear n3 f3 HO2 HN2 HF2
  go_wp2_with fail
  refine (HRF.out w3 HN3.out).mono ?_
  rintro e w4 ⟨a4, cap4, b4, rfl, n4, _, _, f4⟩
  have HX4 := hid (HX3.out.quiet f4)
  have HY4 := hid n4
  have HO4 := hid (HO3.out.quiet f4)
  have HN4 := hid (HN3.out.quiet f4)
  have HF4 := hid (HF3.out.trans' f4)
  clear n4 f4 HO3 HN3 HF3 HX3
  go_wp2_with fail
  refine (rsame_self w4 _ m _ U _ _ _ _ HX4.out HY4.out).mono ?_
  rintro e w5 ⟨rfl, f5⟩
  have HO5 := hid (HO4.out.quiet f5)
  have HN5 := hid (HN4.out.quiet f5)
  have HF5 := hid (HF4.out.trans' f5)
  clear f5 HO4 HN4 HF4 HX4 HY4
  go_wp2_with fail
  refine (HI.out w5 a2 cap2 b2 HO5.out).mono ?_
  rintro e w6 ⟨a6, cap6, b6, rfl, n6, _, _, f6⟩
  have HX6 := hid n6
  have HO6 := hid (HO5.out.quiet f6)
  have HN6 := hid (HN5.out.quiet f6)
  have HF6 := hid (HF5.out.trans' f6)
  clear n6 f6 HO5 HN5 HF5
  go_wp2_with fail
  refine (HRI.out w6 HN6.out).mono ?_
  rintro e w7 ⟨a7, cap7, b7, rfl, n7, _, _, f7⟩
  have HX7 := hid (HX6.out.quiet f7)
  have HY7 := hid n7
  have HO7 := hid (HO6.out.quiet f7)
  have HN7 := hid (HN6.out.quiet f7)
  have HF7 := hid (HF6.out.trans' f7)
  clear n7 f7 HO6 HN6 HF6 HX6
  go_wp2_with fail
  refine (rsame_self w7 _ m' _ U' _ _ _ _ HX7.out HY7.out).mono ?_
  rintro e w8 ⟨rfl, f8⟩
  have HO8 := hid (HO7.out.quiet f8)
  have HN8 := hid (HN7.out.quiet f8)
  have HF8 := hid (HF7.out.trans' f8)
  clear f8 HO7 HN7 HF7 HX7 HY7
  go_wp2_with fail
  refine (rsame_self w8 _ n _ V _ _ _ _ HO8.out HN8.out).mono ?_
  rintro e w9 ⟨rfl, f9⟩
  have HF9 := hid (HF8.out.trans' f9)
  clear f9 HO8 HN8 HF8
  go_wp2_with fail
  refine (lright_any _ w9).mono ?_
  rintro e w10 ⟨rfl, rfl⟩
  rw [HR.out]
  go_wp2_with fail
  refine (lshift_any _ w10).mono ?_
  rintro e w11 ⟨rfl, rfl⟩
  rw [HS.out]
  go_wp2
  go_ret
  exact ⟨rfl, HF9.out⟩

set_option maxRecDepth 100000 in
set_option maxHeartbeats 2000000 in
theorem lines8_big (z : Int) (a : Option Addr) (n cap : Nat) (V : Nat → Int) (b : Nat) (w : World) (h : Nums w a n cap V b) (hf : a = none → n = 0 ∧ cap = 0) (hV : ∀ j, -9223372036854775808 ≤ V j ∧ V j ≤ 9223372036854775807) (hn : n ≤ 300) (hz : 5 ≤ z) :
    Calls Try.prog 3 #[.int .i64 z, .slice a n cap] w fun e w' => e = .returned (.bool true) ∧ Fr (fun _ => False) w w' := by
  have HR : Hid (filtB z = false) := by show _ = _; exact filtB_false.2 (by omega)
  have HS : Hid (shiftL z = 0) := by show _ = _; unfold shiftL; rw [if_neg (by omega)]
  obtain ⟨m, U, HF, HRF⟩ : ∃ (m : Nat) (U : Nat → Int), Hid (∀ w1 a1 cap1 b1, Nums w1 a1 n cap1 V b1 → Calls Try.prog 9 #[.int .i64 z, .slice a1 n cap1] w1 fun e w' => MadeL w1 w' e m U) ∧ Hid (∀ w1, Nums w1 a n cap V b → Calls Try.prog 10 #[.int .i64 z, .slice a n cap] w1 fun e w' => MadeL w1 w' e m U) :=
    ⟨_, _, fun w1 a1 cap1 b1 h => lforward_any w1 a1 n cap1 V b1 h (by omega) (fun j _ => hV j) z, fun w1 h => rforward_any w1 a n cap V b h (by omega) z⟩
  obtain ⟨m', U', HI, HRI⟩ : ∃ (m : Nat) (U : Nat → Int), Hid (∀ w1 a1 cap1 b1, Nums w1 a1 n cap1 V b1 → Calls Try.prog 11 #[.int .i64 z, .slice a1 n cap1] w1 fun e w' => MadeL w1 w' e m U) ∧ Hid (∀ w1, Nums w1 a n cap V b → Calls Try.prog 12 #[.int .i64 z, .slice a n cap] w1 fun e w' => MadeL w1 w' e m U) :=
    ⟨_, _, fun w1 a1 cap1 b1 h => linverse_any w1 a1 n cap1 V b1 h (by omega) (fun j _ => hV j) z, fun w1 h => rinverse_any w1 a n cap V b h (by omega) z⟩
  have hni : ¬ (300 : Int) < (n : Int) := by omega
  have g0 : decide (0 ≤ z) = true := decide_eq_true (by omega)
  have g1 : decide (z < 5) = false := decide_eq_false (by omega)
  have HFo := hid hf
  have H0 := hid h
  clear h hf hV hz
  go_enter Try.func3, Try.ntmps3
  go_wp2_with fail
  refine (first8_any w).mono ?_
  rintro e w1 ⟨rfl, f1⟩
  have HN := hid (H0.out.quiet f1)
  have HFr := hid f1
  clear H0 f1
  go_wp2_with (at_builtin; refine wpList_copyI rfl _ _ rfl rfl a n cap V b rfl HN.out HFo.out (by omega) ?_)
  rintro a2 cap2 b2 w2 ⟨hN, _, _⟩ f2
  have HO2 := hid hN
  have HN2 := hid (HN.out.quiet f2)
  have HF2 := hid (HFr.out.trans' f2)
  clear hN f2 HN HFr
  go_wp2_with fail
  refine (HF.out w2 a2 cap2 b2 HO2.out).mono ?_
  rintro e w3 ⟨a3, cap3, b3, rfl, n3, _, _, f3⟩
  have HX3 := hid n3
  have HO3 := hid (HO2.out.quiet f3)
  have HN3 := hid (HN2.out.quiet f3)
  have HF3 := hid (HF2.out.trans' f3)
  clear n3 f3 HO2 HN2 HF2
  go_wp2_with fail
  refine (HRF.out w3 HN3.out).mono ?_
  rintro e w4 ⟨a4, cap4, b4, rfl, n4, _, _, f4⟩
  have HX4 := hid (HX3.out.quiet f4)
  have HY4 := hid n4
  have HO4 := hid (HO3.out.quiet f4)
  have HN4 := hid (HN3.out.quiet f4)
  have HF4 := hid (HF3.out.trans' f4)
  clear n4 f4 HO3 HN3 HF3 HX3
  go_wp2_with fail
  refine (rsame_self w4 _ m _ U _ _ _ _ HX4.out HY4.out).mono ?_
  rintro e w5 ⟨rfl, f5⟩
  have HO5 := hid (HO4.out.quiet f5)
  have HN5 := hid (HN4.out.quiet f5)
  have HF5 := hid (HF4.out.trans' f5)
  clear f5 HO4 HN4 HF4 HX4 HY4
  go_wp2_with fail
  refine (HI.out w5 a2 cap2 b2 HO5.out).mono ?_
  rintro e w6 ⟨a6, cap6, b6, rfl, n6, _, _, f6⟩
  have HX6 := hid n6
  have HO6 := hid (HO5.out.quiet f6)
  have HN6 := hid (HN5.out.quiet f6)
  have HF6 := hid (HF5.out.trans' f6)
  clear n6 f6 HO5 HN5 HF5
  go_wp2_with fail
  refine (HRI.out w6 HN6.out).mono ?_
  rintro e w7 ⟨a7, cap7, b7, rfl, n7, _, _, f7⟩
  have HX7 := hid (HX6.out.quiet f7)
  have HY7 := hid n7
  have HO7 := hid (HO6.out.quiet f7)
  have HN7 := hid (HN6.out.quiet f7)
  have HF7 := hid (HF6.out.trans' f7)
  clear n7 f7 HO6 HN6 HF6 HX6
  go_wp2_with fail
  refine (rsame_self w7 _ m' _ U' _ _ _ _ HX7.out HY7.out).mono ?_
  rintro e w8 ⟨rfl, f8⟩
  have HO8 := hid (HO7.out.quiet f8)
  have HN8 := hid (HN7.out.quiet f8)
  have HF8 := hid (HF7.out.trans' f8)
  clear f8 HO7 HN7 HF7 HX7 HY7
  go_wp2_with fail
  refine (rsame_self w8 _ n _ V _ _ _ _ HO8.out HN8.out).mono ?_
  rintro e w9 ⟨rfl, f9⟩
  have HF9 := hid (HF8.out.trans' f9)
  clear f9 HO8 HN8 HF8
  go_wp2_with fail
  refine (lright_any _ w9).mono ?_
  rintro e w10 ⟨rfl, rfl⟩
  rw [HR.out]
  go_wp2_with fail
  refine (lshift_any _ w10).mono ?_
  rintro e w11 ⟨rfl, rfl⟩
  rw [HS.out]
  go_wp2
  go_ret
  exact ⟨rfl, HF9.out⟩

set_option maxRecDepth 100000 in
set_option maxHeartbeats 2000000 in
theorem lines8_haar (z : Int) (a : Option Addr) (n cap : Nat) (V : Nat → Int) (b : Nat) (w : World) (h : Nums w a n cap V b) (hf : a = none → n = 0 ∧ cap = 0) (hV : ∀ j, -9223372036854775808 ≤ V j ∧ V j ≤ 9223372036854775807) (hn : n ≤ 300) (hz : z = 3) :
    Calls Try.prog 3 #[.int .i64 z, .slice a n cap] w fun e w' => e = .returned (.bool true) ∧ Fr (fun _ => False) w w' := by
  have HR : Hid (filtB z = true) := by show _ = _; exact filtB_iff.2 (by omega)
  have HS : Hid (shiftL z = 0) := by show _ = _; unfold shiftL; rw [if_neg (by omega)]
  obtain ⟨m, U, HF, HRF⟩ : ∃ (m : Nat) (U : Nat → Int), Hid (∀ w1 a1 cap1 b1, Nums w1 a1 n cap1 V b1 → Calls Try.prog 9 #[.int .i64 z, .slice a1 n cap1] w1 fun e w' => MadeL w1 w' e m U) ∧ Hid (∀ w1, Nums w1 a n cap V b → Calls Try.prog 10 #[.int .i64 z, .slice a n cap] w1 fun e w' => MadeL w1 w' e m U) :=
    ⟨_, _, fun w1 a1 cap1 b1 h => lforward_any w1 a1 n cap1 V b1 h (by omega) (fun j _ => hV j) z, fun w1 h => rforward_any w1 a n cap V b h (by omega) z⟩
  obtain ⟨m', U', HI, HRI⟩ : ∃ (m : Nat) (U : Nat → Int), Hid (∀ w1 a1 cap1 b1, Nums w1 a1 n cap1 V b1 → Calls Try.prog 11 #[.int .i64 z, .slice a1 n cap1] w1 fun e w' => MadeL w1 w' e m U) ∧ Hid (∀ w1, Nums w1 a n cap V b → Calls Try.prog 12 #[.int .i64 z, .slice a n cap] w1 fun e w' => MadeL w1 w' e m U) :=
    ⟨_, _, fun w1 a1 cap1 b1 h => linverse_any w1 a1 n cap1 V b1 h (by omega) (fun j _ => hV j) z, fun w1 h => rinverse_any w1 a n cap V b h (by omega) z⟩
  have hni : ¬ (300 : Int) < (n : Int) := by omega
  subst hz
  have HFo := hid hf
  have H0 := hid h
  clear h hf hV
  go_enter Try.func3, Try.ntmps3
  go_wp2_with fail
  refine (first8_any w).mono ?_
  rintro e w1 ⟨rfl, f1⟩
  have HN := hid (H0.out.quiet f1)
  have HFr := hid f1
  clear H0 f1
  go_wp2_with (at_builtin; refine wpList_copyI rfl _ _ rfl rfl a n cap V b rfl HN.out HFo.out (by omega) ?_)
  rintro a2 cap2 b2 w2 ⟨hN, _, _⟩ f2
  have HO2 := hid hN
  have HN2 := hid (HN.out.quiet f2)
  have HF2 := hid (HFr.out.trans' f2)
  clear hN f2 HN HFr
  go_wp2_with fail
  refine (HF.out w2 a2 cap2 b2 HO2.out).mono ?_
  rintro e w3 ⟨a3, cap3, b3, rfl, n3, _, _, f3⟩
  have HX3 := hid n3
  have HO3 := hid (HO2.out.quiet f3)
  have HN3 := hid (HN2.out.quiet f3)
  have HF3 := hid (HF2.out.trans' f3)
  clear n3 f3 HO2 HN2 HF2
  go_wp2_with fail
  refine (HRF.out w3 HN3.out).mono ?_
  rintro e w4 ⟨a4, cap4, b4, rfl, n4, _, _, f4⟩
  have HX4 := hid (HX3.out.quiet f4)
  have HY4 := hid n4
  have HO4 := hid (HO3.out.quiet f4)
  have HN4 := hid (HN3.out.quiet f4)
  have HF4 := hid (HF3.out.trans' f4)
  clear n4 f4 HO3 HN3 HF3 HX3
  go_wp2_with fail
  refine (rsame_self w4 _ m _ U _ _ _ _ HX4.out HY4.out).mono ?_
  rintro e w5 ⟨rfl, f5⟩
  have HO5 := hid (HO4.out.quiet f5)
  have HN5 := hid (HN4.out.quiet f5)
  have HF5 := hid (HF4.out.trans' f5)
  clear f5 HO4 HN4 HF4 HX4 HY4
  go_wp2_with fail
  refine (HI.out w5 a2 cap2 b2 HO5.out).mono ?_
  rintro e w6 ⟨a6, cap6, b6, rfl, n6, _, _, f6⟩
  have HX6 := hid n6
  have HO6 := hid (HO5.out.quiet f6)
  have HN6 := hid (HN5.out.quiet f6)
  have HF6 := hid (HF5.out.trans' f6)
  clear n6 f6 HO5 HN5 HF5
  go_wp2_with fail
  refine (HRI.out w6 HN6.out).mono ?_
  rintro e w7 ⟨a7, cap7, b7, rfl, n7, _, _, f7⟩
  have HX7 := hid (HX6.out.quiet f7)
  have HY7 := hid n7
  have HO7 := hid (HO6.out.quiet f7)
  have HN7 := hid (HN6.out.quiet f7)
  have HF7 := hid (HF6.out.trans' f7)
  clear n7 f7 HO6 HN6 HF6 HX6
  go_wp2_with fail
  refine (rsame_self w7 _ m' _ U' _ _ _ _ HX7.out HY7.out).mono ?_
  rintro e w8 ⟨rfl, f8⟩
  have HO8 := hid (HO7.out.quiet f8)
  have HN8 := hid (HN7.out.quiet f8)
  have HF8 := hid (HF7.out.trans' f8)
  clear f8 HO7 HN7 HF7 HX7 HY7
  go_wp2_with fail
  refine (rsame_self w8 _ n _ V _ _ _ _ HO8.out HN8.out).mono ?_
  rintro e w9 ⟨rfl, f9⟩
  have HF9 := hid (HF8.out.trans' f9)
  clear f9 HO8 HN8 HF8
  go_wp2_with fail
  refine (lright_any _ w9).mono ?_
  rintro e w10 ⟨rfl, rfl⟩
  rw [HR.out]
  go_wp2_with fail
  refine (lshift_any _ w10).mono ?_
  rintro e w11 ⟨rfl, rfl⟩
  rw [HS.out]
  go_wp2
  go_ret
  exact ⟨rfl, HF9.out⟩

set_option maxRecDepth 100000 in
set_option maxHeartbeats 2000000 in
theorem lines8_in (z : Int) (a : Option Addr) (n cap : Nat) (V : Nat → Int) (b : Nat) (w : World) (h : Nums w a n cap V b) (hf : a = none → n = 0 ∧ cap = 0) (hV : ∀ j, -9223372036854775808 ≤ V j ∧ V j ≤ 9223372036854775807) (hn : n ≤ 300) (hz : (0 ≤ z ∧ z ≤ 4) ∧ z ≠ 3) :
    Calls Try.prog 3 #[.int .i64 z, .slice a n cap] w fun e w' => e = .returned (.bool true) ∧ Fr (fun _ => False) w w' := by
  have HR : Hid (filtB z = true) := by show _ = _; exact filtB_iff.2 (by omega)
  have HS : Hid (shiftL z = 1) := by show _ = _; unfold shiftL; rw [if_pos (by omega)]
  obtain ⟨m, U, HF, HRF⟩ : ∃ (m : Nat) (U : Nat → Int), Hid (∀ w1 a1 cap1 b1, Nums w1 a1 n cap1 V b1 → Calls Try.prog 9 #[.int .i64 z, .slice a1 n cap1] w1 fun e w' => MadeL w1 w' e m U) ∧ Hid (∀ w1, Nums w1 a n cap V b → Calls Try.prog 10 #[.int .i64 z, .slice a n cap] w1 fun e w' => MadeL w1 w' e m U) :=
    ⟨_, _, fun w1 a1 cap1 b1 h => lforward_any w1 a1 n cap1 V b1 h (by omega) (fun j _ => hV j) z, fun w1 h => rforward_any w1 a n cap V b h (by omega) z⟩
  obtain ⟨m', U', HI, HRI⟩ : ∃ (m : Nat) (U : Nat → Int), Hid (∀ w1 a1 cap1 b1, Nums w1 a1 n cap1 V b1 → Calls Try.prog 11 #[.int .i64 z, .slice a1 n cap1] w1 fun e w' => MadeL w1 w' e m U) ∧ Hid (∀ w1, Nums w1 a n cap V b → Calls Try.prog 12 #[.int .i64 z, .slice a n cap] w1 fun e w' => MadeL w1 w' e m U) :=
    ⟨_, _, fun w1 a1 cap1 b1 h => linverse_any w1 a1 n cap1 V b1 h (by omega) (fun j _ => hV j) z, fun w1 h => rinverse_any w1 a n cap V b h (by omega) z⟩
  have hni : ¬ (300 : Int) < (n : Int) := by omega
  have g0 : decide (0 ≤ z) = true := decide_eq_true (by omega)
  have g1 : decide (z < 5) = true := decide_eq_true (by omega)
  have g2 : (z != 3) = true := by simp; omega
  have HFo := hid hf
  have H0 := hid h
  clear h hf hV hz
  go_enter Try.func3, Try.ntmps3
  go_wp2_with fail
  refine (first8_any w).mono ?_
  rintro e w1 ⟨rfl, f1⟩
  have HN := hid (H0.out.quiet f1)
  have HFr := hid f1
  clear H0 f1
  go_wp2_with (at_builtin; refine wpList_copyI rfl _ _ rfl rfl a n cap V b rfl HN.out HFo.out (by omega) ?_)
  rintro a2 cap2 b2 w2 ⟨hN, _, _⟩ f2
  have HO2 := hid hN
  have HN2 := hid (HN.out.quiet f2)
  have HF2 := hid (HFr.out.trans' f2)
  clear hN f2 HN HFr
  go_wp2_with fail
  refine (HF.out w2 a2 cap2 b2 HO2.out).mono ?_
  rintro e w3 ⟨a3, cap3, b3, rfl, n3, _, _, f3⟩
  have HX3 := hid n3
  have HO3 := hid (HO2.out.quiet f3)
  have HN3 := hid (HN2.out.quiet f3)
  have HF3 := hid (HF2.out.trans' f3)
  clear n3 f3 HO2 HN2 HF2
  go_wp2_with fail
  refine (HRF.out w3 HN3.out).mono ?_
  rintro e w4 ⟨a4, cap4, b4, rfl, n4, _, _, f4⟩
  have HX4 := hid (HX3.out.quiet f4)
  have HY4 := hid n4
  have HO4 := hid (HO3.out.quiet f4)
  have HN4 := hid (HN3.out.quiet f4)
  have HF4 := hid (HF3.out.trans' f4)
  clear n4 f4 HO3 HN3 HF3 HX3
  go_wp2_with fail
  refine (rsame_self w4 _ m _ U _ _ _ _ HX4.out HY4.out).mono ?_
  rintro e w5 ⟨rfl, f5⟩
  have HO5 := hid (HO4.out.quiet f5)
  have HN5 := hid (HN4.out.quiet f5)
  have HF5 := hid (HF4.out.trans' f5)
  clear f5 HO4 HN4 HF4 HX4 HY4
  go_wp2_with fail
  refine (HI.out w5 a2 cap2 b2 HO5.out).mono ?_
  rintro e w6 ⟨a6, cap6, b6, rfl, n6, _, _, f6⟩
  have HX6 := hid n6
  have HO6 := hid (HO5.out.quiet f6)
  have HN6 := hid (HN5.out.quiet f6)
  have HF6 := hid (HF5.out.trans' f6)
  clear n6 f6 HO5 HN5 HF5
  go_wp2_with fail
  refine (HRI.out w6 HN6.out).mono ?_
  rintro e w7 ⟨a7, cap7, b7, rfl, n7, _, _, f7⟩
  have HX7 := hid (HX6.out.quiet f7)
  have HY7 := hid n7
  have HO7 := hid (HO6.out.quiet f7)
  have HN7 := hid (HN6.out.quiet f7)
  have HF7 := hid (HF6.out.trans' f7)
  clear n7 f7 HO6 HN6 HF6 HX6
  go_wp2_with fail
  refine (rsame_self w7 _ m' _ U' _ _ _ _ HX7.out HY7.out).mono ?_
  rintro e w8 ⟨rfl, f8⟩
  have HO8 := hid (HO7.out.quiet f8)
  have HN8 := hid (HN7.out.quiet f8)
  have HF8 := hid (HF7.out.trans' f8)
  clear f8 HO7 HN7 HF7 HX7 HY7
  go_wp2_with fail
  refine (rsame_self w8 _ n _ V _ _ _ _ HO8.out HN8.out).mono ?_
  rintro e w9 ⟨rfl, f9⟩
  have HF9 := hid (HF8.out.trans' f9)
  clear f9 HO8 HN8 HF8
  go_wp2_with fail
  refine (lright_any _ w9).mono ?_
  rintro e w10 ⟨rfl, rfl⟩
  rw [HR.out]
  go_wp2_with fail
  refine (lshift_any _ w10).mono ?_
  rintro e w11 ⟨rfl, rfl⟩
  rw [HS.out]
  go_wp2
  go_ret
  exact ⟨rfl, HF9.out⟩

theorem lines8_walk (z : Int) (a : Option Addr) (n cap : Nat) (V : Nat → Int) (w : World) (c : CellsIn w a n cap (fun i => .int .i64 (V i))) (hV : ∀ j, -9223372036854775808 ≤ V j ∧ V j ≤ 9223372036854775807) :
    Calls Try.prog 3 #[.int .i64 z, .slice a n cap] w fun e w' => e = .returned (.bool true) ∧ Below w.heap.size w w' := by
  obtain ⟨b, h, _⟩ := Nums.of_in c
  have hf : a = none → n = 0 ∧ cap = 0 := by
    intro e
    rcases c.2.2 with ⟨_, h1, h2⟩ | ⟨_, _, _, h1, _⟩
    · exact ⟨h1, h2⟩
    · rw [e] at h1; cases h1
  have key : Calls Try.prog 3 #[.int .i64 z, .slice a n cap] w fun e w' => e = .returned (.bool true) ∧ Fr (fun _ => False) w w' := by
    by_cases hn : n ≤ 300
    · by_cases h0 : z < 0
      · exact lines8_neg z a n cap V b w h hf hV hn h0
      · by_cases h5 : 5 ≤ z
        · exact lines8_big z a n cap V b w h hf hV hn h5
        · by_cases h3 : z = 3
          · exact lines8_haar z a n cap V b w h hf hV hn h3
          · exact lines8_in z a n cap V b w h hf hV hn ⟨by omega, h3⟩
    · have hl := h.len
      have hni : (300 : Int) < (n : Int) := by omega
      clear h hf c hV
      go_enter Try.func3, Try.ntmps3
      go_wp2_with fail
      refine (first8_any w).mono ?_
      rintro e w1 ⟨rfl, f1⟩
      have HF := hid f1
      clear f1
      go_wp2
      go_ret
      exact ⟨rfl, HF.out⟩
  exact key.mono fun e w' ⟨he, f⟩ => ⟨he, f.below (Nat.le_refl _) (fun _ _ h => h)⟩
end Go.Proofs.Ytpkjnnalpoimhaa
