/-
  The document's answer for layer 10: List of any sides, two lists that are alike.
-/
import Derived.BigQuiet
import Derived.Test.YtgmainbgliejhaaRef10B
namespace Go.Proofs.Ytgmainbgliejhaa
open Go.RowKit

set_option maxHeartbeats 1000000 in
theorem rlist_any (X Y D : Int) (w : World) :
    Calls Try.prog 8 #[.int .i64 X, .int .i64 Y, .int .i64 D] w fun e w' => ListMade w w' e (bandsN X Y D) (bandsL X Y D) := by
  cases h : bandsOk X Y D with
  | true =>
    rw [bandsN_ok h]
    obtain ⟨x, y, k, rfl, rfl, rfl, hx, hy, hk, fx, fy⟩ := bandsOk_nat h
    refine (rlist_go k x y w fx fy hx hy hk).mono ?_
    rintro e w' ⟨v, rfl, ho, f⟩
    obtain ⟨a, cap, b, rfl, hB, hb⟩ := Bds.of_owns ho (bandsR_length k x y)
    exact ⟨a, cap, b, rfl, hB.congr fun i hi => bandsR_getD k x y i hi, hb, f⟩
  | false =>
    rw [bandsN_no h]
    have HNo : Hid (¬ (padN X D = X ∧ padN Y D = Y ∧ 1 ≤ X ∧ 1 ≤ Y)) := by
      show ¬ _
      rintro ⟨h1, h2, h3, h4⟩
      have : bandsOk X Y D = true := by
        simp only [bandsOk, Bool.and_eq_true, decide_eq_true_eq]
        exact ⟨⟨⟨h3, h4⟩, h1⟩, h2⟩
      rw [this] at h; cases h
    have HE : Hid (∀ w', w' = w → ListMade w w' (.returned (.slice none 0 0)) 0 (bandsL X Y D)) := by
      rintro w' rfl
      exact ⟨none, 0, 0, rfl, Bds.nil _ _ _, fun h => absurd h (by omega), Fr.refl _ _⟩
    have HP := hid (fun z w1 => rpadded_any z D w1)
    obtain ⟨px, hpx⟩ : ∃ px, padN X D = px := ⟨_, rfl⟩
    obtain ⟨py, hpy⟩ : ∃ py, padN Y D = py := ⟨_, rfl⟩
    rw [hpx, hpy] at HNo
    clear h
    by_cases k0 : px = X
    · by_cases k1 : py = Y
      · by_cases k2 : X < 1
        · go_enter Try.func8, Try.ntmps8
          go_wp2_with fail
          refine (HP.out _ _).mono ?_
          rintro e w1 ⟨rfl, rfl⟩
          rw [hpx]
          go_wp2_with fail
          refine (HP.out _ _).mono ?_
          rintro e w1 ⟨rfl, rfl⟩
          rw [hpy]
          go_wp2
          go_ret
          exact HE.out _ rfl
        · have k3 : Y < 1 := Classical.byContradiction fun k3 => HNo.out ⟨k0, k1, by omega, by omega⟩
          go_enter Try.func8, Try.ntmps8
          go_wp2_with fail
          refine (HP.out _ _).mono ?_
          rintro e w1 ⟨rfl, rfl⟩
          rw [hpx]
          go_wp2_with fail
          refine (HP.out _ _).mono ?_
          rintro e w1 ⟨rfl, rfl⟩
          rw [hpy]
          go_wp2
          go_ret
          exact HE.out _ rfl
      · go_enter Try.func8, Try.ntmps8
        go_wp2_with fail
        refine (HP.out _ _).mono ?_
        rintro e w1 ⟨rfl, rfl⟩
        rw [hpx]
        go_wp2_with fail
        refine (HP.out _ _).mono ?_
        rintro e w1 ⟨rfl, rfl⟩
        rw [hpy]
        go_wp2
        go_ret
        exact HE.out _ rfl
    · go_enter Try.func8, Try.ntmps8
      go_wp2_with fail
      refine (HP.out _ _).mono ?_
      rintro e w1 ⟨rfl, rfl⟩
      rw [hpx]
      go_wp2
      go_ret
      exact HE.out _ rfl

set_option maxRecDepth 100000 in
set_option maxHeartbeats 1000000 in
/-- Two lists that are alike. -/
theorem rsameB_self (a : Option Addr) (n cap : Nat) (L : Nat → BandN) (b : Nat) (a' : Option Addr) (cap' : Nat) (b' : Nat) (w : World) (h : Bds w a n cap L b) (h' : Bds w a' n cap' L b') (hn : n ≤ 19) :
    Calls Try.prog 9 #[.slice a n cap, .slice a' n cap'] w fun e w' => e = .returned (.bool true) ∧ Fr (fun _ => False) w w' := by
  have HB := hid h
  have HB' := hid h'
  clear h h'
  go_enter Try.func9, Try.ntmps9
  go_wp2
  go_loopw [13] (fun i wr => ∃ k : Nat, k ≤ n ∧ i = .int .i64 (k : Int) ∧ Fr (fun _ => False) w wr) (fun i _ => n - (intOf i).toNat)
  case atStart => exact ⟨0, Nat.zero_le _, rfl, Fr.refl _ _⟩
  case round =>
    obtain ⟨k, hk, rfl, F⟩ := hrel
    by_cases hlt : k < n
    · have hki : (k : Int) < (n : Int) := by omega
      obtain rfl := HB.out.addr (by omega)
      obtain rfl := HB'.out.addr (by omega)
      obtain ⟨x0, x1, x2, x3, x4, x5⟩ := (HB.out.quiet F).cells hlt
      obtain ⟨y0, y1, y2, y3, y4, y5⟩ := (HB'.out.quiet F).cells hlt
      obtain ⟨B, hBk⟩ : ∃ B, L k = B := ⟨_, rfl⟩
      rw [hBk] at x0 x1 x2 x3 x4 x5 y0 y1 y2 y3 y4 y5
      obtain ⟨lv, o, bx, by', bw, bh⟩ := B
      dsimp only at x0 x1 x2 x3 x4 x5 y0 y1 y2 y3 y4 y5
      have HF := hid F
      clear F hBk
      go_wp2
      go_quiet (fail)
      go_wp2
      go_roundw
      case rel => exact ⟨k + 1, by omega, by go_num, HF.out.drewN _⟩
      case measure => simp [intOf]; omega
    · have hki : ¬ (k : Int) < (n : Int) := by omega
      have HF := hid F
      clear F
      go_wp2
      go_ret
      exact ⟨rfl, HF.out⟩
end Go.Proofs.Ytgmainbgliejhaa
