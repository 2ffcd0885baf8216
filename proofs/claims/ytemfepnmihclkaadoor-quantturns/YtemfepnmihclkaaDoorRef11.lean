/-
  The document's own answers for layer 11.
-/
import Derived.Test.YtemfepnmihclkaaDoorQuant
import Derived.Test.YtemfepnmihclkaaDoorRef4
namespace Go.Proofs.YtemfepnmihclkaaDoor
open Go.RowKit

theorem rsize_any (v : Int) (w : World) :
    Calls Tryd.prog 17 #[.int .i64 v] w fun e w' => e = .returned (.int .i64 (sizeN v)) ∧ w' = w := by
  have H : Hid ((sizeN v : Int) = if v < 0 then (if v < -2199023255550 then 2199023255550 else -v) else (if 2199023255550 < v then 2199023255550 else v)) := by
    show _ = _
    unfold sizeN
    repeat' split <;> omega
  by_cases h1 : 2199023255550 < v
  · have HN : Hid ((2199023255550 : Int) = (sizeN v : Int)) := by show _ = _; rw [H.out, if_neg (by omega), if_pos h1]
    go_enter Tryd.func17, Tryd.ntmps17
    go_wp2
    go_ret
    exact ⟨ret_int HN.out, rfl⟩
  have h1' : decide (2199023255550 < v) = false := by simp; omega
  by_cases h2 : v < -2199023255550
  · have HN : Hid ((2199023255550 : Int) = (sizeN v : Int)) := by show _ = _; rw [H.out, if_pos (by omega), if_pos h2]
    go_enter Tryd.func17, Tryd.ntmps17
    go_wp2
    go_ret
    exact ⟨ret_int HN.out, rfl⟩
  by_cases h3 : v < 0
  · have HN : Hid (-v = (sizeN v : Int)) := by show _ = _; rw [H.out, if_pos h3, if_neg h2]
    go_enter Tryd.func17, Tryd.ntmps17
    go_wp2
    go_ret
    exact ⟨ret_int HN.out, rfl⟩
  have HN : Hid (v = (sizeN v : Int)) := by show _ = _; rw [H.out, if_neg h3, if_neg h1]
  go_enter Tryd.func17, Tryd.ntmps17
  go_wp2
  go_ret
  exact ⟨ret_int HN.out, rfl⟩

theorem rnearq_any (v least most : Int) (w : World) :
    Calls Tryd.prog 12 #[.int .i64 v, .int .i64 least, .int .i64 most] w fun e w' => e = .returned (.int .i64 (nearQ v least most)) ∧ w' = w := by
  by_cases h1 : v < least
  · have HN : Hid (nearQ v least most = least) := if_pos h1
    go_enter Tryd.func12, Tryd.ntmps12
    go_wp2
    go_ret
    exact ⟨ret_int HN.out.symm, rfl⟩
  by_cases h2 : most < v
  · have HN : Hid (nearQ v least most = most) := by show _ = _; unfold nearQ; rw [if_neg h1, if_pos h2]
    go_enter Tryd.func12, Tryd.ntmps12
    go_wp2
    go_ret
    exact ⟨ret_int HN.out.symm, rfl⟩
  have HN : Hid (nearQ v least most = v) := by show _ = _; unfold nearQ; rw [if_neg h1, if_neg h2]
  go_enter Tryd.func12, Tryd.ntmps12
  go_wp2
  go_ret
  exact ⟨ret_int HN.out.symm, rfl⟩

theorem size_le (v : Int) : sizeN v ≤ 2199023255550 := Nat.min_le_right _ _

set_option maxHeartbeats 1000000 in
theorem rthere_any (v q : Int) (w : World) :
    Calls Tryd.prog 8 #[.int .i64 v, .int .i64 q] w fun e w' => e = .returned (.int .i64 (thereQ v q)) ∧ w' = w := by
  cases hq : isQ q with
  | false =>
    have H : Hid (thereQ v q = 0) := by show _ = _; rw [thereQ, if_neg (by rw [hq]; decide)]
    have hf : fac q = 0 := by simp [fac, hq]
    go_enter Tryd.func8, Tryd.ntmps8
    go_wp2_with fail
    refine (rfac_any _ _).mono ?_
    rintro e w1 ⟨rfl, rfl⟩
    rw [hf]
    go_wp2
    go_ret
    exact ⟨ret_int H.out.symm, rfl⟩
  | true =>
    obtain ⟨f4, f5, _, _⟩ := facN_of hq false
    have hf := fac_facN hq
    have hs := size_le v
    have hc : sizeN v * 4 / facN q ≤ sizeN v := Nat.le_trans (Nat.div_le_div_left f4 (by omega)) (by omega)
    have HD : Hid ((sizeN v : Int) * 4 / (facN q : Int) = ((sizeN v * 4 / facN q : Nat) : Int)) := by show _ = _; rw [Int.natCast_ediv]; rfl
    have H : Hid (thereQ v q = sgn v (sizeN v * 4 / facN q)) := by show _ = _; rw [thereQ, if_pos hq]
    by_cases hv : v < 0
    · have HX : Hid (thereQ v q = -((sizeN v * 4 / facN q : Nat) : Int)) := H.out.trans (if_pos hv)
      clear H
      go_enter Tryd.func8, Tryd.ntmps8
      go_wp2_with fail
      refine (rfac_any _ _).mono ?_
      rintro e w1 ⟨rfl, rfl⟩
      rw [hf]
      clear hf
      generalize sizeN v * 4 / facN q = c at *
      generalize facN q = f at *
      go_wp2_with fail
      refine (rsize_any _ _).mono ?_
      rintro e w2 ⟨rfl, rfl⟩
      generalize sizeN v = s at *
      have hd := HD.out
      go_wp2
      go_ret
      exact ⟨ret_int HX.out.symm, rfl⟩
    · have HX : Hid (thereQ v q = ((sizeN v * 4 / facN q : Nat) : Int)) := H.out.trans (if_neg hv)
      clear H
      go_enter Tryd.func8, Tryd.ntmps8
      go_wp2_with fail
      refine (rfac_any _ _).mono ?_
      rintro e w1 ⟨rfl, rfl⟩
      rw [hf]
      clear hf
      generalize sizeN v * 4 / facN q = c at *
      generalize facN q = f at *
      go_wp2_with fail
      refine (rsize_any _ _).mono ?_
      rintro e w2 ⟨rfl, rfl⟩
      generalize sizeN v = s at *
      have hd := HD.out
      go_wp2
      go_ret
      exact ⟨ret_int (HD.out.trans HX.out.symm), rfl⟩

set_option maxHeartbeats 1000000 in
theorem rback_any (c q : Int) (inter : Bool) (w : World) :
    Calls Tryd.prog 10 #[.int .i64 c, .int .i64 q, .bool inter] w fun e w' => e = .returned (.int .i64 (backQ c q inter)) ∧ w' = w := by
  cases hq : isQ q with
  | false =>
    have H : Hid (backQ c q inter = 0) := by show _ = _; rw [backQ, if_neg (by rw [hq]; rintro ⟨h, _⟩; cases h)]
    have hf : fac q = 0 := by simp [fac, hq]
    go_enter Tryd.func10, Tryd.ntmps10
    go_wp2_with fail
    refine (rfac_any _ _).mono ?_
    rintro e w1 ⟨rfl, rfl⟩
    rw [hf]
    go_wp2
    go_ret
    exact ⟨ret_int H.out.symm, rfl⟩
  | true =>
    obtain ⟨f4, f5, o1, o2⟩ := facN_of hq inter
    have hf := fac_facN hq
    by_cases h0 : c = 0
    · have H : Hid (backQ c q inter = 0) := by show _ = _; rw [backQ, if_neg (fun h => h.2 h0)]
      have h0' : (c == 0) = true := by simp [h0]
      clear h0
      go_enter Tryd.func10, Tryd.ntmps10
      go_wp2_with fail
      refine (rfac_any _ _).mono ?_
      rintro e w1 ⟨rfl, rfl⟩
      rw [hf]
      generalize facN q = f at *
      go_wp2
      go_ret
      exact ⟨ret_int H.out.symm, rfl⟩
    have h0' : (c == 0) = false := by simp [h0]
    have ho : offs q inter = (offN q inter : Int) := by unfold offN at *; omega
    have hs := size_le c
    have hp2 : sizeN c * facN q ≤ 288230376151711744 := Nat.le_trans (Nat.mul_le_mul hs f5) (by omega)
    have HB : Hid (backQ c q inter = sgn c (min ((sizeN c * facN q + offN q inter + 2) / 4) 4398046511104)) := by show _ = _; rw [backQ, if_pos ⟨hq, h0⟩]
    have HP : Hid ((sizeN c : Int) * (facN q : Int) = ((sizeN c * facN q : Nat) : Int)) := by show _ = _; simp
    by_cases hg : 4398046511104 < (sizeN c * facN q + offN q inter + 2) / 4
    · have HM : Hid (min ((sizeN c * facN q + offN q inter + 2) / 4) 4398046511104 = 4398046511104) := Nat.min_eq_right (by omega)
      by_cases hv : c < 0
      · have HX : Hid (backQ c q inter = -4398046511104) := by show _ = _; rw [HB.out, HM.out, sgn, if_pos hv]; rfl
        clear HB HM
        go_enter Tryd.func10, Tryd.ntmps10
        go_wp2_with fail
        refine (rfac_any _ _).mono ?_
        rintro e w1 ⟨rfl, rfl⟩
        rw [hf]
        generalize sizeN c * facN q = p at *
        generalize facN q = f at *
        go_wp2_with fail
        refine (rsize_any _ _).mono ?_
        rintro e w2 ⟨rfl, rfl⟩
        generalize sizeN c = s at *
        go_wp2_with fail
        refine (rfac_any _ _).mono ?_
        rintro e w3 ⟨rfl, rfl⟩
        rw [hf]
        clear hf
        have hp := HP.out
        go_wp2_with fail
        refine (roffs_any _ _ _).mono ?_
        rintro e w4 ⟨rfl, rfl⟩
        rw [ho]
        clear ho
        generalize offN q inter = o at *
        go_wp2
        go_ret
        exact ⟨ret_int HX.out.symm, rfl⟩
      · have HX : Hid (backQ c q inter = 4398046511104) := by show _ = _; rw [HB.out, HM.out, sgn, if_neg hv]; rfl
        clear HB HM
        go_enter Tryd.func10, Tryd.ntmps10
        go_wp2_with fail
        refine (rfac_any _ _).mono ?_
        rintro e w1 ⟨rfl, rfl⟩
        rw [hf]
        generalize sizeN c * facN q = p at *
        generalize facN q = f at *
        go_wp2_with fail
        refine (rsize_any _ _).mono ?_
        rintro e w2 ⟨rfl, rfl⟩
        generalize sizeN c = s at *
        go_wp2_with fail
        refine (rfac_any _ _).mono ?_
        rintro e w3 ⟨rfl, rfl⟩
        rw [hf]
        clear hf
        have hp := HP.out
        go_wp2_with fail
        refine (roffs_any _ _ _).mono ?_
        rintro e w4 ⟨rfl, rfl⟩
        rw [ho]
        clear ho
        generalize offN q inter = o at *
        go_wp2
        go_ret
        exact ⟨ret_int HX.out.symm, rfl⟩
    · have HM : Hid (min ((sizeN c * facN q + offN q inter + 2) / 4) 4398046511104 = (sizeN c * facN q + offN q inter + 2) / 4) := Nat.min_eq_left (by omega)
      by_cases hv : c < 0
      · have HX : Hid (backQ c q inter = -((((sizeN c * facN q : Nat) : Int) + (offN q inter : Int) + 2) / 4)) := by show _ = _; rw [HB.out, HM.out, sgn, if_pos hv]; omega
        clear HB HM
        go_enter Tryd.func10, Tryd.ntmps10
        go_wp2_with fail
        refine (rfac_any _ _).mono ?_
        rintro e w1 ⟨rfl, rfl⟩
        rw [hf]
        generalize sizeN c * facN q = p at *
        generalize facN q = f at *
        go_wp2_with fail
        refine (rsize_any _ _).mono ?_
        rintro e w2 ⟨rfl, rfl⟩
        generalize sizeN c = s at *
        go_wp2_with fail
        refine (rfac_any _ _).mono ?_
        rintro e w3 ⟨rfl, rfl⟩
        rw [hf]
        clear hf
        have hp := HP.out
        go_wp2_with fail
        refine (roffs_any _ _ _).mono ?_
        rintro e w4 ⟨rfl, rfl⟩
        rw [ho]
        clear ho
        generalize offN q inter = o at *
        go_wp2
        go_ret
        exact ⟨ret_int HX.out.symm, rfl⟩
      · have HX : Hid (backQ c q inter = (((sizeN c * facN q : Nat) : Int) + (offN q inter : Int) + 2) / 4) := by show _ = _; rw [HB.out, HM.out, sgn, if_neg hv]; omega
        clear HB HM
        go_enter Tryd.func10, Tryd.ntmps10
        go_wp2_with fail
        refine (rfac_any _ _).mono ?_
        rintro e w1 ⟨rfl, rfl⟩
        rw [hf]
        generalize sizeN c * facN q = p at *
        generalize facN q = f at *
        go_wp2_with fail
        refine (rsize_any _ _).mono ?_
        rintro e w2 ⟨rfl, rfl⟩
        generalize sizeN c = s at *
        go_wp2_with fail
        refine (rfac_any _ _).mono ?_
        rintro e w3 ⟨rfl, rfl⟩
        rw [hf]
        clear hf
        have hp := HP.out
        go_wp2_with fail
        refine (roffs_any _ _ _).mono ?_
        rintro e w4 ⟨rfl, rfl⟩
        rw [ho]
        clear ho
        generalize offN q inter = o at *
        go_wp2
        go_ret
        exact ⟨ret_int HX.out.symm, rfl⟩
end Go.Proofs.YtemfepnmihclkaaDoor
