/-
  Package quant: numbers made coarse, and back.
-/
import Derived.Test.YtemfepnmihclkaaDoorQuant
import Derived.Test.YtemfepnmihclkaaDoorLutQ
namespace Go.Proofs.YtemfepnmihclkaaDoor
open Go.RowKit

theorem qwithin_any (v most : Int) (h0 : 0 ≤ most) (h1 : most ≤ 4398046511104) (w : World) :
    Calls Tryd.prog 16 #[.int .i64 v, .int .i64 most] w fun e w' => e = .returned (.int .i64 (max (-most) (min v most))) ∧ w' = w := by
  go_enter Tryd.func16, Tryd.ntmps16
  go_wp2 <;> (go_ret; exact ⟨ret_int (by first | omega | (split at * <;> omega)), rfl⟩)

/-- A number that is taken for the nearer end, with its sign. -/
theorem within_size (v : Int) : max (-2199023255550) (min v 2199023255550) = sgn v (sizeN v) := by
  unfold sgn sizeN
  split <;> omega
theorem within_near (v : Int) : max (-4398046511104) (min v 4398046511104) = nearQ v (-4398046511104) 4398046511104 := by
  unfold nearQ
  split
  · omega
  · split <;> omega

theorem qsize_any (v : Int) (w : World) :
    Calls Tryd.prog 16 #[.int .i64 v, .int .i64 2199023255550] w fun e w' => e = .returned (.int .i64 (sgn v (sizeN v))) ∧ w' = w := by
  have h := qwithin_any v 2199023255550 (by omega) (by omega) w
  rw [within_size] at h
  exact h

theorem qclip_any (v : Int) (w : World) :
    Calls Tryd.prog 13 #[.int .i64 v] w fun e w' => e = .returned (.int .i64 (nearQ v (-4398046511104) 4398046511104)) ∧ w' = w := by
  have HN := hid (within_near v)
  go_enter Tryd.func13, Tryd.ntmps13
  go_wp2_with fail
  refine (qwithin_any _ _ (by omega) (by omega) _).mono ?_
  rintro e w1 ⟨rfl, rfl⟩
  go_wp2
  go_ret
  exact ⟨ret_int HN.out, rfl⟩

theorem qclamp_any (q : Int) (w : World) :
    Calls Tryd.prog 11 #[.int .i64 q] w fun e w' => e = .returned (.int .i64 (nearQ q 0 60)) ∧ w' = w := by
  go_enter Tryd.func11, Tryd.ntmps11
  go_wp2 <;> (go_ret; exact ⟨ret_int (by unfold nearQ; repeat' split <;> first | omega | (split at * <;> omega)), rfl⟩)

theorem sizeN_le (v : Int) : sizeN v ≤ 2199023255550 := Nat.min_le_right _ _

set_option maxHeartbeats 1000000 in
theorem qthere_any (v q : Int) (w : World) (hQ : Quarters w) :
    Calls Tryd.prog 7 #[.int .i64 v, .int .i64 q] w fun e w' => e = .returned (.int .i64 (thereQ v q)) ∧ Fr (fun _ => False) w w' := by
  cases hq : isQ q with
  | false =>
    have H : Hid (thereQ v q = 0) := by show _ = _; rw [thereQ, if_neg (by rw [hq]; decide)]
    have hf : fac q = 0 := by simp [fac, hq]
    go_enter Tryd.func7, Tryd.ntmps7
    go_wp2_with fail
    refine (lfac_any _ _ hQ).mono ?_
    rintro e w1 ⟨rfl, F1⟩
    rw [hf]
    go_wp2
    go_ret
    exact ⟨ret_int H.out.symm, F1⟩
  | true =>
    obtain ⟨f4, f5, _, _⟩ := facN_of hq false
    have hf := fac_facN hq
    have hs := sizeN_le v
    by_cases hv : v < 0
    · obtain ⟨c, p, h1, h2, h3, h4, h5⟩ := there_parts (v := v) hq
      have hx : sgn v (sizeN v) = -(sizeN v : Int) := if_pos hv
      have H : Hid (thereQ v q = -(c : Int)) := h1.trans (if_pos hv)
      go_enter Tryd.func7, Tryd.ntmps7
      go_wp2_with fail
      refine (lfac_any _ _ hQ).mono ?_
      rintro e w1 ⟨rfl, F1⟩
      rw [hf]
      clear h1 hf
      generalize facN q = f at *
      go_wp2_with fail
      refine (qsize_any _ _).mono ?_
      rintro e w2 ⟨rfl, rfl⟩
      rw [hx]
      clear hx
      generalize sizeN v = s at *
      have HD : Hid ((4 * -(s : Int)).tdiv (f : Int) = -(c : Int)) := by
        show _ = _
        rw [show 4 * -(s : Int) = -((s * 4 : Nat) : Int) by omega, Int.neg_tdiv, ← Int.ofNat_tdiv]
        rw [Nat.div_eq_of_lt_le (by rw [h2]; exact h3) (by rw [Nat.succ_mul, h2]; exact h4)]
      go_wp2
      go_ret
      exact ⟨ret_int (HD.out.trans H.out.symm), F1⟩
    · obtain ⟨c, p, h1, h2, h3, h4, h5⟩ := there_parts (v := v) hq
      have hx : sgn v (sizeN v) = (sizeN v : Int) := if_neg hv
      have H : Hid (thereQ v q = (c : Int)) := h1.trans (if_neg hv)
      go_enter Tryd.func7, Tryd.ntmps7
      go_wp2_with fail
      refine (lfac_any _ _ hQ).mono ?_
      rintro e w1 ⟨rfl, F1⟩
      rw [hf]
      clear h1 hf
      generalize facN q = f at *
      go_wp2_with fail
      refine (qsize_any _ _).mono ?_
      rintro e w2 ⟨rfl, rfl⟩
      rw [hx]
      clear hx
      generalize sizeN v = s at *
      have HD : Hid (4 * (s : Int) / (f : Int) = (c : Int)) := by
        show _ = _
        rw [show 4 * (s : Int) = ((s * 4 : Nat) : Int) by omega, ← Int.natCast_ediv]
        rw [Nat.div_eq_of_lt_le (by rw [h2]; exact h3) (by rw [Nat.succ_mul, h2]; exact h4)]
      go_wp2
      go_ret
      exact ⟨ret_int (HD.out.trans H.out.symm), F1⟩

/-- What comes back of a number that isn't 0. -/
theorem back_of {c q : Int} {i : Bool} (hq : isQ q = true) (hc : ¬ c = 0) : ∃ p : Nat, sizeN c * facN q = p ∧ p ≤ 288230376151711744 ∧ backQ c q i = sgn c (min ((p + offN q i + 2) / 4) 4398046511104) := by
  obtain ⟨f4, f5, _, _⟩ := facN_of hq i
  refine ⟨_, rfl, Nat.le_trans (Nat.mul_le_mul (sizeN_le c) f5) (by omega), ?_⟩
  rw [backQ, if_pos ⟨hq, hc⟩]
theorem offs_offN {q : Int} (h : isQ q = true) (i : Bool) : offs q i = (offN q i : Int) := by
  have := (facN_of h i).2.2.1
  unfold offN at *; omega

set_option maxHeartbeats 1000000 in
theorem qback_any (c q : Int) (inter : Bool) (w : World) (hQ : Quarters w) :
    Calls Tryd.prog 9 #[.int .i64 c, .int .i64 q, .bool inter] w fun e w' => e = .returned (.int .i64 (backQ c q inter)) ∧ Fr (fun _ => False) w w' := by
  by_cases h0 : c = 0
  · have H : Hid (backQ c q inter = 0) := by show _ = _; rw [backQ, if_neg (fun h => h.2 h0)]
    have h0' : (c == 0) = true := by simp [h0]
    clear h0
    go_enter Tryd.func9, Tryd.ntmps9
    go_wp2_with fail
    refine (lfac_any _ _ hQ).mono ?_
    rintro e w1 ⟨rfl, F1⟩
    go_wp2
    go_ret
    exact ⟨ret_int H.out.symm, F1⟩
  have h0' : (c == 0) = false := by simp [h0]
  cases hq : isQ q with
  | false =>
    have H : Hid (backQ c q inter = 0) := by show _ = _; rw [backQ, if_neg (by rw [hq]; rintro ⟨h, _⟩; cases h)]
    have hf : fac q = 0 := by simp [fac, hq]
    go_enter Tryd.func9, Tryd.ntmps9
    go_wp2_with fail
    refine (lfac_any _ _ hQ).mono ?_
    rintro e w1 ⟨rfl, F1⟩
    rw [hf]
    go_wp2
    go_ret
    exact ⟨ret_int H.out.symm, F1⟩
  | true =>
    obtain ⟨f4, f5, o1, o2⟩ := facN_of hq inter
    have hf := fac_facN hq
    have ho := offs_offN hq inter
    have hs := sizeN_le c
    obtain ⟨p, hp, hp2, hB⟩ := back_of (i := inter) hq h0
    have HP : Hid (((sizeN c : Nat) : Int) * (facN q : Int) = (p : Int)) := by show _ = _; rw [← hp]; simp
    by_cases hv : c < 0
    · have hx : sgn c (sizeN c) = -(sizeN c : Int) := if_pos hv
      have H : Hid (backQ c q inter = nearQ ((-(p : Int) + -((offN q inter : Int) + 2)).tdiv 4) (-4398046511104) 4398046511104) := by
        show _ = _
        rw [show (-(p : Int) + -((offN q inter : Int) + 2)).tdiv 4 = -(((p + offN q inter + 2) / 4 : Nat) : Int) by rw [show -(p : Int) + -((offN q inter : Int) + 2) = -((p + offN q inter + 2 : Nat) : Int) by omega, Int.neg_tdiv]; rfl]
        rw [hB, sgn, if_pos hv]
        unfold nearQ
        repeat' split <;> omega
      clear hB
      go_enter Tryd.func9, Tryd.ntmps9
      go_wp2_with fail
      refine (lfac_any _ _ hQ).mono ?_
      rintro e w1 ⟨rfl, F1⟩
      rw [hf]
      go_wp2_with fail
      refine (loffs_any _ _ _ (hQ.fr F1)).mono ?_
      rintro e w2 ⟨rfl, F2⟩
      have F := F1.trans' F2
      clear F1 F2
      rw [ho]
      clear hf ho hp
      generalize offN q inter = o at *
      generalize facN q = f at *
      go_wp2_with fail
      refine (qsize_any _ _).mono ?_
      rintro e w3 ⟨rfl, rfl⟩
      rw [hx]
      clear hx
      generalize sizeN c = s at *
      have hm : -(s : Int) * (f : Int) = -(p : Int) := by rw [Int.neg_mul, HP.out]
      go_wp2_with fail
      refine (qclip_any _ _).mono ?_
      rintro e w4 ⟨rfl, rfl⟩
      go_wp2
      go_ret
      exact ⟨ret_int H.out.symm, F⟩
    · have hx : sgn c (sizeN c) = (sizeN c : Int) := if_neg hv
      have H : Hid (backQ c q inter = nearQ (((p + offN q inter + 2) / 4 : Nat) : Int) (-4398046511104) 4398046511104) := by
        show _ = _
        rw [hB, sgn, if_neg hv]
        unfold nearQ
        repeat' split <;> omega
      clear hB
      go_enter Tryd.func9, Tryd.ntmps9
      go_wp2_with fail
      refine (lfac_any _ _ hQ).mono ?_
      rintro e w1 ⟨rfl, F1⟩
      rw [hf]
      go_wp2_with fail
      refine (loffs_any _ _ _ (hQ.fr F1)).mono ?_
      rintro e w2 ⟨rfl, F2⟩
      have F := F1.trans' F2
      clear F1 F2
      rw [ho]
      clear hf ho hp
      generalize offN q inter = o at *
      generalize facN q = f at *
      go_wp2_with fail
      refine (qsize_any _ _).mono ?_
      rintro e w3 ⟨rfl, rfl⟩
      rw [hx]
      clear hx
      generalize sizeN c = s at *
      have hm : (s : Int) * (f : Int) = (p : Int) := HP.out
      go_wp2_with fail
      refine (qclip_any _ _).mono ?_
      rintro e w4 ⟨rfl, rfl⟩
      go_wp2
      go_ret
      exact ⟨ret_int H.out.symm, F⟩
end Go.Proofs.YtemfepnmihclkaaDoor
