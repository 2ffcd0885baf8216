/-
  Law package 6: a number is coded by as many bits as Bits tells (BinsCosts): the walk.
-/
import Derived.Test.YthabklgeopdlhaaFirst6
namespace Go.Proofs.Ythabklgeopdlhaa
open Go.RowKit

set_option maxHeartbeats 1000000 in
theorem costs6_walk (z : Int) (w : World) (z0 : -9223372036854775808 ≤ z) (z1 : z ≤ 9223372036854775807) :
    Calls Try.prog 6 #[.int .i64 z] w fun e w' => e = .returned (.bool true) ∧ Below w.heap.size w w' := by
  cases hok : okN (unsN z) with
  | false =>
    have hout : 2199023255550 < z ∨ z < -2199023255550 := by
      have := okN_false hok
      unfold unsN at this
      split at this
      · split at this <;> omega
      · omega
    go_enter Try.func6, Try.ntmps6
    go_wp2_with fail
    refine (first6_any w).mono ?_
    rintro e w0 ⟨rfl, F⟩
    have O0 := SetObj.new w0 2 #[.int .i64 0, .int .i64 1] 3 2 3 (by omega) (by intro j hj; match j, hj with | 0, _ => rfl | 1, _ => rfl)
    obtain ⟨W, hW⟩ : ∃ W, W = (w0.alloc (.cells #[.int .i64 0, .int .i64 1] 3)).alloc (.cells #[.slice (some ⟨w0.heap.size, 0, none⟩) 2 2, .int .i64 2, .int .i64 3] 24) := ⟨_, rfl⟩
    rw [← hW] at O0
    have F0 : Fr (fun _ => False) w W := by rw [hW]; exact (F.alloc _).alloc _
    have hsz : W.heap.size = w0.heap.size + 2 := by rw [hW]; simp
    have HW := hid hW
    have hww := F.size
    clear hW F
    go_wp2_with fail
    rw [← HW.out]
    refine (newEnc_any W 4).mono ?_
    rintro e w1 ⟨p, g, rfl, h1, hg, f1⟩
    rw [ctx4] at h1
    have O1 := O0.quiet f1
    have F1 := F0.trans' f1
    have hgw : w.heap.size ≤ g := by omega
    clear O0 f1 F0
    have k0 := O1.k0
    have k1 := O1.k1
    have k2 := O1.k2
    have HO := hid hout
    clear hout
    go_wp2_with fail
    refine (bputS_any w1 p g _ _ 4 _ _ 2 2 idV w0.heap.size 2 3 z h1 O1.set (h1.setOff 2 _ (by omega)) (by omega) (by simp [startC]) (Good.first 4) z0 z1).mono ?_
    rintro e w2 ⟨rfl, v2, zs2, h2, st2⟩
    have e1 : putG idV 2 2 3 4 (startC 4) z = startC 4 := by unfold putG; rw [hok]; rfl
    rw [e1] at h2
    rw [hok, Bool.false_and]
    have F2 := st2.outer h1 F1 hgw
    clear O1 F1 st2 h1 k0 k1 k2 e1
    go_wp2_with fail
    refine (ecount_any w2 p g _ _ 4 _ h2).mono ?_
    rintro e w3 ⟨rfl, rfl⟩
    rw [show ((startC 4).N : Int) = 0 from rfl]
    rcases HO.out with ho | ho
    · go_wp2
      go_ret
      exact ⟨rfl, F2.below (Nat.le_refl _) (fun _ _ h => h)⟩
    · have hno : ¬ 2199023255550 < z := by omega
      have hnd : decide (2199023255550 < z) = false := by simpa using hno
      go_wp2
      go_ret
      exact ⟨rfl, F2.below (Nat.le_refl _) (fun _ _ h => h)⟩
  | true =>
    obtain ⟨u1, u2, u3⟩ := unsN_ok hok
    obtain ⟨m, hm⟩ : ∃ m, m = z.natAbs := ⟨_, rfl⟩
    have hmax : max z (-z) = (m : Int) := by omega
    have hm2 : m ≤ 2199023255550 := by omega
    have hzb0 : -2199023255550 ≤ z := by omega
    have hzb1 : z ≤ 2199023255550 := by omega
    have hcost := ncost_le m hm2
    have hhalf := ncost_half m hm2
    have okm : okN (m : Int) = true := by unfold okN; rw [decide_eq_true_eq]; omega
    have okh : okN ((m : Int) / 2) = true := by unfold okN; rw [decide_eq_true_eq]; omega
    have HB : Hid (∀ u, Calls Try.prog 16 #[.int .i64 (m : Int)] u fun e w' => e = .returned (.int .i64 (ncost m : Int)) ∧ w' = u) := by
      show ∀ u, _
      intro u
      have := bbits_any (m : Int) u
      rwa [okm, if_pos rfl, Int.toNat_natCast] at this
    have HH : Hid (∀ u, Calls Try.prog 16 #[.int .i64 ((m : Int) / 2)] u fun e w' => e = .returned (.int .i64 (ncost (m / 2) : Int)) ∧ w' = u) := by
      show ∀ u, _
      intro u
      have := bbits_any ((m : Int) / 2) u
      rwa [okh, if_pos rfl, show ((m : Int) / 2).toNat = m / 2 by omega] at this
    have HN : Hid ((putG idV 2 2 3 4 (startC 4) z).N = ncost m + if z = 0 then 0 else 1) := by
      show _ = _
      unfold putG
      rw [hok, f_right, if_pos (by decide), runC_N' 4 _ _ (sgnSteps_has (rightS_fol f_right) (rightS_data f_right) (rightS_sign f_right) z), sgnSteps_length, ← hm]
      show 0 + _ = _
      omega
    have HM := hid hm
    clear hm okm okh u1 u2 u3
    generalize ncost (m / 2) = ch at *
    generalize ncost m = cm at *
    go_enter Try.func6, Try.ntmps6
    go_wp2_with fail
    refine (first6_any w).mono ?_
    rintro e w0 ⟨rfl, F⟩
    have O0 := SetObj.new w0 2 #[.int .i64 0, .int .i64 1] 3 2 3 (by omega) (by intro j hj; match j, hj with | 0, _ => rfl | 1, _ => rfl)
    obtain ⟨W, hW⟩ : ∃ W, W = (w0.alloc (.cells #[.int .i64 0, .int .i64 1] 3)).alloc (.cells #[.slice (some ⟨w0.heap.size, 0, none⟩) 2 2, .int .i64 2, .int .i64 3] 24) := ⟨_, rfl⟩
    rw [← hW] at O0
    have F0 : Fr (fun _ => False) w W := by rw [hW]; exact (F.alloc _).alloc _
    have hsz : W.heap.size = w0.heap.size + 2 := by rw [hW]; simp
    have HW := hid hW
    have hww := F.size
    clear hW F
    go_wp2_with fail
    rw [← HW.out]
    refine (newEnc_any W 4).mono ?_
    rintro e w1 ⟨p, g, rfl, h1, hg, f1⟩
    rw [ctx4] at h1
    have O1 := O0.quiet f1
    have F1 := F0.trans' f1
    have hgw : w.heap.size ≤ g := by omega
    clear O0 f1 F0
    have k0 := O1.k0
    have k1 := O1.k1
    have k2 := O1.k2
    go_wp2_with fail
    refine (bputS_any w1 p g _ _ 4 _ _ 2 2 idV w0.heap.size 2 3 z h1 O1.set (h1.setOff 2 _ (by omega)) (by omega) (by simp [startC]) (Good.first 4) z0 z1).mono ?_
    rintro e w2 ⟨rfl, v2, zs2, h2, st2⟩
    rw [hok, f_right, Bool.true_and]
    have F2 := st2.outer h1 F1 hgw
    clear O1 F1 st2 h1 k0 k1 k2
    generalize putG idV 2 2 3 4 (startC 4) z = s2 at *
    have hch : (ch : Int) ≤ (cm : Int) := by omega
    have hcm : (cm : Int) ≤ 80 := by omega
    have hcd : decide ((cm : Int) ≤ 80) = true := by simpa using hcm
    by_cases hz : z = 0
    · subst hz
      obtain rfl : m = 0 := HM.out
      have HN0 : Hid (s2.N = cm) := by have := HN.out; rw [if_pos rfl] at this; exact this
      have hzz : ((0 : Int) != 0) = false := by decide
      go_wp2_with fail
      refine (HB.out _).mono ?_
      rintro e w3 ⟨rfl, rfl⟩
      go_wp2_with fail
      refine (ecount_any _ p g _ _ 4 _ h2).mono ?_
      rintro e w4 ⟨rfl, rfl⟩
      rw [HN0.out]
      go_wp2_with fail
      refine (HB.out _).mono ?_
      rintro e w4 ⟨rfl, rfl⟩
      go_wp2_with fail
      refine (HH.out _).mono ?_
      rintro e w4 ⟨rfl, rfl⟩
      go_wp2_with fail
      refine (HB.out _).mono ?_
      rintro e w4 ⟨rfl, rfl⟩
      go_wp2
      go_ret
      exact ⟨rfl, F2.below (Nat.le_refl _) (fun _ _ h => h)⟩
    · have hzz : (z != 0) = true := by simpa using hz
      have HN0 : Hid (s2.N = cm + 1) := by have := HN.out; rw [if_neg hz] at this; exact this
      go_wp2_with fail
      refine (HB.out _).mono ?_
      rintro e w3 ⟨rfl, rfl⟩
      go_wp2_with fail
      refine (ecount_any _ p g _ _ 4 _ h2).mono ?_
      rintro e w4 ⟨rfl, rfl⟩
      rw [HN0.out, show ((cm + 1 : Nat) : Int) = (cm : Int) + 1 by omega]
      go_wp2_with fail
      refine (HB.out _).mono ?_
      rintro e w4 ⟨rfl, rfl⟩
      go_wp2_with fail
      refine (HH.out _).mono ?_
      rintro e w4 ⟨rfl, rfl⟩
      go_wp2_with fail
      refine (HB.out _).mono ?_
      rintro e w4 ⟨rfl, rfl⟩
      go_wp2
      go_ret
      exact ⟨rfl, F2.below (Nat.le_refl _) (fun _ _ h => h)⟩
end Go.Proofs.Ythabklgeopdlhaa
