/-
  Package near: a place, the contexts.
-/
import Derived.Test.YtkndnibmgohcaaaNearM
import Derived.Test.YtkndnibmgohcaaaNearN
import Derived.Test.YtkndnibmgohcaaaPlaneA
namespace Go.Proofs.Ytkndnibmgohcaaa
open Go.RowKit

theorem nearI_in {x : Nat} {p : Int} (h0 : 0 ≤ p) (h1 : p < (x : Int)) : nearI x p = p.toNat := by
  unfold nearI; omega

theorem nat_any (X Y : Int) (a : Option Addr) (n cap : Nat) (V : Nat → Int) (b : Nat) (px py : Int) (w : World) (h : Nums w a n cap V b) :
    Calls Try.prog 18 #[.agg #[.int .i64 X, .int .i64 Y, .slice a n cap], .int .i64 px, .int .i64 py] w fun e w' => e = .returned (.int .i64 (numZ X Y n V px py)) ∧ Fr (fun _ => False) w w' := by
  by_cases h0 : px < 0
  · have HR : Hid (numZ X Y n V px py = 0) := numZ_out (by omega)
    go_enter Try.func18, Try.ntmps18
    go_wp2
    go_ret
    exact ⟨ret_int HR.out.symm, (Fr.refl _ w).alloc _⟩
  have g0 : decide (px < 0) = false := decide_eq_false h0
  by_cases h1 : X ≤ px
  · have HR : Hid (numZ X Y n V px py = 0) := numZ_out (by omega)
    have g1 : decide (X ≤ px) = true := decide_eq_true h1
    go_enter Try.func18, Try.ntmps18
    go_wp2
    go_ret
    exact ⟨ret_int HR.out.symm, (Fr.refl _ w).alloc _⟩
  have g1 : decide (X ≤ px) = false := decide_eq_false h1
  by_cases h2 : py < 0
  · have HR : Hid (numZ X Y n V px py = 0) := numZ_out (by omega)
    have g2 : decide (py < 0) = true := decide_eq_true h2
    go_enter Try.func18, Try.ntmps18
    go_wp2
    go_ret
    exact ⟨ret_int HR.out.symm, (Fr.refl _ w).alloc _⟩
  have g2 : decide (py < 0) = false := decide_eq_false h2
  by_cases h3 : Y ≤ py
  · have HR : Hid (numZ X Y n V px py = 0) := numZ_out (by omega)
    have g3 : decide (Y ≤ py) = true := decide_eq_true h3
    go_enter Try.func18, Try.ntmps18
    go_wp2
    go_ret
    exact ⟨ret_int HR.out.symm, (Fr.refl _ w).alloc _⟩
  have g3 : decide (Y ≤ py) = false := decide_eq_false h3
  obtain ⟨W, hW⟩ : ∃ W, W = w.alloc (.cells #[.int .i64 X, .int .i64 Y, .slice a n cap] 31) := ⟨_, rfl⟩
  have F0 : Fr (fun _ => False) w W := by rw [hW]; exact (Fr.refl _ w).alloc _
  have HC : Hid (∀ W, Fr (fun _ => False) w W → Calls Try.prog 20 #[.agg #[.int .i64 X, .int .i64 Y, .slice a n cap], .int .i64 px, .int .i64 py] W fun e w' => e = .returned (.int .i64 (numZ X Y n V px py)) ∧ Fr (fun _ => False) W w') := by
    show ∀ W, _
    intro W f
    cases hR : rightP X Y n with
    | false => rw [numZ_bad hR]; exact pat_bad X Y a n cap px py W hR
    | true =>
      obtain ⟨x, y, rfl, rfl, hx, hx', hy, hy', rfl⟩ := rightP_nat hR
      have := pat_go x y a cap V b px py W hx hx' hy hy' (h.quiet f)
      rw [nearI_in (by omega) (by omega), nearI_in (by omega) (by omega)] at this
      obtain ⟨i, rfl⟩ : ∃ i : Nat, px = (i : Int) := ⟨px.toNat, by omega⟩
      obtain ⟨j, rfl⟩ : ∃ j : Nat, py = (j : Int) := ⟨py.toNat, by omega⟩
      rw [numZ_in hR (by omega) (by omega)]
      exact this
  have HW := hid hW
  clear hW
  go_enter Try.func18, Try.ntmps18
  go_wp2_with fail
  rw [← HW.out]
  refine (HC.out W F0).mono ?_
  rintro e w1 ⟨rfl, f1⟩
  go_wp2
  go_ret
  exact ⟨rfl, F0.trans' f1⟩

theorem nfurther_any (pa : Bool) (w : World) :
    Calls Try.prog 15 #[.bool pa] w fun e w' => e = .returned (.int .i64 (if pa then 9 else 2)) ∧ w' = w := by
  cases pa <;> (go_enter Try.func15, Try.ntmps15; go_wp2; go_ret; exact ⟨rfl, rfl⟩)
theorem nfirst_any (pa be : Bool) (w : World) :
    Calls Try.prog 16 #[.bool pa, .bool be] w fun e w' => e = .returned (.int .i64 (if pa then (if be then 8 else 7) else (if be then 1 else 0))) ∧ w' = w := by
  cases pa <;> cases be <;> (go_enter Try.func16, Try.ntmps16; go_wp2; go_ret; exact ⟨rfl, rfl⟩)
theorem nsigned_any (s : Int) (w : World) :
    Calls Try.prog 17 #[.int .i64 s] w fun e w' => e = .returned (.int .i64 (signC s : Nat)) ∧ w' = w := by
  by_cases h0 : 0 < s
  · have H : Hid (((signC s : Nat) : Int) = 15) := by show _ = _; unfold signC; rw [if_pos h0]; rfl
    go_enter Try.func17, Try.ntmps17
    go_wp2
    go_ret
    exact ⟨ret_int H.out.symm, rfl⟩
  by_cases h1 : s < 0
  · have H : Hid (((signC s : Nat) : Int) = 16) := by show _ = _; unfold signC; rw [if_neg h0, if_pos h1]; rfl
    go_enter Try.func17, Try.ntmps17
    go_wp2
    go_ret
    exact ⟨ret_int H.out.symm, rfl⟩
  have H : Hid (((signC s : Nat) : Int) = 14) := by show _ = _; unfold signC; rw [if_neg h0, if_neg h1]; rfl
  go_enter Try.func17, Try.ntmps17
  go_wp2
  go_ret
  exact ⟨ret_int H.out.symm, rfl⟩

theorem nisnan_any (z : Int) (w : World) :
    Calls Try.prog 21 #[.int .i64 z] w fun e w' => e = .returned (.bool false) ∧ w' = w := by
  go_enter Try.func21, Try.ntmps21
  go_wp2
  go_ret
  exact ⟨rfl, rfl⟩
theorem ncompare_any (z : Int) (w : World) :
    Calls Try.prog 19 #[.int .i64 z, .int .i64 0] w fun e w' => e = .returned (.int .i64 (sgnZ z)) ∧ w' = w := by
  have HN := hid nisnan_any
  by_cases h0 : z < 0
  · have H : Hid (sgnZ z = -1) := by show _ = _; unfold sgnZ; rw [if_neg (by omega), if_pos h0]
    go_enter Try.func19, Try.ntmps19
    go_wp2_with fail
    refine (HN.out _ _).mono ?_
    rintro e w1 ⟨rfl, rfl⟩
    go_wp2_with fail
    refine (HN.out _ _).mono ?_
    rintro e w2 ⟨rfl, rfl⟩
    go_wp2
    go_ret
    exact ⟨ret_int H.out.symm, rfl⟩
  have g0 : decide (z < 0) = false := decide_eq_false h0
  by_cases h1 : 0 < z
  · have H : Hid (sgnZ z = 1) := by show _ = _; unfold sgnZ; rw [if_pos h1]
    go_enter Try.func19, Try.ntmps19
    go_wp2_with fail
    refine (HN.out _ _).mono ?_
    rintro e w1 ⟨rfl, rfl⟩
    go_wp2_with fail
    refine (HN.out _ _).mono ?_
    rintro e w2 ⟨rfl, rfl⟩
    go_wp2
    go_ret
    exact ⟨ret_int H.out.symm, rfl⟩
  have g1 : decide (0 < z) = false := decide_eq_false h1
  have H : Hid (sgnZ z = 0) := by show _ = _; unfold sgnZ; rw [if_neg (by omega), if_neg (by omega)]
  go_enter Try.func19, Try.ntmps19
  go_wp2_with fail
  refine (HN.out _ _).mono ?_
  rintro e w1 ⟨rfl, rfl⟩
  go_wp2_with fail
  refine (HN.out _ _).mono ?_
  rintro e w2 ⟨rfl, rfl⟩
  go_wp2
  go_ret
  exact ⟨ret_int H.out.symm, rfl⟩

set_option maxHeartbeats 1000000 in
theorem nset_any (pa be : Bool) (s : Int) (w : World) :
    Calls Try.prog 7 #[.bool pa, .bool be, .int .i64 s] w fun e w' => SetMade w w' e (followL pa be) 17 (signC s : Nat) := by
  have HF := hid nfurther_any
  have HG := hid nfirst_any
  have HS := hid (nsigned_any s)
  generalize signC s = k at *
  cases pa
  · cases be
    · obtain ⟨W, hW⟩ : ∃ W, W = (w.alloc (.cells #[.slice (some ⟨w.heap.size + 1, 0, none⟩) 6 6, .int .i64 17, .int .i64 (k : Int)] 26)).alloc (.cells #[.int .i64 0, .int .i64 2, .int .i64 3, .int .i64 4, .int .i64 5, .int .i64 6] 3) := ⟨_, rfl⟩
      have F0 : Fr (fun _ => False) w W := by rw [hW]; exact ((Fr.refl _ w).alloc _).alloc _
      have O0 : Blk W w.heap.size #[.slice (some ⟨w.heap.size + 1, 0, none⟩) 6 6, .int .i64 17, .int .i64 (k : Int)] 26 := by rw [hW]; exact (Blk.new _ _ _).alloc _
      have O1 : Blk W (w.heap.size + 1) #[.int .i64 0, .int .i64 2, .int .i64 3, .int .i64 4, .int .i64 5, .int .i64 6] 3 := by rw [hW]; simpa using Blk.new (w.alloc (.cells #[.slice (some ⟨w.heap.size + 1, 0, none⟩) 6 6, .int .i64 17, .int .i64 (k : Int)] 26)) #[.int .i64 0, .int .i64 2, .int .i64 3, .int .i64 4, .int .i64 5, .int .i64 6] 3
      have HW := hid hW
      clear hW
      go_enter Try.func7, Try.ntmps7
      go_wp2_with fail
      refine (HF.out _ _).mono ?_
      rintro e w1 ⟨rfl, rfl⟩
      rw [if_neg (by decide)]
      go_wp2_with fail
      refine (HG.out _ _ _).mono ?_
      rintro e w2 ⟨rfl, rfl⟩
      rw [if_neg (by decide), if_neg (by decide)]
      go_wp2_with fail
      refine (HS.out _).mono ?_
      rintro e w3 ⟨rfl, rfl⟩
      go_wp2
      refine bodyPost_ret (v := .agg #[.slice (some ⟨w.heap.size + 1, 0, none⟩) 6 6, .int .i64 17, .int .i64 (k : Int)]) ?_ rfl ⟨w.heap.size + 1, rfl, ?_, ⟨by omega, ?_⟩, ?_⟩
      · rw [← HW.out]
        exact results_cell_row rfl _ _ w.heap.size 26 _ (0, 0) _ rfl (show Blk _ _ _ _ from O0) Try.underlying26 rfl Try.size_set
      · rw [← HW.out]
        exact Nums.listN _ _ [0, 2, 3, 4, 5, 6] (by decide) O1
      · rw [← HW.out]
        exact ⟨_, O1⟩
      · rw [← HW.out]
        exact F0
    · obtain ⟨W, hW⟩ : ∃ W, W = (w.alloc (.cells #[.slice (some ⟨w.heap.size + 1, 0, none⟩) 6 6, .int .i64 17, .int .i64 (k : Int)] 26)).alloc (.cells #[.int .i64 1, .int .i64 2, .int .i64 3, .int .i64 4, .int .i64 5, .int .i64 6] 3) := ⟨_, rfl⟩
      have F0 : Fr (fun _ => False) w W := by rw [hW]; exact ((Fr.refl _ w).alloc _).alloc _
      have O0 : Blk W w.heap.size #[.slice (some ⟨w.heap.size + 1, 0, none⟩) 6 6, .int .i64 17, .int .i64 (k : Int)] 26 := by rw [hW]; exact (Blk.new _ _ _).alloc _
      have O1 : Blk W (w.heap.size + 1) #[.int .i64 1, .int .i64 2, .int .i64 3, .int .i64 4, .int .i64 5, .int .i64 6] 3 := by rw [hW]; simpa using Blk.new (w.alloc (.cells #[.slice (some ⟨w.heap.size + 1, 0, none⟩) 6 6, .int .i64 17, .int .i64 (k : Int)] 26)) #[.int .i64 1, .int .i64 2, .int .i64 3, .int .i64 4, .int .i64 5, .int .i64 6] 3
      have HW := hid hW
      clear hW
      go_enter Try.func7, Try.ntmps7
      go_wp2_with fail
      refine (HF.out _ _).mono ?_
      rintro e w1 ⟨rfl, rfl⟩
      rw [if_neg (by decide)]
      go_wp2_with fail
      refine (HG.out _ _ _).mono ?_
      rintro e w2 ⟨rfl, rfl⟩
      rw [if_neg (by decide), if_pos rfl]
      go_wp2_with fail
      refine (HS.out _).mono ?_
      rintro e w3 ⟨rfl, rfl⟩
      go_wp2
      refine bodyPost_ret (v := .agg #[.slice (some ⟨w.heap.size + 1, 0, none⟩) 6 6, .int .i64 17, .int .i64 (k : Int)]) ?_ rfl ⟨w.heap.size + 1, rfl, ?_, ⟨by omega, ?_⟩, ?_⟩
      · rw [← HW.out]
        exact results_cell_row rfl _ _ w.heap.size 26 _ (0, 0) _ rfl (show Blk _ _ _ _ from O0) Try.underlying26 rfl Try.size_set
      · rw [← HW.out]
        exact Nums.listN _ _ [1, 2, 3, 4, 5, 6] (by decide) O1
      · rw [← HW.out]
        exact ⟨_, O1⟩
      · rw [← HW.out]
        exact F0
  · cases be
    · obtain ⟨W, hW⟩ : ∃ W, W = (w.alloc (.cells #[.slice (some ⟨w.heap.size + 1, 0, none⟩) 6 6, .int .i64 17, .int .i64 (k : Int)] 26)).alloc (.cells #[.int .i64 7, .int .i64 9, .int .i64 10, .int .i64 11, .int .i64 12, .int .i64 13] 3) := ⟨_, rfl⟩
      have F0 : Fr (fun _ => False) w W := by rw [hW]; exact ((Fr.refl _ w).alloc _).alloc _
      have O0 : Blk W w.heap.size #[.slice (some ⟨w.heap.size + 1, 0, none⟩) 6 6, .int .i64 17, .int .i64 (k : Int)] 26 := by rw [hW]; exact (Blk.new _ _ _).alloc _
      have O1 : Blk W (w.heap.size + 1) #[.int .i64 7, .int .i64 9, .int .i64 10, .int .i64 11, .int .i64 12, .int .i64 13] 3 := by rw [hW]; simpa using Blk.new (w.alloc (.cells #[.slice (some ⟨w.heap.size + 1, 0, none⟩) 6 6, .int .i64 17, .int .i64 (k : Int)] 26)) #[.int .i64 7, .int .i64 9, .int .i64 10, .int .i64 11, .int .i64 12, .int .i64 13] 3
      have HW := hid hW
      clear hW
      go_enter Try.func7, Try.ntmps7
      go_wp2_with fail
      refine (HF.out _ _).mono ?_
      rintro e w1 ⟨rfl, rfl⟩
      rw [if_pos rfl]
      go_wp2_with fail
      refine (HG.out _ _ _).mono ?_
      rintro e w2 ⟨rfl, rfl⟩
      rw [if_pos rfl, if_neg (by decide)]
      go_wp2_with fail
      refine (HS.out _).mono ?_
      rintro e w3 ⟨rfl, rfl⟩
      go_wp2
      refine bodyPost_ret (v := .agg #[.slice (some ⟨w.heap.size + 1, 0, none⟩) 6 6, .int .i64 17, .int .i64 (k : Int)]) ?_ rfl ⟨w.heap.size + 1, rfl, ?_, ⟨by omega, ?_⟩, ?_⟩
      · rw [← HW.out]
        exact results_cell_row rfl _ _ w.heap.size 26 _ (0, 0) _ rfl (show Blk _ _ _ _ from O0) Try.underlying26 rfl Try.size_set
      · rw [← HW.out]
        exact Nums.listN _ _ [7, 9, 10, 11, 12, 13] (by decide) O1
      · rw [← HW.out]
        exact ⟨_, O1⟩
      · rw [← HW.out]
        exact F0
    · obtain ⟨W, hW⟩ : ∃ W, W = (w.alloc (.cells #[.slice (some ⟨w.heap.size + 1, 0, none⟩) 6 6, .int .i64 17, .int .i64 (k : Int)] 26)).alloc (.cells #[.int .i64 8, .int .i64 9, .int .i64 10, .int .i64 11, .int .i64 12, .int .i64 13] 3) := ⟨_, rfl⟩
      have F0 : Fr (fun _ => False) w W := by rw [hW]; exact ((Fr.refl _ w).alloc _).alloc _
      have O0 : Blk W w.heap.size #[.slice (some ⟨w.heap.size + 1, 0, none⟩) 6 6, .int .i64 17, .int .i64 (k : Int)] 26 := by rw [hW]; exact (Blk.new _ _ _).alloc _
      have O1 : Blk W (w.heap.size + 1) #[.int .i64 8, .int .i64 9, .int .i64 10, .int .i64 11, .int .i64 12, .int .i64 13] 3 := by rw [hW]; simpa using Blk.new (w.alloc (.cells #[.slice (some ⟨w.heap.size + 1, 0, none⟩) 6 6, .int .i64 17, .int .i64 (k : Int)] 26)) #[.int .i64 8, .int .i64 9, .int .i64 10, .int .i64 11, .int .i64 12, .int .i64 13] 3
      have HW := hid hW
      clear hW
      go_enter Try.func7, Try.ntmps7
      go_wp2_with fail
      refine (HF.out _ _).mono ?_
      rintro e w1 ⟨rfl, rfl⟩
      rw [if_pos rfl]
      go_wp2_with fail
      refine (HG.out _ _ _).mono ?_
      rintro e w2 ⟨rfl, rfl⟩
      rw [if_pos rfl, if_pos rfl]
      go_wp2_with fail
      refine (HS.out _).mono ?_
      rintro e w3 ⟨rfl, rfl⟩
      go_wp2
      refine bodyPost_ret (v := .agg #[.slice (some ⟨w.heap.size + 1, 0, none⟩) 6 6, .int .i64 17, .int .i64 (k : Int)]) ?_ rfl ⟨w.heap.size + 1, rfl, ?_, ⟨by omega, ?_⟩, ?_⟩
      · rw [← HW.out]
        exact results_cell_row rfl _ _ w.heap.size 26 _ (0, 0) _ rfl (show Blk _ _ _ _ from O0) Try.underlying26 rfl Try.size_set
      · rw [← HW.out]
        exact Nums.listN _ _ [8, 9, 10, 11, 12, 13] (by decide) O1
      · rw [← HW.out]
        exact ⟨_, O1⟩
      · rw [← HW.out]
        exact F0

set_option maxHeartbeats 1000000 in
theorem nshift_any (w : World) :
    Calls Try.prog 9 #[] w fun e w' => SetMade w w' e [19] 20 21 := by
  obtain ⟨W, hW⟩ : ∃ W, W = (w.alloc (.cells #[.slice (some ⟨w.heap.size + 1, 0, none⟩) 1 1, .int .i64 20, .int .i64 21] 26)).alloc (.cells #[.int .i64 19] 3) := ⟨_, rfl⟩
  have F0 : Fr (fun _ => False) w W := by rw [hW]; exact ((Fr.refl _ w).alloc _).alloc _
  have O0 : Blk W w.heap.size #[.slice (some ⟨w.heap.size + 1, 0, none⟩) 1 1, .int .i64 20, .int .i64 21] 26 := by rw [hW]; exact (Blk.new _ _ _).alloc _
  have O1 : Blk W (w.heap.size + 1) #[.int .i64 19] 3 := by rw [hW]; simpa using Blk.new (w.alloc (.cells #[.slice (some ⟨w.heap.size + 1, 0, none⟩) 1 1, .int .i64 20, .int .i64 21] 26)) #[.int .i64 19] 3
  have HW := hid hW
  clear hW
  go_enter Try.func9, Try.ntmps9
  go_wp2
  refine bodyPost_ret (v := .agg #[.slice (some ⟨w.heap.size + 1, 0, none⟩) 1 1, .int .i64 20, .int .i64 21]) ?_ rfl ⟨w.heap.size + 1, rfl, ?_, ⟨by omega, ?_⟩, ?_⟩
  · rw [← HW.out]
    exact results_cell_row rfl _ _ w.heap.size 26 _ (0, 0) _ rfl (show Blk _ _ _ _ from O0) Try.underlying26 rfl Try.size_set
  · rw [← HW.out]
    exact Nums.listN _ _ [19] (by decide) O1
  · rw [← HW.out]
    exact ⟨_, O1⟩
  · rw [← HW.out]
    exact F0
end Go.Proofs.Ytkndnibmgohcaaa
