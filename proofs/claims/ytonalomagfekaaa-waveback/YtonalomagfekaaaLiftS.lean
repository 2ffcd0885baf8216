/-
  Package lift: the steps of the filters.
-/
import Derived.Test.YtonalomagfekaaaLiftP
namespace Go.Proofs.Ytonalomagfekaaa
open Go.RowKit

theorem wrap64_wide (p q r s c : Int) : wrap64 (wrap64 (wrap64 (wrap64 (9 * wrap64 (q + r)) - p) - s) + c) = wrap64 (-p + 9 * q + 9 * r - s + c) := by unfold wrap64; omega

theorem lnear_any (w : World) (a : Option Addr) (n cap : Nat) (V : Nat → Int) (b : Nat) (h : Nums w a n cap V b) (h2 : 2 ≤ n) (he : n % 2 = 0) (hn : n ≤ 1048576) (i : Nat) (hi : i < n) :
    Calls Try.prog 68 #[.slice a n cap, .int .i64 (i : Int)] w fun e w' => e = .returned (.int .i64 (wrap64 (atL n V ((i : Int) - 1) + atL n V ((i : Int) + 1)))) ∧ w' = w := by
  have H0 := hid (lat_any w a n cap V b h h2 he hn ((i : Int) - 1))
  have H1 := hid (lat_any w a n cap V b h h2 he hn ((i : Int) + 1))
  go_enter Try.func68, Try.ntmps68
  go_wp2_with fail
  refine H0.out.mono ?_
  rintro e w1 ⟨rfl, rfl⟩
  go_wp2_with fail
  refine H1.out.mono ?_
  rintro e w1 ⟨rfl, rfl⟩
  go_wp2
  go_ret
  exact ⟨rfl, rfl⟩

theorem lwide_any (w : World) (a : Option Addr) (n cap : Nat) (V : Nat → Int) (b : Nat) (h : Nums w a n cap V b) (h2 : 2 ≤ n) (he : n % 2 = 0) (hn : n ≤ 1048576) (i : Nat) (hi : i < n) :
    Calls Try.prog 69 #[.slice a n cap, .int .i64 (i : Int)] w fun e w' => e = .returned (.int .i64 (wrap64 (wrap64 (wrap64 (9 * wrap64 (atL n V ((i : Int) - 1) + atL n V ((i : Int) + 1))) - atL n V ((i : Int) - 3)) - atL n V ((i : Int) + 3)))) ∧ w' = w := by
  have H0 := hid (lnear_any w a n cap V b h h2 he hn i hi)
  have H1 := hid (lat_any w a n cap V b h h2 he hn ((i : Int) - 3))
  have H2 := hid (lat_any w a n cap V b h h2 he hn ((i : Int) + 3))
  generalize wrap64 (atL n V ((i : Int) - 1) + atL n V ((i : Int) + 1)) = z at H0 ⊢
  generalize atL n V ((i : Int) - 3) = p at H1 ⊢
  generalize atL n V ((i : Int) + 3) = s at H2 ⊢
  go_enter Try.func69, Try.ntmps69
  go_wp2_with fail
  refine H0.out.mono ?_
  rintro e w1 ⟨rfl, rfl⟩
  go_wp2_with fail
  refine H1.out.mono ?_
  rintro e w1 ⟨rfl, rfl⟩
  go_wp2_with fail
  refine H2.out.mono ?_
  rintro e w1 ⟨rfl, rfl⟩
  go_wp2
  go_ret
  exact ⟨rfl, rfl⟩

theorem lodd_any (w : World) (a : Option Addr) (n cap : Nat) (V : Nat → Int) (b : Nat) (h : Nums w a n cap V b) (h2 : 2 ≤ n) (he : n % 2 = 0) (hn : n ≤ 1048576) (i : Nat) (hi : i < n) (hV : ∀ j, j < n → -9223372036854775808 ≤ V j ∧ V j ≤ 9223372036854775807) (f : Nat) (hf : f ≤ 4) :
    Calls Try.prog 60 #[.int .i64 (f : Int), .slice a n cap, .int .i64 (i : Int)] w fun e w' => e = .returned (.int .i64 (tapV f true (atL n V) i)) ∧ w' = w := by
  have HB : Hid (-9223372036854775808 ≤ atL n V ((i : Int) - 1) ∧ atL n V ((i : Int) - 1) ≤ 9223372036854775807) := hV _ (nearL_lt h2 ((i : Int) - 1))
  match f, hf with
  | 0, _ =>
    have H0 := hid (lwide_any w a n cap V b h h2 he hn i hi)
    have HT : Hid (tapV 0 true (atL n V) i = wrap64 (wrap64 (wrap64 (wrap64 (9 * wrap64 (atL n V ((i : Int) - 1) + atL n V ((i : Int) + 1))) - atL n V ((i : Int) - 3)) - atL n V ((i : Int) + 3)) + 8) / 16) := by
      show _ = _
      rw [wrap64_wide]; rfl
    generalize wrap64 (wrap64 (wrap64 (9 * wrap64 (atL n V ((i : Int) - 1) + atL n V ((i : Int) + 1))) - atL n V ((i : Int) - 3)) - atL n V ((i : Int) + 3)) = z at H0 HT
    go_enter Try.func60, Try.ntmps60
    go_wp2_with fail
    refine H0.out.mono ?_
    rintro e w1 ⟨rfl, rfl⟩
    go_wp2
    go_ret
    exact ⟨ret_int HT.out.symm, rfl⟩
  | 1, _ =>
    have H0 := hid (lnear_any w a n cap V b h h2 he hn i hi)
    have HT : Hid (tapV 1 true (atL n V) i = wrap64 (wrap64 (atL n V ((i : Int) - 1) + atL n V ((i : Int) + 1)) + 1) / 2) := by
      show _ = _
      rw [wrap64_wrap]; rfl
    generalize wrap64 (atL n V ((i : Int) - 1) + atL n V ((i : Int) + 1)) = z at H0 HT
    go_enter Try.func60, Try.ntmps60
    go_wp2_with fail
    refine H0.out.mono ?_
    rintro e w1 ⟨rfl, rfl⟩
    go_wp2
    go_ret
    exact ⟨ret_int HT.out.symm, rfl⟩
  | 2, _ =>
    have H0 := hid (lwide_any w a n cap V b h h2 he hn i hi)
    have HT : Hid (tapV 2 true (atL n V) i = wrap64 (wrap64 (wrap64 (wrap64 (9 * wrap64 (atL n V ((i : Int) - 1) + atL n V ((i : Int) + 1))) - atL n V ((i : Int) - 3)) - atL n V ((i : Int) + 3)) + 8) / 16) := by
      show _ = _
      rw [wrap64_wide]; rfl
    generalize wrap64 (wrap64 (wrap64 (9 * wrap64 (atL n V ((i : Int) - 1) + atL n V ((i : Int) + 1))) - atL n V ((i : Int) - 3)) - atL n V ((i : Int) + 3)) = z at H0 HT
    go_enter Try.func60, Try.ntmps60
    go_wp2_with fail
    refine H0.out.mono ?_
    rintro e w1 ⟨rfl, rfl⟩
    go_wp2
    go_ret
    exact ⟨ret_int HT.out.symm, rfl⟩
  | 3, _ =>
    have H0 := hid (lat_any w a n cap V b h h2 he hn ((i : Int) - 1))
    have HT : Hid (tapV 3 true (atL n V) i = atL n V ((i : Int) - 1)) := by
      show wrap64 (atL n V ((i : Int) - 1)) / 1 = _
      rw [wrap64_in HB.out.1 HB.out.2, Int.ediv_one]
    generalize atL n V ((i : Int) - 1) = z at H0 HT
    go_enter Try.func60, Try.ntmps60
    go_wp2_with fail
    refine H0.out.mono ?_
    rintro e w1 ⟨rfl, rfl⟩
    go_wp2
    go_ret
    exact ⟨ret_int HT.out.symm, rfl⟩
  | 4, _ =>
    have H0 := hid (lat_any w a n cap V b h h2 he hn ((i : Int) - 1))
    have HT : Hid (tapV 4 true (atL n V) i = atL n V ((i : Int) - 1)) := by
      show wrap64 (atL n V ((i : Int) - 1)) / 1 = _
      rw [wrap64_in HB.out.1 HB.out.2, Int.ediv_one]
    generalize atL n V ((i : Int) - 1) = z at H0 HT
    go_enter Try.func60, Try.ntmps60
    go_wp2_with fail
    refine H0.out.mono ?_
    rintro e w1 ⟨rfl, rfl⟩
    go_wp2
    go_ret
    exact ⟨ret_int HT.out.symm, rfl⟩

theorem leven_any (w : World) (a : Option Addr) (n cap : Nat) (V : Nat → Int) (b : Nat) (h : Nums w a n cap V b) (h2 : 2 ≤ n) (he : n % 2 = 0) (hn : n ≤ 1048576) (i : Nat) (hi : i < n) (f : Nat) (hf : f ≤ 4) :
    Calls Try.prog 61 #[.int .i64 (f : Int), .slice a n cap, .int .i64 (i : Int)] w fun e w' => e = .returned (.int .i64 (tapV f false (atL n V) i)) ∧ w' = w := by
  match f, hf with
  | 0, _ =>
    have H0 := hid (lnear_any w a n cap V b h h2 he hn i hi)
    have HT : Hid (tapV 0 false (atL n V) i = wrap64 (wrap64 (atL n V ((i : Int) - 1) + atL n V ((i : Int) + 1)) + 2) / 4) := by
      show _ = _
      rw [wrap64_wrap]; rfl
    generalize wrap64 (atL n V ((i : Int) - 1) + atL n V ((i : Int) + 1)) = z at H0 HT
    go_enter Try.func61, Try.ntmps61
    go_wp2_with fail
    refine H0.out.mono ?_
    rintro e w1 ⟨rfl, rfl⟩
    go_wp2
    go_ret
    exact ⟨ret_int HT.out.symm, rfl⟩
  | 1, _ =>
    have H0 := hid (lnear_any w a n cap V b h h2 he hn i hi)
    have HT : Hid (tapV 1 false (atL n V) i = wrap64 (wrap64 (atL n V ((i : Int) - 1) + atL n V ((i : Int) + 1)) + 2) / 4) := by
      show _ = _
      rw [wrap64_wrap]; rfl
    generalize wrap64 (atL n V ((i : Int) - 1) + atL n V ((i : Int) + 1)) = z at H0 HT
    go_enter Try.func61, Try.ntmps61
    go_wp2_with fail
    refine H0.out.mono ?_
    rintro e w1 ⟨rfl, rfl⟩
    go_wp2
    go_ret
    exact ⟨ret_int HT.out.symm, rfl⟩
  | 2, _ =>
    have H0 := hid (lwide_any w a n cap V b h h2 he hn i hi)
    have HT : Hid (tapV 2 false (atL n V) i = wrap64 (wrap64 (wrap64 (wrap64 (9 * wrap64 (atL n V ((i : Int) - 1) + atL n V ((i : Int) + 1))) - atL n V ((i : Int) - 3)) - atL n V ((i : Int) + 3)) + 16) / 32) := by
      show _ = _
      rw [wrap64_wide]; rfl
    generalize wrap64 (wrap64 (wrap64 (9 * wrap64 (atL n V ((i : Int) - 1) + atL n V ((i : Int) + 1))) - atL n V ((i : Int) - 3)) - atL n V ((i : Int) + 3)) = z at H0 HT
    go_enter Try.func61, Try.ntmps61
    go_wp2_with fail
    refine H0.out.mono ?_
    rintro e w1 ⟨rfl, rfl⟩
    go_wp2
    go_ret
    exact ⟨ret_int HT.out.symm, rfl⟩
  | 3, _ =>
    have H0 := hid (lat_any w a n cap V b h h2 he hn ((i : Int) + 1))
    have HT : Hid (tapV 3 false (atL n V) i = wrap64 (atL n V ((i : Int) + 1) + 1) / 2) := rfl
    generalize atL n V ((i : Int) + 1) = z at H0 HT
    go_enter Try.func61, Try.ntmps61
    go_wp2_with fail
    refine H0.out.mono ?_
    rintro e w1 ⟨rfl, rfl⟩
    go_wp2
    go_ret
    exact ⟨ret_int HT.out.symm, rfl⟩
  | 4, _ =>
    have H0 := hid (lat_any w a n cap V b h h2 he hn ((i : Int) + 1))
    have HT : Hid (tapV 4 false (atL n V) i = wrap64 (atL n V ((i : Int) + 1) + 1) / 2) := rfl
    generalize atL n V ((i : Int) + 1) = z at H0 HT
    go_enter Try.func61, Try.ntmps61
    go_wp2_with fail
    refine H0.out.mono ?_
    rintro e w1 ⟨rfl, rfl⟩
    go_wp2
    go_ret
    exact ⟨ret_int HT.out.symm, rfl⟩

end Go.Proofs.Ytonalomagfekaaa
