/-
  Package lift: the small functions, and the numbers at a place.
-/
import Derived.Test.YtonalomagfekaaaLift
import Derived.Test.YtonalomagfekaaaCopyN
import Derived.BigQuiet
import Derived.Lib.MinMax
import Derived.StillTailTactics
namespace Go.Proofs.Ytonalomagfekaaa
open Go.RowKit

/-- Is a number a filter? Is so many a line? -/
def filtB (z : Int) : Bool := decide (0 ≤ z) && decide (z ≤ 4)
def lineB (n : Nat) : Bool := decide (0 < n) && decide (n % 2 = 0)
theorem filtB_iff {z : Int} : filtB z = true ↔ 0 ≤ z ∧ z ≤ 4 := by simp [filtB]
theorem filtB_false {z : Int} : filtB z = false ↔ z < 0 ∨ 4 < z := by rw [← Bool.not_eq_true, filtB_iff]; omega
theorem lineB_iff {n : Nat} : lineB n = true ↔ 0 < n ∧ n % 2 = 0 := by simp [lineB]
theorem lineB_false {n : Nat} : lineB n = false ↔ n = 0 ∨ n % 2 = 1 := by rw [← Bool.not_eq_true, lineB_iff]; omega

theorem lright_any (z : Int) (w : World) :
    Calls Try.prog 26 #[.int .i64 z] w fun e w' => e = .returned (.bool (filtB z)) ∧ w' = w := by
  have HC : Hid (filtB z = (decide (0 ≤ z) && decide (z ≤ 4))) := (Eq.refl (filtB z))
  by_cases h0 : 0 ≤ z
  · go_enter Try.func26, Try.ntmps26
    go_wp2
    go_ret
    exact ⟨ret_bool (by rw [HC.out]; simp; omega), rfl⟩
  · have h0' : decide (0 ≤ z) = false := by simp; omega
    go_enter Try.func26, Try.ntmps26
    go_wp2
    go_ret
    exact ⟨ret_bool (by rw [HC.out]; simp; omega), rfl⟩

/-- The shift of a filter. -/
def shiftL (z : Int) : Int := if 0 ≤ z ∧ z ≤ 4 ∧ z ≠ 3 then 1 else 0
theorem lshift_any (z : Int) (w : World) :
    Calls Try.prog 44 #[.int .i64 z] w fun e w' => e = .returned (.int .i64 (shiftL z)) ∧ w' = w := by
  cases hf : filtB z with
  | false =>
    have HR : Hid (shiftL z = 0) := by show _ = _; unfold shiftL; rw [if_neg]; have := filtB_false.1 hf; omega
    go_enter Try.func44, Try.ntmps44
    go_wp2_with fail
    refine (lright_any z _).mono ?_
    rintro e w' ⟨rfl, rfl⟩
    rw [hf]
    go_wp2
    go_ret
    exact ⟨ret_int HR.out.symm, rfl⟩
  | true =>
    by_cases h3 : z = 3
    · subst h3
      go_enter Try.func44, Try.ntmps44
      go_wp2_with fail
      refine (lright_any 3 _).mono ?_
      rintro e w' ⟨rfl, rfl⟩
      rw [hf]
      go_wp2
      go_ret
      exact ⟨rfl, rfl⟩
    · have HR : Hid (shiftL z = 1) := by show _ = _; unfold shiftL; rw [if_pos]; have := filtB_iff.1 hf; omega
      have h3' : (z == 3) = false := by simpa using h3
      go_enter Try.func44, Try.ntmps44
      go_wp2_with fail
      refine (lright_any z _).mono ?_
      rintro e w' ⟨rfl, rfl⟩
      rw [hf]
      go_wp2
      go_ret
      exact ⟨ret_int HR.out.symm, rfl⟩

theorem lline_any (a : Option Addr) (n cap : Nat) (hn : (n : Int) ≤ 9223372036854775807) (w : World) :
    Calls Try.prog 58 #[.slice a n cap] w fun e w' => e = .returned (.bool (lineB n)) ∧ w' = w := by
  have HC : Hid (lineB n = (decide (0 < n) && decide (n % 2 = 0))) := (Eq.refl (lineB n))
  by_cases h0 : 0 < n
  · have h0' : (0 : Int) < (n : Int) := by omega
    go_enter Try.func58, Try.ntmps58
    go_wp2
    go_ret
    exact ⟨ret_bool (by rw [HC.out, Bool.eq_iff_iff]; simp; omega), rfl⟩
  · obtain rfl : n = 0 := by omega
    go_enter Try.func58, Try.ntmps58
    go_wp2
    go_ret
    exact ⟨rfl, rfl⟩

/-- A fresh copy of numbers. -/
theorem lfresh_any (w : World) (a : Option Addr) (n cap : Nat) (V : Nat → Int) (b : Nat) (h : Nums w a n cap V b) (hn : n ≤ 1048576) :
    Calls Try.prog 59 #[.slice a n cap] w fun e w' => ∃ g, e = .returned (.slice (some ⟨g, 0, none⟩) n n) ∧ Row w' g n V ∧ w.heap.size ≤ g ∧ Fr (fun _ => False) w w' := by
  have hmk := run_make_row' (P := Try.prog) 23 3 (.int .i64 0) 8 Try.underlying23 Try.info_int rfl .i64 .i64 n (by omega) (by omega)
  obtain ⟨w1, hrun, b1, b3⟩ := copy_nums w a n cap V b h 3
  have HB1 := hid b1
  have HB3 := hid b3
  clear b1 b3 h
  go_enter Try.func59, Try.ntmps59
  go_wp2
  go_ret
  exact ⟨_, rfl, HB1.out, Nat.le_refl _, HB3.out⟩

/-- The last bit of a number, below 0 too. -/
theorem and_one_i64 (i : Int) : Go.bits .and .i64 i 1 = i % 2 := by
  have key : (BitVec.ofInt 64 i &&& BitVec.ofInt 64 1).toNat = (i % 2).toNat := by
    rw [BitVec.toNat_and, show (BitVec.ofInt 64 1).toNat = 1 from rfl, Nat.and_one_is_mod, BitVec.toNat_ofInt]
    omega
  show IntKind.i64.wrap ((BitVec.ofInt 64 i &&& BitVec.ofInt 64 1).toNat : Int) = _
  rw [key, IntKind.wrap_i64]
  omega

/-- The nearest place, as the code reckons it. -/
theorem nearL_minmax {n : Nat} (h : 2 ≤ n) (he : n % 2 = 0) (i : Int) : min (max i (i % 2)) ((n : Int) - 2 + i % 2) = ((nearL n i : Nat) : Int) := by
  unfold nearL
  split
  · omega
  · split <;> omega

theorem lat_any (w : World) (a : Option Addr) (n cap : Nat) (V : Nat → Int) (b : Nat) (h : Nums w a n cap V b) (h2 : 2 ≤ n) (he : n % 2 = 0) (hn : n ≤ 1048576) (i : Int) :
    Calls Try.prog 70 #[.slice a n cap, .int .i64 i] w fun e w' => e = .returned (.int .i64 (atL n V i)) ∧ w' = w := by
  obtain ⟨off, rfl, hc⟩ := h.at' (by omega)
  have hk := nearL_minmax h2 he i
  have hlt := nearL_lt h2 i
  have ck := hc _ hlt
  have HR : Hid (atL n V i = V (nearL n i)) := Eq.refl (atL n V i)
  obtain ⟨k, hkk⟩ : ∃ k, k = nearL n i := ⟨_, rfl⟩
  rw [← hkk] at ck hlt HR hk
  clear hkk
  have hb := and_one_i64 i
  obtain ⟨r, hr⟩ : ∃ r, r = i % 2 := ⟨_, rfl⟩
  rw [← hr] at hk hb
  have hr0 : 0 ≤ r ∧ r ≤ 1 := by omega
  clear hr
  have hki : (k : Int) < (n : Int) := by omega
  go_enter Try.func70, Try.ntmps70
  go_wp2
  go_ret
  exact ⟨ret_int HR.out.symm, rfl⟩
end Go.Proofs.Ytonalomagfekaaa
