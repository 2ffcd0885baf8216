/-
  The document's answer for layer 8: the nearest place, numbers moved down, filters and lines, lists that are alike.
-/
import Derived.Test.YtonalomagfekaaaLiftW
namespace Go.Proofs.Ytonalomagfekaaa
open Go.RowKit

theorem r8right_any (a : Option Addr) (n cap : Nat) (z : Int) (hn : (n : Int) ≤ 9223372036854775807) (w : World) :
    Calls Try.prog 66 #[.int .i64 z, .slice a n cap] w fun e w' => e = .returned (.bool (filtB z && lineB n)) ∧ w' = w := by
  have HC : Hid ((filtB z && lineB n) = (decide (0 ≤ z) && decide (z ≤ 4) && decide (0 < n) && decide (n % 2 = 0))) := by show _ = _; simp [filtB, lineB, Bool.and_assoc]
  by_cases h0 : 0 ≤ z
  rotate_left
  · have h0' : decide (0 ≤ z) = false := decide_eq_false h0
    go_enter Try.func66, Try.ntmps66
    go_wp2
    go_ret
    exact ⟨ret_bool (by rw [HC.out, h0']; simp), rfl⟩
  by_cases h1 : z ≤ 4
  rotate_left
  · have h0' : decide (0 ≤ z) = true := decide_eq_true h0
    have h1' : decide (z ≤ 4) = false := decide_eq_false h1
    go_enter Try.func66, Try.ntmps66
    go_wp2
    go_ret
    exact ⟨ret_bool (by rw [HC.out, h1']; simp), rfl⟩
  have h0' : decide (0 ≤ z) = true := decide_eq_true h0
  have h1' : decide (z ≤ 4) = true := decide_eq_true h1
  by_cases h2 : 0 < n
  · have h2' : (0 : Int) < (n : Int) := by omega
    go_enter Try.func66, Try.ntmps66
    go_wp2
    go_ret
    exact ⟨ret_bool (by rw [HC.out, Bool.eq_iff_iff]; simp; omega), rfl⟩
  · obtain rfl : n = 0 := by omega
    go_enter Try.func66, Try.ntmps66
    go_wp2
    go_ret
    exact ⟨ret_bool (by rw [HC.out]; simp), rfl⟩

theorem r8at_any (w : World) (a : Option Addr) (n cap : Nat) (V : Nat → Int) (b : Nat) (h : Nums w a n cap V b) (h2 : 2 ≤ n) (he : n % 2 = 0) (hn : n ≤ 1048576) (i : Int) (h0 : -1048576 ≤ i) (h1 : i ≤ 2097152) :
    Calls Try.prog 73 #[.slice a n cap, .int .i64 i] w fun e w' => e = .returned (.int .i64 (atL n V i)) ∧ w' = w := by
  obtain ⟨off, rfl, hc⟩ := h.at' (by omega)
  have HC := hid hc
  have HR : Hid (atL n V i = V (nearL n i)) := Eq.refl (atL n V i)
  clear hc h
  go_enter Try.func73, Try.ntmps73
  go_wp2
  go_loopw [1] (fun x wr => ∃ z : Int, x = .int .i64 z ∧ -1048576 ≤ z ∧ z ≤ 2097152 ∧ nearL n z = nearL n i ∧ SameW wr w) (fun x _ => (-(intOf x)).toNat)
  case atStart => exact ⟨i, rfl, h0, h1, rfl, SameW.rfl⟩
  case round =>
    obtain ⟨z, rfl, z0, z1, hz, hw⟩ := hrel
    obtain rfl : w = wr := Eq.symm hw
    have HZ := hid hz
    clear hz
    by_cases hlt : z < 0
    · go_wp2
      go_roundw
      case rel => exact ⟨z + 2, rfl, by omega, by omega, by rw [← nearL_up h2 hlt, HZ.out], SameW.rfl⟩
      case measure => simp [intOf]; omega
    · go_wp2
      go_loopw [1] (fun x wr => ∃ z : Int, x = .int .i64 z ∧ 0 ≤ z ∧ z ≤ 2097152 ∧ nearL n z = nearL n i ∧ SameW wr w) (fun x _ => (intOf x).toNat)
      case atStart => exact ⟨z, rfl, by omega, z1, HZ.out, SameW.rfl⟩
      case round =>
        obtain ⟨y, rfl, y0, y1, hy, hw⟩ := hrel
        obtain rfl : w = wr := Eq.symm hw
        have HY := hid hy
        clear hy
        by_cases hge : (n : Int) ≤ y
        · go_wp2
          go_roundw
          case rel => exact ⟨y - 2, by go_num, by omega, by omega, by rw [← nearL_down h2 he hge, HY.out], SameW.rfl⟩
          case measure => simp [intOf]; omega
        · obtain ⟨k, rfl⟩ := Int.eq_ofNat_of_zero_le y0
          have ck := HC.out k (by omega)
          have hki : (k : Int) < (n : Int) := by omega
          have HK : Hid (nearL n i = k) := by show _ = _; rw [← HY.out]; exact nearL_in (by omega)
          go_wp2
          go_ret
          exact ⟨ret_int (by rw [HR.out, HK.out]), rfl⟩

theorem tdiv_floor {v p : Int} (hp : 0 < p) : (v.tmod p < 0 → v.tdiv p - 1 = v / p) ∧ (¬ v.tmod p < 0 → v.tdiv p = v / p) := by
  rw [Int.tmod_eq_emod, Int.tdiv_eq_ediv]
  have h1 := Int.emod_nonneg v (show p ≠ 0 by omega)
  have h2 := Int.emod_lt_of_pos v hp
  have h3 : Int.sign p = 1 := Int.sign_eq_one_of_pos hp
  split
  · exact ⟨fun h => by omega, fun _ => by omega⟩
  · exact ⟨fun _ => by omega, fun h => by omega⟩
theorem floor_lo {v p : Int} (hp : 0 < p) (h0 : -9223372036854775808 ≤ v) (h1 : v ≤ 9223372036854775807) : -9223372036854775808 ≤ v / p ∧ v / p ≤ 9223372036854775807 := by
  constructor
  · exact (Int.le_ediv_iff_mul_le hp).2 (by have : (-9223372036854775808 : Int) * p ≤ -9223372036854775808 * 1 := Int.mul_le_mul_of_nonpos_left (by omega) (by omega); omega)
  · by_cases hv : 0 ≤ v
    · exact Int.le_trans (Int.ediv_le_self p hv) h1
    · have := Int.ediv_neg_of_neg_of_pos (show v < 0 by omega) hp
      omega
theorem r8down_any (v p : Int) (hp : 0 < p) (hp2 : p ≤ 32) (h0 : -9223372036854775808 ≤ v) (h1 : v ≤ 9223372036854775807) (w : World) :
    Calls Try.prog 53 #[.int .i64 v, .int .i64 p] w fun e w' => e = .returned (.int .i64 (v / p)) ∧ w' = w := by
  have HT := hid (tdiv_floor (v := v) hp)
  have HL := hid (floor_lo hp h0 h1)
  go_enter Try.func53, Try.ntmps53
  go_wp2
  · rename_i hlt
    go_ret
    refine ⟨ret_int ?_, rfl⟩
    rw [HT.out.1 hlt]
    exact wrap64_in HL.out.1 HL.out.2
  · rename_i hge
    go_ret
    exact ⟨ret_int (HT.out.2 (by omega)), rfl⟩
end Go.Proofs.Ytonalomagfekaaa
