/-
  Package wave: depths that fit, sides that are padded, a fresh copy.
-/
import Derived.BigQuiet
import Derived.StillTailTactics
import Derived.Test.YtgmainbgliejhaaWaveM
import Derived.Test.YtgmainbgliejhaaWeaveP
import Derived.Test.YtgmainbgliejhaaPlaneP
namespace Go.Proofs.Ytgmainbgliejhaa
open Go.RowKit

/-- A struct of three cells, stored. -/
def stored3 (w : World) (r : Nat) (x y z : Value) : World := ((w.setCell ⟨r, 0, none⟩ x).setCell ⟨r, 1, none⟩ y).setCell ⟨r, 2, none⟩ z
theorem Blk.put3 {w : World} {r : Nat} {a b c : Value} {t : TypeId} (h : Blk w r #[a, b, c] t) (x y z : Value) : Blk (stored3 w r x y z) r #[x, y, z] t := by
  unfold stored3
  simpa using ((h.set 0 x).set 1 y).set 2 z
theorem Fr.put3 {S : Nat → Prop} {a w : World} (h : Fr S a w) {r : Nat} (hr : r < a.heap.size → S r) (x y z : Value) : Fr S a (stored3 w r x y z) :=
  ((h.setCell (p := ⟨r, 0, none⟩) hr _).setCell (p := ⟨r, 1, none⟩) hr _).setCell (p := ⟨r, 2, none⟩) hr _
theorem Fr.put3New {a w : World} (h : Fr (fun _ => False) a w) {r : Nat} (hr : a.heap.size ≤ r) (x y z : Value) : Fr (fun _ => False) a (stored3 w r x y z) := h.put3 (fun hl => absurd (show r < a.heap.size from hl) (by omega)) x y z
theorem fr_put3 (w : World) (r : Nat) (x y z : Value) : Fr (fun j => j = r) w (stored3 w r x y z) := (Fr.refl (fun j => j = r) w).put3 (fun _ => rfl) x y z

theorem nat_beq0 (c : Nat) : ((c : Int) == 0) = decide (c = 0) := by rw [Bool.eq_iff_iff]; simp
/-- Is there such a depth? -/
def deepB (d : Int) : Bool := decide (0 ≤ d) && decide (d ≤ 6)
theorem deepB_iff {d : Int} : deepB d = true ↔ 0 ≤ d ∧ d ≤ 6 := by simp [deepB]
theorem deepB_nat {d : Int} (h : deepB d = true) : ∃ k : Nat, d = (k : Int) ∧ k ≤ 6 := by
  have := deepB_iff.1 h
  exact ⟨d.toNat, by omega, by omega⟩
theorem wdeep_any (d : Int) (w : World) :
    Calls Try.prog 41 #[.int .i64 d] w fun e w' => e = .returned (.bool (deepB d)) ∧ w' = w := by
  have HC : Hid (deepB d = (decide (0 ≤ d) && decide (d ≤ 6))) := (Eq.refl (deepB d))
  by_cases h0 : 0 ≤ d
  · go_enter Try.func41, Try.ntmps41
    go_wp2
    go_ret
    exact ⟨ret_bool (by rw [HC.out]; simp; omega), rfl⟩
  · have h0' : decide (0 ≤ d) = false := by simp; omega
    go_enter Try.func41, Try.ntmps41
    go_wp2
    go_ret
    exact ⟨ret_bool (by rw [HC.out]; simp; omega), rfl⟩

/-- Does a plane fit a depth? -/
def fitsP (X Y : Int) (n : Nat) (d : Int) : Bool := deepB d && rightP X Y n && decide (X % 2 ^ d.toNat = 0) && decide (Y % 2 ^ d.toNat = 0)
theorem pow_small {k : Nat} (h : k ≤ 6) : 1 ≤ 2 ^ k ∧ 2 ^ k ≤ 64 := by
  have : k = 0 ∨ k = 1 ∨ k = 2 ∨ k = 3 ∨ k = 4 ∨ k = 5 ∨ k = 6 := by omega
  rcases this with rfl | rfl | rfl | rfl | rfl | rfl | rfl <;> decide
/-- The least multiple of a power of two that isn't below a side. -/
def padN (z d : Int) : Int := if 1 ≤ z ∧ z ≤ 1024 ∧ 0 ≤ d ∧ d ≤ 6 then (z + 2 ^ d.toNat - 1) / 2 ^ d.toNat * 2 ^ d.toNat else 0
/-- The same of naturals. -/
def padU (n u : Nat) : Nat := (n + u - 1) / u * u
theorem padN_in {n k : Nat} (h1 : 1 ≤ n) (h2 : n ≤ 1024) (hk : k ≤ 6) : padN n k = (padU n (2 ^ k) : Int) := by
  obtain ⟨hu1, hu2⟩ := pow_small hk
  unfold padN padU
  rw [if_pos (by omega), Int.toNat_natCast]
  have e : (2 : Int) ^ k = ((2 ^ k : Nat) : Int) := by simp
  rw [e]
  generalize 2 ^ k = u at *
  have e1 : (n : Int) + (u : Int) - 1 = ((n + u - 1 : Nat) : Int) := by omega
  rw [e1, ← Int.natCast_ediv, ← Int.natCast_mul]
theorem padN_out {z d : Int} (h : ¬ (1 ≤ z ∧ z ≤ 1024 ∧ 0 ≤ d ∧ d ≤ 6)) : padN z d = 0 := if_neg h
theorem wpadded_any (z d : Int) (w : World) :
    Calls Try.prog 37 #[.int .i64 z, .int .i64 d] w fun e w' => e = .returned (.int .i64 (padN z d)) ∧ w' = w := by
  by_cases h1 : z < 1
  · have HR := hid (padN_out (z := z) (d := d) (by omega))
    go_enter Try.func37, Try.ntmps37
    go_wp2
    go_ret
    exact ⟨ret_int HR.out.symm, rfl⟩
  · by_cases h2 : 1024 < z
    · have HR := hid (padN_out (z := z) (d := d) (by omega))
      go_enter Try.func37, Try.ntmps37
      go_wp2
      go_ret
      exact ⟨ret_int HR.out.symm, rfl⟩
    · cases hd : deepB d with
      | false =>
        have HR := hid (padN_out (z := z) (d := d) (fun h => by have := deepB_iff.2 h.2.2; rw [hd] at this; cases this))
        go_enter Try.func37, Try.ntmps37
        go_wp2_with fail
        refine (wdeep_any _ _).mono ?_
        rintro e w1 ⟨rfl, rfl⟩
        rw [hd]
        go_wp2
        go_ret
        exact ⟨ret_int HR.out.symm, rfl⟩
      | true =>
        obtain ⟨k, rfl, hk⟩ := deepB_nat hd
        obtain ⟨n, rfl⟩ := Int.eq_ofNat_of_zero_le (show 0 ≤ z by omega)
        have HR := hid (padN_in (n := n) (k := k) (by omega) (by omega) hk)
        obtain ⟨hu1, hu2⟩ := pow_small hk
        have hp : (2 : Int) ^ k = ((2 ^ k : Nat) : Int) := by simp
        obtain ⟨u, hu⟩ : ∃ u, u = 2 ^ k := ⟨_, rfl⟩
        rw [← hu] at hu1 hu2 HR hp
        obtain ⟨s, hs⟩ : ∃ s, s = n + u - 1 := ⟨_, rfl⟩
        obtain ⟨c, hc⟩ : ∃ c, c = s / u := ⟨_, rfl⟩
        obtain ⟨r, hr⟩ : ∃ r, r = c * u := ⟨_, rfl⟩
        have hS : (n : Int) + (u : Int) - 1 = (s : Int) := by omega
        have hC : (s : Int) / (u : Int) = (c : Int) := by rw [hc, Int.natCast_ediv]
        have hC' : (s : Int).tdiv (u : Int) = (c : Int) := by rw [Int.tdiv_eq_ediv_of_nonneg (by omega), hC]
        have hR : (c : Int) * (u : Int) = (r : Int) := by rw [hr, Int.natCast_mul]
        have hcs : c ≤ s := by rw [hc]; exact Nat.div_le_self _ _
        have hrs : r ≤ s := by rw [hr, hc]; exact Nat.div_mul_le_self _ _
        have hsm : s ≤ 2000 := by omega
        have HV : Hid (padU n u = r) := by show _ = _; rw [hr, hc, hs]; rfl
        have hu0 : ¬ (u : Int) = 0 := by omega
        clear hs hc hr hu
        go_enter Try.func37, Try.ntmps37
        go_wp2_with fail
        refine (wdeep_any _ _).mono ?_
        rintro e w1 ⟨rfl, rfl⟩
        rw [hd]
        go_wp2
        go_ret
        exact ⟨ret_int (by rw [HR.out, HV.out]), rfl⟩
end Go.Proofs.Ytgmainbgliejhaa
