/-
  Package bits: the other calls of a writer.
-/
import Derived.Test.YthabklgeopdlhaaBitsW
import Derived.Laws.CopyOwn
import Derived.Deep.OwnRows
import Derived.Laws.Bits64b
namespace Go.Proofs.Ythabklgeopdlhaa
open Go.RowKit

theorem shr_and (x : Int) (k : Nat) (hx : 0 ≤ x) (hx2 : x < 18446744073709551616) : (Go.bits .and .u64 (x / 2 ^ k) 1 == 1) = x.toNat.testBit k := by
  obtain ⟨y, rfl⟩ := Int.eq_ofNat_of_zero_le hx
  have h1 : ((y : Int) / 2 ^ k) = ((y / 2 ^ k : Nat) : Int) := by simp
  have hle : y / 2 ^ k ≤ y := Nat.div_le_self _ _
  have h2 : Go.bits .and .u64 ((y / 2 ^ k : Nat) : Int) 1 = ((y / 2 ^ k &&& 1 : Nat) : Int) := u64_and_nat (y / 2 ^ k) 1 (by omega) (by decide)
  rw [h1, h2, Nat.and_one_is_mod, Int.toNat_natCast, Nat.testBit_eq_decide_div_mod_eq]
  rw [Bool.eq_iff_iff]
  simp
  omega

/-- Put. -/
theorem put_any (w : World) (p : Nat) (v : Value) (zs : List Nat) (s : List Bool) (x n : Int) (h : Wr w p v zs s) (hn : s.length ≤ 900000000000) (hx : 0 ≤ x) (hx2 : x < 18446744073709551616) :
    Calls Try.prog 43 #[.pointer (some ⟨p, 0, none⟩), .int .u64 x, .int .i64 n] w fun e w' => e = .returned (.tuple #[]) ∧ WrGets p v w w' (s ++ bitsOf x.toNat (max 0 (min n 64)).toNat) := by
  obtain ⟨m, hm⟩ : ∃ m : Nat, (m : Int) = max 0 (min n 64) := ⟨(max 0 (min n 64)).toNat, by omega⟩
  have hm2 : m ≤ 64 := by omega
  have e1 : (max 0 (min n 64)).toNat = m := by omega
  rw [e1]
  have HM : Hid ((m : Int) = max 0 (min n 64)) := hm
  clear hm e1
  go_enter Try.func43, Try.ntmps43
  go_wp2_with (go_at_call 70; refine (width_any _ _).mono ?_; rintro e w' ⟨rfl, rfl⟩; rw [← HM.out])
  go_loopw [6] (fun i wr => ∃ j : Nat, j ≤ m ∧ i = .int .i64 ((m : Int) - 1 - (j : Int)) ∧ WrGets p v w' wr (s ++ (bitsOf x.toNat m).take j)) (fun i _ => (intOf i + 1).toNat)
  case atStart => exact ⟨0, Nat.zero_le _, by simp, v, zs, by simpa using h, WrStep.refl _ _ _⟩
  case round =>
    obtain ⟨j, hj, rfl, v1, zs1, h1, st⟩ := hrel
    by_cases hlt : j < m
    · have hpos : (0 : Int) ≤ (m : Int) - 1 - (j : Int) := by omega
      have hlen : (s ++ List.take j (bitsOf x.toNat m)).length ≤ 1000000000000 := by simp [bitsOf_length]; omega
      have HB := shr_and x (m - 1 - j) hx hx2
      have HT := bitsOf_take_succ x.toNat m j hlt
      have HB' : Hid ((Go.bits .and .u64 (x / 2 ^ (m - 1 - j)) 1 == 1) = x.toNat.testBit (m - 1 - j)) := HB
      have HT' : Hid ((bitsOf x.toNat m).take (j + 1) = (bitsOf x.toNat m).take j ++ [x.toNat.testBit (m - 1 - j)]) := HT
      clear HB HT
      go_wp2_with fail
      rw [HB'.out]
      refine (bit_any wr p v1 zs1 _ _ h1 hlen).mono ?_
      rintro e w2 ⟨rfl, v2, zs2, h2, st2⟩
      go_wp2
      go_roundw
      case rel => exact ⟨j + 1, by omega, by simp; omega, v2, zs2, by rw [HT'.out, ← List.append_assoc]; exact h2, st.trans st2⟩
      case measure => simp [intOf]; omega
    · have hge : ¬ (0 : Int) ≤ (m : Int) - 1 - (j : Int) := by omega
      go_wp2
      go_end0
      have : (bitsOf x.toNat m).take j = bitsOf x.toNat m := List.take_of_length_le (by rw [bitsOf_length]; omega)
      rw [this] at h1
      exact ⟨rfl, v1, zs1, h1, st⟩

/-- A nil writer takes nothing. -/
theorem put_nil (x n : Int) (w : World) (_hx : 0 ≤ x) (_hx2 : x < 18446744073709551616) :
    Calls Try.prog 43 #[.pointer none, .int .u64 x, .int .i64 n] w fun e w' => e = .returned (.tuple #[]) ∧ w' = w := by
  obtain ⟨m, hm⟩ : ∃ m : Nat, (m : Int) = max 0 (min n 64) := ⟨(max 0 (min n 64)).toNat, by omega⟩
  have hm2 : m ≤ 64 := by omega
  have HM : Hid ((m : Int) = max 0 (min n 64)) := hm
  clear hm
  go_enter Try.func43, Try.ntmps43
  go_wp2_with (go_at_call 70; refine (width_any _ _).mono ?_; rintro e w' ⟨rfl, rfl⟩; rw [← HM.out])
  go_loopw [6] (fun i wr => ∃ j : Nat, j ≤ m ∧ i = .int .i64 ((m : Int) - 1 - (j : Int)) ∧ SameW wr w') (fun i _ => (intOf i + 1).toNat)
  case atStart => exact ⟨0, Nat.zero_le _, by simp, SameW.rfl⟩
  case round =>
    obtain ⟨j, hj, rfl, hw⟩ := hrel
    obtain rfl : wr = w' := hw
    by_cases hlt : j < m
    · have hpos : (0 : Int) ≤ (m : Int) - 1 - (j : Int) := by omega
      go_wp2_with fail
      refine (bit_nil _ _).mono ?_
      rintro e w2 ⟨rfl, rfl⟩
      go_wp2
      go_roundw
      case rel => exact ⟨j + 1, by omega, by simp; omega, SameW.rfl⟩
      case measure => simp [intOf]; omega
    · have hge : ¬ (0 : Int) ≤ (m : Int) - 1 - (j : Int) := by omega
      go_wp2
      go_end0
      exact ⟨rfl, rfl⟩

/-- Len. -/
theorem len_any (w : World) (p : Nat) (v : Value) (zs : List Nat) (s : List Bool) (h : Wr w p v zs s) :
    Calls Try.prog 42 #[.pointer (some ⟨p, 0, none⟩)] w fun e w' => e = .returned (.int .i64 (s.length : Int)) ∧ w' = w := by
  have hc1 := h.blk.cell 1
  simp at hc1
  go_enter Try.func42, Try.ntmps42
  go_wp2
  go_ret
  exact ⟨rfl, rfl⟩

theorem len_nil (w : World) : Calls Try.prog 42 #[.pointer none] w fun e w' => e = .returned (.int .i64 0) ∧ w' = w := by
  go_enter Try.func42, Try.ntmps42
  go_wp2
  go_ret
  exact ⟨rfl, rfl⟩

/-- A fresh copy. -/
theorem fresh_any (w : World) (v : Value) (zs : List Nat) (h : Reads w v (rowOf zs)) (hn : zs.length ≤ 100000000000000) :
    Calls Try.prog 69 #[v] w fun e w' => ∃ q, e = .returned (.slice (some ⟨q, 0, none⟩) zs.length zs.length) ∧ Blk w' q (rowOf zs).toArray 5 ∧ w.heap.size ≤ q ∧ Fr (fun _ => False) w w' := by
  obtain ⟨a, cap, rfl, hc⟩ := h
  rw [rowOf_length] at hc ⊢
  have hmk := run_make_row' (P := Try.prog) 40 5 (.int .u8 0) 1 Try.underlying40 Try.info_u8 rfl .i64 .i64 zs.length (by omega) (by omega)
  obtain ⟨w1, hrun, b1, b2, b3⟩ := copy_fresh w a cap zs hc 3 5
  clear b2 hc
  go_enter Try.func69, Try.ntmps69
  go_wp2
  go_ret
  exact ⟨_, rfl, b1, Nat.le_refl _, b3⟩

/-- Bytes. -/
theorem bytes_any (w : World) (p : Nat) (v : Value) (zs : List Nat) (s : List Bool) (h : Wr w p v zs s) (hn : s.length ≤ 1000000000000) :
    Calls Try.prog 41 #[.pointer (some ⟨p, 0, none⟩)] w fun e w' => ∃ q, e = .returned (.slice (some ⟨q, 0, none⟩) zs.length zs.length) ∧ Blk w' q (rowOf zs).toArray 5 ∧ w.heap.size ≤ q ∧ Fr (fun _ => False) w w' := by
  have hl := h.packs.len
  have hz : zs.length ≤ 100000000000000 := by omega
  have hc0 := h.blk.cell 0
  simp at hc0
  have HR : Hid (Reads w v (rowOf zs)) := Reads.of_owns (by rw [rowOf_length]; exact h.own)
  clear hl
  go_enter Try.func41, Try.ntmps41
  go_wp2_with (go_at_call 69; refine (fresh_any w v zs HR.out hz).mono ?_; rintro e w' ⟨q, rfl, b1, b2, b3⟩)
  go_ret
  exact ⟨q, rfl, b1, b2, b3⟩

theorem bytes_nil (w : World) : Calls Try.prog 41 #[.pointer none] w fun e w' => e = .returned (.slice none 0 0) ∧ w' = w := by
  go_enter Try.func41, Try.ntmps41
  go_wp2
  go_ret
  exact ⟨rfl, rfl⟩
end Go.Proofs.Ythabklgeopdlhaa
