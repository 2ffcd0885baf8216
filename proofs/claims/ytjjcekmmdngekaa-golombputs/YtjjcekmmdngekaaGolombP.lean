/-
  Package golomb: numbers put.
-/
import Derived.Test.YtjjcekmmdngekaaBitsR
import Derived.Test.YtjjcekmmdngekaaGolomb
import Derived.Test.YtjjcekmmdngekaaLen64
namespace Go.Proofs.Ytjjcekmmdngekaa
open Go.RowKit

theorem hasCode_any (z : Int) (w : World) :
    Calls Try.prog 25 #[.int .i64 z] w fun e w' => e = .returned (.bool (hasC z)) ∧ w' = w := by
  have HC : Hid (hasC z = decide (0 ≤ z ∧ z ≤ 4294967294)) := (Eq.refl (hasC z))
  by_cases h0 : 0 ≤ z
  · by_cases h1 : z ≤ 4294967294
    · go_enter Try.func25, Try.ntmps25
      go_wp2
      go_ret
      exact ⟨ret_bool (by rw [HC.out]; simp; omega), rfl⟩
    · go_enter Try.func25, Try.ntmps25
      go_wp2
      go_ret
      exact ⟨ret_bool (by rw [HC.out]; simp; omega), rfl⟩
  · have h0' : decide (0 ≤ z) = false := by simp; omega
    go_enter Try.func25, Try.ntmps25
    go_wp2
    go_ret
    exact ⟨ret_bool (by rw [HC.out]; simp; omega), rfl⟩

theorem pairs_any (z : Int) (w : World) (h0 : 0 ≤ z) (h1 : z ≤ 4294967294) :
    Calls Try.prog 26 #[.int .i64 z] w fun e w' => e = .returned (.int .i64 ((npairs z.toNat : Nat) : Int)) ∧ w' = w := by
  have hb := bitLen_npairs z.toNat (by omega)
  have he : (z + 1).toNat = z.toNat + 1 := by omega
  rw [← he] at hb
  have hl := npairs_le z.toNat (by omega)
  have HB : Hid (Lib.bitLen (z + 1).toNat = npairs z.toNat + 1) := hb
  clear hb he
  generalize npairs z.toNat = n at hl HB ⊢
  go_enter Try.func26, Try.ntmps26
  go_wp2_with fail
  refine (len64_any _ _ (by omega) (by omega)).mono ?_
  rintro e w1 ⟨rfl, rfl⟩
  rw [HB.out]
  go_wp2
  go_ret
  exact ⟨ret_int (by omega), rfl⟩

theorem unsigned_any (z : Int) (w : World) (h0 : -9223372036854775808 ≤ z) (h1 : z ≤ 9223372036854775807) :
    Calls Try.prog 28 #[.int .i64 z] w fun e w' => e = .returned (.int .i64 (uns z)) ∧ w' = w := by
  by_cases hz : z < 0
  · have HU : Hid (uns z = IntKind.i64.wrap (-z)) := by
      show _ = _
      rw [IntKind.wrap_i64]
      unfold uns
      split <;> omega
    go_enter Try.func28, Try.ntmps28
    go_wp2
    go_ret
    exact ⟨ret_int (by rw [HU.out, IntKind.wrap_i64, wrap64]), rfl⟩
  · have HU : Hid (uns z = z) := by
      show _ = _
      unfold uns
      split <;> omega
    go_enter Try.func28, Try.ntmps28
    go_wp2
    go_ret
    exact ⟨ret_int HU.out.symm, rfl⟩

/-- Put, of a number that has no code. -/
theorem gput_no (P : Option Addr) (z : Int) (w : World) (h : hasC z = false) :
    Calls Try.prog 9 #[.pointer P, .int .i64 z] w fun e w' => e = .returned (.bool false) ∧ w' = w := by
  go_enter Try.func9, Try.ntmps9
  go_wp2_with fail
  refine (hasCode_any _ _).mono ?_
  rintro e w1 ⟨rfl, rfl⟩
  rw [h]
  go_wp2
  go_ret
  exact ⟨rfl, rfl⟩

theorem il_take_succ (x n j : Nat) (h : j < n) : il ((bitsOf x n).take (j + 1)) = il ((bitsOf x n).take j) ++ [false] ++ [x.testBit (n - 1 - j)] := by
  rw [bitsOf_take_succ x n j h, il_snoc]; simp

set_option maxHeartbeats 400000 in
/-- Put, of a number that has a code. -/
theorem gput_yes (w : World) (p : Nat) (v : Value) (zs : List Nat) (s : List Bool) (z : Int) (h : Wr w p v zs s) (hn : s.length ≤ 900000000000) (hz : hasC z = true) :
    Calls Try.prog 9 #[.pointer (some ⟨p, 0, none⟩), .int .i64 z] w fun e w' => e = .returned (.bool true) ∧ WrGets p v w w' (s ++ gcode z.toNat) := by
  obtain ⟨h0, h1⟩ := hasC_true hz
  obtain ⟨x, rfl⟩ := Int.eq_ofNat_of_zero_le h0
  rw [Int.toNat_natCast]
  have hm2 := npairs_le x (by omega)
  obtain ⟨m, hm⟩ : ∃ m, m = npairs x := ⟨_, rfl⟩
  have HC : Hid (gcode x = il (bitsOf (x + 1) m) ++ [true]) := by show _ = _; rw [hm]; rfl
  rw [← hm] at hm2
  have HM : Hid (m = npairs x) := hm
  have hx3 : (x : Int) ≤ 4294967294 := h1
  clear hm h0 h1
  go_enter Try.func9, Try.ntmps9
  go_wp2_with fail
  refine (hasCode_any _ _).mono ?_
  rintro e w1 ⟨rfl, rfl⟩
  rw [hz]
  go_wp2_with fail
  refine (pairs_any _ _ (by omega) (by omega)).mono ?_
  rintro e w2 ⟨rfl, rfl⟩
  rw [Int.toNat_natCast, ← HM.out]
  go_wp2_with fail
  go_loopw [6] (fun i wr => ∃ j : Nat, j ≤ m ∧ i = .int .i64 ((m : Int) - 1 - (j : Int)) ∧ WrGets p v w2 wr (s ++ il ((bitsOf (x + 1) m).take j))) (fun i _ => (intOf i + 1).toNat)
  case atStart => exact ⟨0, Nat.zero_le _, by simp, v, zs, by simpa [il] using h, WrStep.refl _ _ _⟩
  case round =>
    obtain ⟨j, hj, rfl, v1, zs1, h1, st⟩ := hrel
    have hlen : (s ++ il ((bitsOf (x + 1) m).take j)).length ≤ 990000000000 := by simp [il_length, bitsOf_length]; omega
    by_cases hlt : j < m
    · have hpos : (0 : Int) ≤ (m : Int) - 1 - (j : Int) := by omega
      have HB := shr_and ((x : Int) + 1) (m - 1 - j) (by omega) (by omega)
      have HT := il_take_succ (x + 1) m j hlt
      rw [show ((x : Int) + 1).toNat = x + 1 by omega] at HB
      have HB' : Hid ((Go.bits .and .u64 (((x : Int) + 1) / 2 ^ (m - 1 - j)) 1 == 1) = (x + 1).testBit (m - 1 - j)) := HB
      have HT' : Hid (il ((bitsOf (x + 1) m).take (j + 1)) = il ((bitsOf (x + 1) m).take j) ++ [false] ++ [(x + 1).testBit (m - 1 - j)]) := HT
      clear HB HT
      go_wp2_with fail
      refine (bit_any wr p v1 zs1 _ _ h1 (by omega)).mono ?_
      rintro e w3 ⟨rfl, v2, zs2, h2, st2⟩
      go_wp2_with fail
      rw [HB'.out]
      refine (bit_any w3 p v2 zs2 _ _ h2 (by simp at hlen ⊢; omega)).mono ?_
      rintro e w4 ⟨rfl, v3, zs3, h3, st3⟩
      go_wp2
      go_roundw
      case rel => exact ⟨j + 1, by omega, by simp; omega, v3, zs3, by rw [HT'.out, ← List.append_assoc, ← List.append_assoc]; exact h3, (st.trans st2).trans st3⟩
      case measure => simp [intOf]; omega
    · have hge : ¬ (0 : Int) ≤ (m : Int) - 1 - (j : Int) := by omega
      go_wp2_with fail
      refine (bit_any wr p v1 zs1 _ _ h1 (by omega)).mono ?_
      rintro e w3 ⟨rfl, v2, zs2, h2, st2⟩
      go_wp2
      go_ret
      have : (bitsOf (x + 1) m).take j = bitsOf (x + 1) m := List.take_of_length_le (by rw [bitsOf_length]; omega)
      rw [this, List.append_assoc, ← HC.out] at h2
      exact ⟨rfl, v2, zs2, h2, st.trans st2⟩

set_option maxHeartbeats 400000 in
/-- Put into a nil writer. -/
theorem gput_nil (w : World) (z : Int) (hz : hasC z = true) :
    Calls Try.prog 9 #[.pointer none, .int .i64 z] w fun e w' => e = .returned (.bool true) ∧ w' = w := by
  obtain ⟨h0, h1⟩ := hasC_true hz
  obtain ⟨x, rfl⟩ := Int.eq_ofNat_of_zero_le h0
  have hm2 := npairs_le x (by omega)
  obtain ⟨m, hm⟩ : ∃ m, m = npairs x := ⟨_, rfl⟩
  rw [← hm] at hm2
  have HM : Hid (m = npairs x) := hm
  have hx3 : (x : Int) ≤ 4294967294 := h1
  clear hm h0 h1
  go_enter Try.func9, Try.ntmps9
  go_wp2_with fail
  refine (hasCode_any _ _).mono ?_
  rintro e w1 ⟨rfl, rfl⟩
  rw [hz]
  go_wp2_with fail
  refine (pairs_any _ _ (by omega) (by omega)).mono ?_
  rintro e w2 ⟨rfl, rfl⟩
  rw [Int.toNat_natCast, ← HM.out]
  go_wp2_with fail
  go_loopw [6] (fun i wr => ∃ j : Nat, j ≤ m ∧ i = .int .i64 ((m : Int) - 1 - (j : Int)) ∧ SameW wr w2) (fun i _ => (intOf i + 1).toNat)
  case atStart => exact ⟨0, Nat.zero_le _, by simp, SameW.rfl⟩
  case round =>
    obtain ⟨j, hj, rfl, hw⟩ := hrel
    obtain rfl : wr = w2 := hw
    by_cases hlt : j < m
    · have hpos : (0 : Int) ≤ (m : Int) - 1 - (j : Int) := by omega
      go_wp2_with fail
      refine (bit_nil _ _).mono ?_
      rintro e w3 ⟨rfl, rfl⟩
      go_wp2_with fail
      refine (bit_nil _ _).mono ?_
      rintro e w4 ⟨rfl, rfl⟩
      go_wp2
      go_roundw
      case rel => exact ⟨j + 1, by omega, by simp; omega, SameW.rfl⟩
      case measure => simp [intOf]; omega
    · have hge : ¬ (0 : Int) ≤ (m : Int) - 1 - (j : Int) := by omega
      go_wp2_with fail
      refine (bit_nil _ _).mono ?_
      rintro e w3 ⟨rfl, rfl⟩
      go_wp2
      go_ret
      exact ⟨rfl, rfl⟩

theorem gput_any (w : World) (p : Nat) (v : Value) (zs : List Nat) (s : List Bool) (z : Int) (h : Wr w p v zs s) (hn : s.length ≤ 900000000000) :
    Calls Try.prog 9 #[.pointer (some ⟨p, 0, none⟩), .int .i64 z] w fun e w' => e = .returned (.bool (hasC z)) ∧ WrGets p v w w' (s ++ codeC z) := by
  cases hz : hasC z with
  | true =>
    refine (gput_yes w p v zs s z h hn hz).mono fun e w' hh => ?_
    simpa [codeC, hz] using hh
  | false =>
    refine (gput_no _ z w hz).mono fun e w' hh => ?_
    obtain ⟨rfl, rfl⟩ := hh
    exact ⟨rfl, v, zs, by simpa [codeC, hz] using h, WrStep.refl _ _ _⟩

theorem gputnil_any (w : World) (z : Int) :
    Calls Try.prog 9 #[.pointer none, .int .i64 z] w fun e w' => e = .returned (.bool (hasC z)) ∧ w' = w := by
  cases hz : hasC z with
  | true => exact gput_nil w z hz
  | false => exact gput_no _ z w hz

/-- PutSigned. -/
theorem gputs_any (w : World) (p : Nat) (v : Value) (zs : List Nat) (s : List Bool) (z : Int) (h : Wr w p v zs s) (hn : s.length ≤ 800000000000) (h0 : -9223372036854775808 ≤ z) (h1 : z ≤ 9223372036854775807) :
    Calls Try.prog 10 #[.pointer (some ⟨p, 0, none⟩), .int .i64 z] w fun e w' => e = .returned (.bool (hasS z)) ∧ WrGets p v w w' (s ++ codeS z) := by
  have hu := hasC_uns z h0 h1
  cases hz : hasS z with
  | false =>
    rw [hz] at hu
    have HE : Hid (codeS z = []) := by show _ = _; simp [codeS, hz]
    go_enter Try.func10, Try.ntmps10
    go_wp2_with fail
    refine (unsigned_any _ _ h0 h1).mono ?_
    rintro e w1 ⟨rfl, rfl⟩
    go_wp2_with fail
    refine (gput_no _ _ _ hu).mono ?_
    rintro e w2 ⟨rfl, rfl⟩
    go_wp2
    go_ret
    exact ⟨rfl, v, zs, by rw [HE.out]; simpa using h, WrStep.refl _ _ _⟩
  | true =>
    rw [hz] at hu
    obtain ⟨b0, b1⟩ := hasS_true hz
    have hun := uns_of z hz
    have hl := npairs_le z.natAbs (by omega)
    have hcl := gcode_length z.natAbs
    have HU : Hid (gcode (uns z).toNat = gcode z.natAbs) := by show _ = _; rw [hun, Int.toNat_natCast]
    by_cases e0 : z = 0
    · have HE : Hid (codeS z = gcode z.natAbs) := by show _ = _; rw [codeS, hz, if_pos rfl, gsigned, if_pos e0, e0]; rfl
      have e0' : (z != 0) = false := by simp [e0]
      have HE0 : Hid (z = 0) := e0
      clear e0 hun
      go_enter Try.func10, Try.ntmps10
      go_wp2_with fail
      refine (unsigned_any _ _ h0 h1).mono ?_
      rintro e w1 ⟨rfl, rfl⟩
      go_wp2_with fail
      refine (gput_yes _ p v zs s _ h (by omega) hu).mono ?_
      rintro e w2 ⟨rfl, v2, zs2, h2, st2⟩
      rw [HU.out, ← HE.out] at h2
      go_wp2
      go_ret
      exact ⟨rfl, v2, zs2, h2, st2⟩
    · have HE : Hid (codeS z = gcode z.natAbs ++ [decide (z < 0)]) := by show _ = _; simp [codeS, hz, gsigned, e0]
      have e0' : (z != 0) = true := by simp [e0]
      clear hun
      go_enter Try.func10, Try.ntmps10
      go_wp2_with fail
      refine (unsigned_any _ _ h0 h1).mono ?_
      rintro e w1 ⟨rfl, rfl⟩
      go_wp2_with fail
      refine (gput_yes _ p v zs s _ h (by omega) hu).mono ?_
      rintro e w2 ⟨rfl, v2, zs2, h2, st2⟩
      rw [HU.out] at h2
      go_wp2_with fail
      refine (bit_any _ p v2 zs2 _ _ h2 (by rw [List.length_append]; omega)).mono ?_
      rintro e w3 ⟨rfl, v3, zs3, h3, st3⟩
      rw [List.append_assoc, ← HE.out] at h3
      go_wp2
      go_ret
      exact ⟨rfl, v3, zs3, h3, st2.trans st3⟩

/-- Size. -/
theorem gsize_any (w : World) (z : Int) :
    Calls Try.prog 12 #[.int .i64 z] w fun e w' => e = .returned (.int .i64 ((codeC z).length : Int)) ∧ w' = w := by
  cases hz : hasC z with
  | false =>
    have HE : Hid (codeC z = []) := by show _ = _; simp [codeC, hz]
    go_enter Try.func12, Try.ntmps12
    go_wp2_with fail
    refine (hasCode_any _ _).mono ?_
    rintro e w1 ⟨rfl, rfl⟩
    rw [hz]
    go_wp2
    go_ret
    exact ⟨ret_int (by rw [HE.out]; rfl), rfl⟩
  | true =>
    obtain ⟨h0, h1⟩ := hasC_true hz
    have hl := npairs_le z.toNat (by omega)
    have HE : Hid (((codeC z).length : Int) = 2 * ((npairs z.toNat : Nat) : Int) + 1) := by show _ = _; simp [codeC, hz, gcode_length]
    go_enter Try.func12, Try.ntmps12
    go_wp2_with fail
    refine (hasCode_any _ _).mono ?_
    rintro e w1 ⟨rfl, rfl⟩
    rw [hz]
    go_wp2_with fail
    refine (pairs_any _ _ h0 h1).mono ?_
    rintro e w2 ⟨rfl, rfl⟩
    generalize npairs z.toNat = n at hl HE
    go_wp2
    go_ret
    exact ⟨ret_int (by rw [HE.out]), rfl⟩

theorem codeC_uns (z : Int) (h0 : -9223372036854775808 ≤ z) (h1 : z ≤ 9223372036854775807) : ((codeS z).length : Int) = if z = 0 ∨ (codeC (uns z)).length = 0 then ((codeC (uns z)).length : Int) else ((codeC (uns z)).length : Int) + 1 := by
  have hu := hasC_uns z h0 h1
  cases hz : hasS z with
  | false => rw [hz] at hu; simp [codeS, codeC, hz, hu]
  | true =>
    rw [hz] at hu
    have hun := uns_of z hz
    have h2 : codeC (uns z) = gcode z.natAbs := by rw [codeC, hu, if_pos rfl, hun, Int.toNat_natCast]
    rw [h2]
    by_cases e : z = 0
    · rw [if_pos (.inl e), codeS, hz, if_pos rfl, gsigned, if_pos e, e]; rfl
    · simp [codeS, hz, gsigned, e, gcode_ne]

/-- SizeSigned. -/
theorem gsizes_any (w : World) (z : Int) (h0 : -9223372036854775808 ≤ z) (h1 : z ≤ 9223372036854775807) :
    Calls Try.prog 13 #[.int .i64 z] w fun e w' => e = .returned (.int .i64 ((codeS z).length : Int)) ∧ w' = w := by
  have HE : Hid (((codeS z).length : Int) = if z = 0 ∨ (codeC (uns z)).length = 0 then ((codeC (uns z)).length : Int) else ((codeC (uns z)).length : Int) + 1) := codeC_uns z h0 h1
  have hl := codeC_len (uns z)
  go_enter Try.func13, Try.ntmps13
  go_wp2_with fail
  refine (unsigned_any _ _ h0 h1).mono ?_
  rintro e w1 ⟨rfl, rfl⟩
  go_wp2_with fail
  refine (gsize_any _ _).mono ?_
  rintro e w2 ⟨rfl, rfl⟩
  generalize (codeC (uns z)).length = n at hl HE
  by_cases e0 : z = 0
  · have e0' : (z == 0) = true := by simp [e0]
    have H0 : Hid (z = 0) := e0
    clear e0
    go_wp2
    go_ret
    exact ⟨ret_int (by rw [HE.out, if_pos (.inl H0.out)]), rfl⟩
  · have e0' : (z == 0) = false := by simp [e0]
    by_cases en : n = 0
    · have en' : ((n : Int) == 0) = true := by simp [en]
      have H0 : Hid (n = 0) := en
      clear en
      go_wp2
      go_ret
      exact ⟨ret_int (by rw [HE.out, if_pos (.inr H0.out)]), rfl⟩
    · have en' : ((n : Int) == 0) = false := by simp [en]
      go_wp2
      go_ret
      exact ⟨ret_int (by rw [HE.out, if_neg (by omega)]), rfl⟩
end Go.Proofs.Ytjjcekmmdngekaa
