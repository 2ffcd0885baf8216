/-
  Package golomb: numbers got.
-/
import Derived.Test.YtjjcekmmdngekaaGolombP
namespace Go.Proofs.Ytjjcekmmdngekaa
open Go.RowKit

theorem or_one_i64 (x : Nat) (hx : x < 4294967296) : Go.bits .or .i64 ((x : Int) * 2) 1 = ((2 * x + 1 : Nat) : Int) := by
  have e0 : ((x : Int) * 2) = ((2 * x : Nat) : Int) := by omega
  have e : 2 * x ||| 1 = 2 * x + 1 := by
    have := (Nat.two_pow_add_eq_or_of_lt (i := 1) (b := 1) (by decide) x).symm
    simpa using this
  have key : (BitVec.ofInt 64 ((2 * x : Nat) : Int) ||| BitVec.ofInt 64 ((1 : Nat) : Int)).toNat = 2 * x + 1 := by
    rw [BitVec.toNat_or, BitVec.ofInt_natCast, BitVec.ofInt_natCast, BitVec.toNat_ofNat, BitVec.toNat_ofNat, Nat.mod_eq_of_lt (by omega), Nat.mod_eq_of_lt (by decide), e]
  rw [e0]
  show IntKind.i64.wrap ((BitVec.ofInt 64 ((2 * x : Nat) : Int) ||| BitVec.ofInt 64 ((1 : Nat) : Int)).toNat : Int) = _
  rw [key, IntKind.wrap_i64]
  omega

theorem ret_pair {a b : Int} {c : Bool} (h : a = b) : Ending.returned (.tuple #[.int .i64 a, .bool c]) = .returned (.tuple #[.int .i64 b, .bool c]) := by rw [h]

/-- Behind j pairs that begin with a nought x has been read. -/
def GEq (f : Nat → Bool) (pos j x : Nat) : Prop := gget f 31 1 pos = gget f (31 - j) x (pos + 2 * j)
theorem GEq.start (f : Nat → Bool) (pos : Nat) : GEq f pos 0 1 := by unfold GEq; rfl
theorem GEq.one {f : Nat → Bool} {pos j x : Nat} (h : GEq f pos j x) (hb : f (pos + 2 * j) = true) : gget f 31 1 pos = (x - 1, true, pos + (2 * j + 1)) := by
  unfold GEq at h
  rw [h]
  cases 31 - j <;> simp [gget, hb] <;> omega
theorem GEq.step {f : Nat → Bool} {pos j x : Nat} (h : GEq f pos j x) (hj : j < 31) (hb : f (pos + 2 * j) = false) : GEq f pos (j + 1) (2 * x + (f (pos + (2 * j + 1))).toNat) := by
  unfold GEq at *
  rw [h, show 31 - j = (31 - (j + 1)) + 1 by omega, gget, hb]
  simp only [Bool.false_eq_true, if_false]
  congr 1
theorem GEq.stop {f : Nat → Bool} {pos x : Nat} (h : GEq f pos 31 x) (hb : f (pos + 2 * 31) = false) : gget f 31 1 pos = (0, false, pos + (2 * 31 + 1)) := by
  unfold GEq at h
  rw [h]
  simp [gget, hb]

theorem past_add (pos a b L : Nat) : past pos (a + b) L = past pos a L + past (pos + a) b L := by unfold past; omega
theorem past_one (pos a L : Nat) : past pos (a + 1) L = past pos a L + if pos + a < L then 0 else 1 := past_succ pos a L

/-- What Get leaves. -/
def GGot (p q : Nat) (zs : List Nat) (pos ov : Nat) (w : World) (v : Nat) (ok : Bool) (w' : World) : Prop :=
  ∃ n, gget (bitAt zs) 31 1 pos = (v, ok, pos + n) ∧ Rd w' p q zs (pos + n) (ov + past pos n (8 * zs.length)) ∧ Fr (fun k => k = p) w w'

set_option maxHeartbeats 1000000 in
/-- Get. -/
theorem gget_any (w : World) (p q : Nat) (zs : List Nat) (pos ov : Nat) (h : Rd w p q zs pos ov) (hz : zs.length ≤ 100000000000000) (hp : pos ≤ 900000000000000) (ho : ov ≤ 900000000000000) :
    Calls Try.prog 16 #[.pointer (some ⟨p, 0, none⟩)] w fun e w' => ∃ v ok, e = .returned (.tuple #[.int .i64 ((v : Nat) : Int), .bool ok]) ∧ GGot p q zs pos ov w v ok w' := by
  go_enter Try.func16, Try.ntmps16
  go_wp2_with fail
  go_loopw [4, 5] (fun n i wr => ∃ j x : Nat, j ≤ 31 ∧ i = .int .i64 (j : Int) ∧ n = .int .i64 (x : Int) ∧ 1 ≤ x ∧ x < 2 ^ (j + 1) ∧ GEq (bitAt zs) pos j x ∧ Rd wr p q zs (pos + 2 * j) (ov + past pos (2 * j) (8 * zs.length)) ∧ Fr (fun k => k = p) w wr) (fun _ i _ => 31 - (intOf i).toNat)
  case atStart => exact ⟨0, 1, Nat.zero_le _, rfl, rfl, Nat.le_refl _, by decide, GEq.start _ _, by simpa [past_zero] using h, Fr.refl _ _⟩
  case round =>
    obtain ⟨j, x, hj, rfl, rfl, hx1, hx2, hg, h1, f1⟩ := hrel
    have hpw : 2 ^ (j + 1) ≤ 2 ^ 32 := Nat.pow_le_pow_right (by decide) (by omega)
    have hx3 : (x : Int) < 4294967296 := by omega
    have hx4 : (1 : Int) ≤ (x : Int) := by omega
    have hpa := past_le pos (2 * j) (8 * zs.length)
    have HX2 : Hid (x < 2 ^ (j + 1)) := hx2
    clear hx2 hpw
    by_cases hlt : j < 31
    · have hji : (j : Int) < 31 := by omega
      go_wp2_with fail
      refine (rbit_any wr p q zs _ _ h1 hz (by omega) (by omega)).mono ?_
      rintro e w2 ⟨rfl, h2, f2⟩
      have R2 : Rd w2 p q zs (pos + (2 * j + 1)) (ov + past pos (2 * j + 1) (8 * zs.length)) := by
        rw [past_one, ← Nat.add_assoc, ← Nat.add_assoc]; exact h2
      have F2 : Fr (fun k => k = p) w w2 := f1.trans' f2
      clear h2 f2 f1 h1
      cases hb : bitAt zs (pos + 2 * j) with
      | true =>
        have HG := hg.one hb
        have HG' : Hid (gget (bitAt zs) 31 1 pos = (x - 1, true, pos + (2 * j + 1))) := HG
        clear HG hg hb
        go_wp2
        go_ret2
        exact ⟨x - 1, true, ret_pair (by omega), 2 * j + 1, HG'.out, R2, F2⟩
      | false =>
        have HG := hg.step hlt hb
        clear hg hb
        have hpa2 := past_le pos (2 * j + 1) (8 * zs.length)
        go_wp2_with fail
        refine (rbit_any w2 p q zs _ _ R2 hz (by omega) (by omega)).mono ?_
        rintro e w3 ⟨rfl, h3, f3⟩
        have R3 : Rd w3 p q zs (pos + 2 * (j + 1)) (ov + past pos (2 * (j + 1)) (8 * zs.length)) := by
          rw [show 2 * (j + 1) = 2 * j + 1 + 1 by omega, past_one, ← Nat.add_assoc pos (2 * j + 1) 1, ← Nat.add_assoc ov]; exact h3
        have F3 : Fr (fun k => k = p) w w3 := F2.trans' f3
        clear h3 f3 R2 F2
        have HO : Hid (Go.bits .or .i64 ((x : Int) * 2) 1 = ((2 * x + 1 : Nat) : Int)) := or_one_i64 x (by omega)
        generalize bitAt zs (pos + (2 * j + 1)) = b at HG
        cases b with
        | true =>
          go_wp2
          go_roundw
          case rel => exact ⟨j + 1, 2 * x + 1, by omega, by go_num, congrArg (Value.int .i64) HO.out, by omega, by have := HX2.out; rw [Nat.pow_succ]; omega, HG, R3, F3⟩
          case measure => simp [intOf]; omega
        | false =>
          go_wp2
          go_roundw
          case rel => exact ⟨j + 1, 2 * x, by omega, by go_num, congrArg (Value.int .i64) (by omega), by omega, by have := HX2.out; rw [Nat.pow_succ]; omega, HG, R3, F3⟩
          case measure => simp [intOf]; omega
    · have hji : ¬ (j : Int) < 31 := by omega
      obtain rfl : j = 31 := by omega
      go_wp2_with fail
      refine (rbit_any wr p q zs _ _ h1 hz (by omega) (by omega)).mono ?_
      rintro e w2 ⟨rfl, h2, f2⟩
      have R2 : Rd w2 p q zs (pos + (2 * 31 + 1)) (ov + past pos (2 * 31 + 1) (8 * zs.length)) := by
        rw [past_one, ← Nat.add_assoc, ← Nat.add_assoc]; exact h2
      have F2 : Fr (fun k => k = p) w w2 := f1.trans' f2
      clear h2 f2 f1 h1
      cases hb : bitAt zs (pos + 2 * 31) with
      | true =>
        have HG' : Hid (gget (bitAt zs) 31 1 pos = (x - 1, true, pos + (2 * 31 + 1))) := hg.one hb
        clear hg hb
        go_wp2
        go_ret2
        exact ⟨x - 1, true, ret_pair (by omega), 2 * 31 + 1, HG'.out, R2, F2⟩
      | false =>
        have HG' : Hid (gget (bitAt zs) 31 1 pos = (0, false, pos + (2 * 31 + 1))) := hg.stop hb
        clear hg hb
        go_wp2
        go_ret2
        exact ⟨0, false, rfl, 2 * 31 + 1, HG'.out, R2, F2⟩

set_option maxHeartbeats 400000 in
/-- Get of a nil reader. -/
theorem gget_nil (w : World) : Calls Try.prog 16 #[.pointer none] w fun e w' => e = .returned (.tuple #[.int .i64 0, .bool false]) ∧ w' = w := by
  go_enter Try.func16, Try.ntmps16
  go_wp2_with fail
  go_loopw [4, 5] (fun n i wr => ∃ j x : Nat, j ≤ 31 ∧ i = .int .i64 (j : Int) ∧ n = .int .i64 (x : Int) ∧ x < 2 ^ (j + 1) ∧ SameW wr w) (fun _ i _ => 31 - (intOf i).toNat)
  case atStart => exact ⟨0, 1, Nat.zero_le _, rfl, rfl, by decide, SameW.rfl⟩
  case round =>
    obtain ⟨j, x, hj, rfl, rfl, hx2, hw⟩ := hrel
    obtain rfl : wr = w := hw
    have hpw : 2 ^ (j + 1) ≤ 2 ^ 32 := Nat.pow_le_pow_right (by decide) (by omega)
    have hx3 : (x : Int) < 4294967296 := by omega
    have HX2 : Hid (x < 2 ^ (j + 1)) := hx2
    clear hx2 hpw
    by_cases hlt : j < 31
    · have hji : (j : Int) < 31 := by omega
      go_wp2_with fail
      refine (rbit_nil _).mono ?_
      rintro e w2 ⟨rfl, rfl⟩
      go_wp2_with fail
      refine (rbit_nil _).mono ?_
      rintro e w2 ⟨rfl, rfl⟩
      go_wp2
      go_roundw
      case rel => exact ⟨j + 1, 2 * x, by omega, by go_num, congrArg (Value.int .i64) (by omega), by have := HX2.out; rw [Nat.pow_succ]; omega, SameW.rfl⟩
      case measure => simp [intOf]; omega
    · have hji : ¬ (j : Int) < 31 := by omega
      go_wp2_with fail
      refine (rbit_nil _).mono ?_
      rintro e w2 ⟨rfl, rfl⟩
      go_wp2
      go_ret2
      exact ⟨rfl, rfl⟩

/-- What GetSigned leaves. -/
def SGot (p q : Nat) (zs : List Nat) (pos ov : Nat) (w : World) (z : Int) (ok : Bool) (w' : World) : Prop :=
  ∃ n, sget (bitAt zs) pos = (z, ok, pos + n) ∧ Rd w' p q zs (pos + n) (ov + past pos n (8 * zs.length)) ∧ Fr (fun k => k = p) w w'

/-- GetSigned. -/
theorem sget_any (w : World) (p q : Nat) (zs : List Nat) (pos ov : Nat) (h : Rd w p q zs pos ov) (hz : zs.length ≤ 100000000000000) (hp : pos ≤ 800000000000000) (ho : ov ≤ 800000000000000) :
    Calls Try.prog 18 #[.pointer (some ⟨p, 0, none⟩)] w fun e w' => ∃ z ok, e = .returned (.tuple #[.int .i64 z, .bool ok]) ∧ SGot p q zs pos ov w z ok w' := by
  go_enter Try.func18, Try.ntmps18
  go_wp2_with fail
  refine (gget_any w p q zs pos ov h hz (by omega) (by omega)).mono ?_
  rintro e w1 ⟨v, ok, rfl, n, hg, R1, F1⟩
  have hb := gget_bound (bitAt zs) 31 1 pos (Nat.le_refl 1)
  rw [hg] at hb
  simp only [] at hb
  have hn : n ≤ 63 := by omega
  have hv : (v : Int) ≤ 4294967294 := by omega
  have hpa := past_le pos n (8 * zs.length)
  clear hb
  by_cases e0 : v = 0
  · subst e0
    have HS : Hid (sget (bitAt zs) pos = (0, ok, pos + n)) := sget_zero hg
    clear hg
    go_wp2
    go_ret2
    exact ⟨0, ok, rfl, n, HS.out, R1, F1⟩
  · have HS : Hid (sget (bitAt zs) pos = ((if bitAt zs (pos + n) then -(v : Int) else (v : Int)), ok, pos + n + 1)) := sget_pos hg e0
    have e0' : ((v : Int) != 0) = true := by simp [e0]
    clear hg
    go_wp2_with fail
    refine (rbit_any w1 p q zs _ _ R1 hz (by omega) (by omega)).mono ?_
    rintro e w2 ⟨rfl, h2, f2⟩
    have R2 : Rd w2 p q zs (pos + (n + 1)) (ov + past pos (n + 1) (8 * zs.length)) := by
      rw [past_one, ← Nat.add_assoc, ← Nat.add_assoc]; exact h2
    have F2 : Fr (fun k => k = p) w w2 := F1.trans' f2
    clear h2 f2 F1 R1
    generalize bitAt zs (pos + n) = b at HS
    cases b with
    | true =>
      go_wp2
      go_ret2
      exact ⟨-(v : Int), ok, rfl, n + 1, HS.out, R2, F2⟩
    | false =>
      go_wp2
      go_ret2
      exact ⟨(v : Int), ok, rfl, n + 1, HS.out, R2, F2⟩
end Go.Proofs.Ytjjcekmmdngekaa
