/-
  The document's own answers of layer 2 (package shingleref02), walked.
-/
import Derived.Test.YtjjcekmmdngekaaGolombG
import Derived.Test.YtjjcekmmdngekaaRef1R
namespace Go.Proofs.Ytjjcekmmdngekaa
open Go.RowKit

theorem npairs_div_gt (v j : Nat) (h : j < npairs v) : 1 < (v + 1) / 2 ^ j := by
  have h1 := npairs_lo v
  have h2 : 2 ^ (j + 1) ≤ 2 ^ npairs v := Nat.pow_le_pow_right (by decide) h
  rw [Nat.pow_succ] at h2
  have hp : 0 < 2 ^ j := Nat.pow_pos (by decide)
  exact (Nat.le_div_iff_mul_le hp).2 (by omega)
theorem npairs_div_one (v : Nat) : (v + 1) / 2 ^ npairs v = 1 := by
  have h1 := npairs_lo v
  have h2 := npairs_hi v
  rw [Nat.pow_succ] at h2
  have hp : 0 < 2 ^ npairs v := Nat.pow_pos (by decide)
  have a : 1 ≤ (v + 1) / 2 ^ npairs v := (Nat.le_div_iff_mul_le hp).2 (by omega)
  have b : (v + 1) / 2 ^ npairs v < 2 := (Nat.div_lt_iff_lt_mul hp).2 (by omega)
  omega

theorem bits_one (v m j : Nat) (h : j < m) : ((bitsOf v (m + 1)).drop (1 + j)).take (1 + j + 1 - (1 + j)) = [v.testBit (m - 1 - j)] := by
  rw [show 1 + j + 1 - (1 + j) = 1 by omega, bitsOf_cons, show 1 + j = j + 1 by omega, List.drop_succ_cons]
  rw [List.drop_eq_getElem_cons (by rw [bitsOf_length]; exact h)]
  simp [bitsOf]

set_option maxHeartbeats 1000000 in
/-- Code, of a number that has one. -/
theorem refCode_yes (z : Int) (w : World) (hz : hasC z = true) :
    Calls Try.prog 7 #[.int .i64 z] w fun e w' => e = .returned (.string (strB (gcode z.toNat))) ∧ w' = w := by
  obtain ⟨h0, h1⟩ := hasC_true hz
  obtain ⟨x, rfl⟩ := Int.eq_ofNat_of_zero_le h0
  rw [Int.toNat_natCast]
  have hm2 := npairs_le x (by omega)
  have hgt := npairs_div_gt x
  have hone := npairs_div_one x
  obtain ⟨m, hm⟩ : ∃ m, m = npairs x := ⟨_, rfl⟩
  have HC : Hid (gcode x = il (bitsOf (x + 1) m) ++ [true]) := by show _ = _; rw [hm]; rfl
  rw [← hm] at hm2 hgt hone
  have hx3 : (x : Int) ≤ 4294967294 := h1
  have HG : Hid (∀ j, j < m → 1 < (x + 1) / 2 ^ j) := hgt
  have HO : Hid ((x + 1) / 2 ^ m = 1) := hone
  clear hm h0 h1 hgt hone
  go_enter Try.func7, Try.ntmps7
  go_wp2
  go_loop [3, 4] (fun n y => ∃ j : Nat, j ≤ m ∧ n = .int .i64 (1 + (j : Int)) ∧ y = .int .i64 (((x + 1) / 2 ^ j : Nat) : Int)) (fun n _ => (100 - intOf n).toNat)
  case atStart => exact ⟨0, Nat.zero_le _, rfl, by simp⟩
  case round =>
    obtain ⟨j, hj, rfl, rfl⟩ := hrel
    by_cases hlt : j < m
    · have hg := HG.out j hlt
      obtain ⟨y, hy⟩ : ∃ y, y = (x + 1) / 2 ^ j := ⟨_, rfl⟩
      have hy2 : y ≤ x + 1 := by rw [hy]; exact Nat.div_le_self _ _
      have HY : Hid ((x + 1) / 2 ^ (j + 1) = y / 2) := by show _ = _; rw [Nat.pow_succ, ← Nat.div_div_eq_div_mul, hy]
      rw [← hy] at hg ⊢
      have hg2 : (1 : Int) < (y : Int) := by omega
      clear hy
      go_wp2
      go_round
      case rel => exact ⟨j + 1, by omega, by go_num, congrArg (Value.int .i64) (by rw [HY.out]; omega)⟩
      case measure => simp [intOf]; omega
    · obtain rfl : j = m := by omega
      rw [HO.out]
      go_wp2_with fail
      refine (refBits_any _ _ _ (by omega) (by omega)).mono ?_
      rintro e w1 ⟨rfl, rfl⟩
      have e1 : bitsOf ((x : Int) + 1).toNat (max 0 (min (1 + (j : Int)) 64)).toNat = bitsOf (x + 1) (j + 1) := by
        rw [show ((x : Int) + 1).toNat = x + 1 by omega, show (max 0 (min (1 + (j : Int)) 64)).toNat = j + 1 by omega]
      rw [e1]
      obtain ⟨S, hS⟩ : ∃ S, S = strB (bitsOf (x + 1) (j + 1)) := ⟨_, rfl⟩
      have hsz : S.size = j + 1 := by rw [hS, strB_size, bitsOf_length]
      have HE : Hid (∀ a b, S.extract a b = strB (((bitsOf (x + 1) (j + 1)).drop a).take (b - a))) := by show ∀ a b, _; subst hS; exact strB_extract _
      rw [← hS]
      have HSZ : Hid (S.size = j + 1) := hsz
      clear hS e1
      go_wp2
      go_loop [6, 7] (fun s i => ∃ k : Nat, k ≤ j ∧ i = .int .i64 (1 + (k : Int)) ∧ s = .string (strB (il ((bitsOf (x + 1) j).take k)))) (fun _ i => (100 - intOf i).toNat)
      case atStart => exact ⟨0, Nat.zero_le _, rfl, rfl⟩
      case round =>
        obtain ⟨k, hk, rfl, rfl⟩ := hrel
        by_cases hlt2 : k < j
        · have HT := il_take_succ (x + 1) j k hlt2
          have HT' : Hid (il ((bitsOf (x + 1) j).take (k + 1)) = il ((bitsOf (x + 1) j).take k) ++ [false] ++ [(x + 1).testBit (j - 1 - k)]) := HT
          have HX : Hid (S.extract (1 + k) (1 + k + 1) = strB [(x + 1).testBit (j - 1 - k)]) := by
            show _ = _
            rw [HE.out, bits_one (x + 1) j k hlt2]
          obtain ⟨T, hT⟩ : ∃ T, T = strB (il ((bitsOf (x + 1) j).take k)) := ⟨_, rfl⟩
          have hTs : T.size ≤ 64 := by rw [hT, strB_size, il_length, List.length_take]; omega
          have HTT : Hid (T = strB (il ((bitsOf (x + 1) j).take k))) := hT
          rw [← hT]
          clear HT hT
          have hki : (1 + (k : Int)) < (j : Int) + 1 := by omega
          go_wp2
          go_round
          case rel =>
            refine ⟨k + 1, by omega, by go_num, congrArg Value.string ?_⟩
            rw [HT'.out, HX.out, HTT.out, List.append_assoc, ← strB_append, ← strB_append]
            rfl
          case measure => simp [intOf]; omega
        · obtain rfl : k = j := by omega
          have e2 : (bitsOf (x + 1) k).take k = bitsOf (x + 1) k := List.take_of_length_le (by rw [bitsOf_length]; omega)
          rw [e2]
          obtain ⟨T, hT⟩ : ∃ T, T = strB (il (bitsOf (x + 1) k)) := ⟨_, rfl⟩
          have hTs : T.size ≤ 64 := by rw [hT, strB_size, il_length, bitsOf_length]; omega
          have HTT : Hid (T = strB (il (bitsOf (x + 1) k))) := hT
          rw [← hT]
          clear hT e2
          go_wp2
          go_ret
          refine ⟨?_, rfl⟩
          rw [HC.out, ← strB_append, ← HTT.out]
          rfl

/-- Code. -/
theorem refCode_any (z : Int) (w : World) :
    Calls Try.prog 7 #[.int .i64 z] w fun e w' => e = .returned (.string (strB (codeC z))) ∧ w' = w := by
  cases hz : hasC z with
  | true =>
    have e : codeC z = gcode z.toNat := by simp [codeC, hz]
    rw [e]
    exact refCode_yes z w hz
  | false =>
    have e : codeC z = [] := by simp [codeC, hz]
    rw [e]
    have hz' := hasC_false hz
    by_cases h0 : z < 0
    · have h0' : decide (z < 0) = true := by simp [h0]
      go_enter Try.func7, Try.ntmps7
      go_wp2
      go_ret
      exact ⟨rfl, rfl⟩
    · have h1 : 4294967294 < z := by omega
      have h0' : decide (z < 0) = false := by simp; omega
      clear hz'
      go_enter Try.func7, Try.ntmps7
      go_wp2
      go_ret
      exact ⟨rfl, rfl⟩

theorem codeS_neg (z : Int) (h : -4294967294 ≤ z) (h2 : z < 0) : codeS z = codeC (-z) ++ [true] := by
  have hs : hasS z = true := decide_eq_true ⟨h, by omega⟩
  have hc : hasC (-z) = true := decide_eq_true ⟨by omega, by omega⟩
  rw [codeS, hs, if_pos rfl, codeC, hc, if_pos rfl, gsigned, if_neg (by omega), show (-z).toNat = z.natAbs by omega, decide_eq_true h2]
theorem codeS_pos (z : Int) (h2 : 0 < z) (h : z ≤ 4294967294) : codeS z = codeC z ++ [false] ∧ codeC z ≠ [] := by
  have hs : hasS z = true := decide_eq_true ⟨by omega, h⟩
  have hc : hasC z = true := decide_eq_true ⟨by omega, h⟩
  rw [codeS, hs, if_pos rfl, codeC, hc, if_pos rfl, gsigned, if_neg (by omega), show z.toNat = z.natAbs by omega, decide_eq_false (by omega)]
  exact ⟨rfl, gcode_ne _⟩
theorem codeS_zero : codeS 0 = codeC 0 := by decide
theorem codeS_far (z : Int) (h : ¬ (-4294967294 ≤ z ∧ z ≤ 4294967294)) : codeS z = [] := by
  have hs : hasS z = false := decide_eq_false h
  rw [codeS, hs]; rfl
theorem codeC_far (z : Int) (h : ¬ (0 ≤ z ∧ z ≤ 4294967294)) : codeC z = [] := by
  have hs : hasC z = false := decide_eq_false h
  rw [codeC, hs]; rfl

theorem strB_isEmpty (l : List Bool) : (strB l).toList.isEmpty = l.isEmpty := by
  rw [ByteArray.toList_eq]
  cases l <;> rfl

set_option maxHeartbeats 400000 in
/-- Signed. -/
theorem refSigned_any (z : Int) (w : World) (h0 : -9223372036854775808 ≤ z) (h1 : z ≤ 9223372036854775807) :
    Calls Try.prog 8 #[.int .i64 z] w fun e w' => e = .returned (.string (strB (codeS z))) ∧ w' = w := by
  by_cases ha : z < -4294967294
  · have HE : Hid (codeS z = []) := codeS_far z (by omega)
    go_enter Try.func8, Try.ntmps8
    go_wp2
    go_ret
    exact ⟨by rw [HE.out]; rfl, rfl⟩
  by_cases hb : z < 0
  · have HE : Hid (codeS z = codeC (-z) ++ [true]) := codeS_neg z (by omega) hb
    have hl : (strB (codeC (-z))).size ≤ 64 := by rw [strB_size]; exact codeC_len _
    go_enter Try.func8, Try.ntmps8
    go_wp2_with fail
    refine (refCode_any _ _).mono ?_
    rintro e w1 ⟨rfl, rfl⟩
    go_wp2
    go_ret
    exact ⟨by rw [HE.out, ← strB_append]; rfl, rfl⟩
  by_cases hc : z = 0
  · subst hc
    have HE : Hid (codeS 0 = codeC 0) := codeS_zero
    go_enter Try.func8, Try.ntmps8
    go_wp2_with fail
    refine (refCode_any _ _).mono ?_
    rintro e w1 ⟨rfl, rfl⟩
    go_wp2
    go_ret
    exact ⟨by rw [HE.out]; rfl, rfl⟩
  have hp : 0 < z := by omega
  by_cases hd : z ≤ 4294967294
  · obtain ⟨he, hne⟩ := codeS_pos z hp hd
    have HE : Hid (codeS z = codeC z ++ [false]) := he
    have hl : (strB (codeC z)).size ≤ 64 := by rw [strB_size]; exact codeC_len _
    have hs0 : (strB (codeC z)).size ≠ 0 := by rw [strB_size]; exact fun h => hne (List.eq_nil_of_length_eq_zero h)
    obtain ⟨S, hS⟩ : ∃ S, S = strB (codeC z) := ⟨_, rfl⟩
    rw [← hS] at hl hs0
    have hnes : S.toList.isEmpty = false := by
      rw [hS, strB_isEmpty]; simpa using hne
    have HS : Hid (S = strB (codeC z)) := hS
    clear he hne hS hs0
    go_enter Try.func8, Try.ntmps8
    go_wp2_with fail
    refine (refCode_any _ _).mono ?_
    rintro e w1 ⟨rfl, rfl⟩
    rw [← HS.out]
    go_wp2
    go_ret
    exact ⟨by rw [HE.out, ← strB_append, ← HS.out]; rfl, rfl⟩
  · have HE : Hid (codeS z = []) := codeS_far z (by omega)
    have HC : Hid (codeC z = []) := codeC_far z (by omega)
    have hnes : (strB []).toList.isEmpty = true := by rw [strB_isEmpty]; rfl
    go_enter Try.func8, Try.ntmps8
    go_wp2_with fail
    refine (refCode_any _ _).mono ?_
    rintro e w1 ⟨rfl, rfl⟩
    rw [HC.out]
    go_wp2
    go_ret
    exact ⟨by rw [HE.out]; rfl, rfl⟩

/-- The loop of the document's Get. -/
def RGet (L : List Bool) (p pos ov : Nat) (w wr : World) (j x : Nat) : Prop :=
  (j ≤ 31 ∧ 1 ≤ x ∧ x < 2 ^ (j + 1) ∧ GEq (fun i => L.getD i false) pos j x ∧ RRd wr p L (pos + 2 * j) (ov + past pos (2 * j) L.length) ∧ Fr (fun k => k = p) w wr) ∨
  (j = 32 ∧ x < 2 ^ 32 ∧ gget (fun i => L.getD i false) 31 1 pos = (0, false, pos + 63) ∧ RRd wr p L (pos + 63) (ov + past pos 63 L.length) ∧ Fr (fun k => k = p) w wr)

/-- What the document's Get leaves. -/
def RGot (p : Nat) (L : List Bool) (pos ov : Nat) (w : World) (v : Nat) (ok : Bool) (w' : World) : Prop :=
  ∃ n, gget (fun i => L.getD i false) 31 1 pos = (v, ok, pos + n) ∧ RRd w' p L (pos + n) (ov + past pos n L.length) ∧ Fr (fun k => k = p) w w'

set_option maxHeartbeats 1000000 in
/-- Get. -/
theorem refGget_any (w : World) (p : Nat) (L : List Bool) (pos ov : Nat) (h : RRd w p L pos ov) (hL : L.length ≤ 1000000000000000) (hp : pos ≤ 900000000000000) (ho : ov ≤ 900000000000000) :
    Calls Try.prog 21 #[.pointer (some ⟨p, 0, none⟩)] w fun e w' => ∃ v ok, e = .returned (.tuple #[.int .i64 ((v : Nat) : Int), .bool ok]) ∧ RGot p L pos ov w v ok w' := by
  go_enter Try.func21, Try.ntmps21
  go_wp2_with fail
  go_loopw [4, 5] (fun y i wr => ∃ j x : Nat, i = .int .i64 (j : Int) ∧ y = .int .i64 (x : Int) ∧ RGet L p pos ov w wr j x) (fun _ i _ => 32 - (intOf i).toNat)
  case atStart => exact ⟨0, 1, rfl, rfl, .inl ⟨Nat.zero_le _, Nat.le_refl _, by decide, GEq.start _ _, by simpa [past_zero] using h, Fr.refl _ _⟩⟩
  case round =>
    obtain ⟨j, x, rfl, rfl, ⟨hj, hx1, hx2, hg, h1, f1⟩ | ⟨rfl, hx2, hg, h1, f1⟩⟩ := hrel
    · have hpw : 2 ^ (j + 1) ≤ 2 ^ 32 := Nat.pow_le_pow_right (by decide) (by omega)
      have hx3 : (x : Int) < 4294967296 := by omega
      have hx4 : (1 : Int) ≤ (x : Int) := by omega
      have hpa := past_le pos (2 * j) L.length
      have HX2 : Hid (x < 2 ^ (j + 1)) := hx2
      clear hx2 hpw
      have hji : (j : Int) ≤ 31 := by omega
      go_wp2_with fail
      refine (refBit_any wr p L _ _ h1 hL (by omega) (by omega)).mono ?_
      rintro e w2 ⟨rfl, h2, f2⟩
      have R2 : RRd w2 p L (pos + (2 * j + 1)) (ov + past pos (2 * j + 1) L.length) := by
        rw [past_one, ← Nat.add_assoc, ← Nat.add_assoc]; exact h2
      have F2 : Fr (fun k => k = p) w w2 := f1.trans' f2
      clear h2 f2 f1 h1
      cases hb : L.getD (pos + 2 * j) false with
      | true =>
        have HG' : Hid (gget (fun i => L.getD i false) 31 1 pos = (x - 1, true, pos + (2 * j + 1))) := hg.one hb
        clear hg hb
        go_wp2
        go_ret2
        exact ⟨x - 1, true, ret_pair (by omega), 2 * j + 1, HG'.out, R2, F2⟩
      | false =>
        by_cases hlt : j < 31
        · have HG := hg.step hlt hb
          clear hg hb
          have hpa2 := past_le pos (2 * j + 1) L.length
          have hji2 : (j : Int) < 31 := by omega
          go_wp2_with fail
          refine (refBit_any w2 p L _ _ R2 hL (by omega) (by omega)).mono ?_
          rintro e w3 ⟨rfl, h3, f3⟩
          have R3 : RRd w3 p L (pos + 2 * (j + 1)) (ov + past pos (2 * (j + 1)) L.length) := by
            rw [show 2 * (j + 1) = 2 * j + 1 + 1 by omega, past_one, ← Nat.add_assoc pos (2 * j + 1) 1, ← Nat.add_assoc ov]; exact h3
          have F3 : Fr (fun k => k = p) w w3 := F2.trans' f3
          clear h3 f3 R2 F2
          have hb1 : (L.getD (pos + (2 * j + 1)) false).toNat ≤ 1 := by cases L.getD (pos + (2 * j + 1)) false <;> simp
          have HG2 : GEq (fun i => L.getD i false) pos (j + 1) (2 * x + (L.getD (pos + (2 * j + 1)) false).toNat) := HG
          clear HG
          generalize (L.getD (pos + (2 * j + 1)) false).toNat = b at HG2 hb1
          go_wp2
          go_roundw
          case rel => exact ⟨j + 1, 2 * x + b, by go_num, congrArg (Value.int .i64) (by omega), .inl ⟨by omega, by omega, by have := HX2.out; rw [Nat.pow_succ]; omega, HG2, R3, F3⟩⟩
          case measure => simp [intOf]; omega
        · obtain rfl : j = 31 := by omega
          have HG := hg.stop hb
          have HG' : Hid (gget (fun i => L.getD i false) 31 1 pos = (0, false, pos + (2 * 31 + 1))) := HG
          clear HG hg hb
          go_wp2
          go_roundw
          case rel => exact ⟨32, x, rfl, rfl, .inr ⟨rfl, by have := HX2.out; omega, HG'.out, R2, F2⟩⟩
          case measure => simp [intOf]
    · have HG' : Hid (gget (fun i => L.getD i false) 31 1 pos = (0, false, pos + 63)) := hg
      clear hg
      go_wp2
      go_ret2
      exact ⟨0, false, rfl, 63, HG'.out, h1, f1⟩

/-- What the document's GetSigned leaves. -/
def RSGot (p : Nat) (L : List Bool) (pos ov : Nat) (w : World) (z : Int) (ok : Bool) (w' : World) : Prop :=
  ∃ n, sget (fun i => L.getD i false) pos = (z, ok, pos + n) ∧ RRd w' p L (pos + n) (ov + past pos n L.length) ∧ Fr (fun k => k = p) w w'

set_option maxHeartbeats 400000 in
/-- GetSigned. -/
theorem refSget_any (w : World) (p : Nat) (L : List Bool) (pos ov : Nat) (h : RRd w p L pos ov) (hL : L.length ≤ 1000000000000000) (hp : pos ≤ 800000000000000) (ho : ov ≤ 800000000000000) :
    Calls Try.prog 20 #[.pointer (some ⟨p, 0, none⟩)] w fun e w' => ∃ z ok, e = .returned (.tuple #[.int .i64 z, .bool ok]) ∧ RSGot p L pos ov w z ok w' := by
  go_enter Try.func20, Try.ntmps20
  go_wp2_with fail
  refine (refGget_any w p L pos ov h hL (by omega) (by omega)).mono ?_
  rintro e w1 ⟨v, ok, rfl, n, hg, R1, F1⟩
  have hb := gget_bound (fun i => L.getD i false) 31 1 pos (Nat.le_refl 1)
  rw [hg] at hb
  simp only [] at hb
  have hn : n ≤ 63 := by omega
  have hv : (v : Int) ≤ 4294967294 := by omega
  have hok : ok = false → v = 0 := hb.2.2.2
  have hpa := past_le pos n L.length
  clear hb
  by_cases e0 : v = 0
  · subst e0
    have HS : Hid (sget (fun i => L.getD i false) pos = (0, ok, pos + n)) := sget_zero hg
    clear hg hok
    cases ok with
    | true =>
      go_wp2
      go_ret2
      exact ⟨0, true, rfl, n, HS.out, R1, F1⟩
    | false =>
      go_wp2
      go_ret2
      exact ⟨0, false, rfl, n, HS.out, R1, F1⟩
  · obtain rfl : ok = true := by cases ok with | true => rfl | false => exact absurd (hok rfl) e0
    have HS : Hid (sget (fun i => L.getD i false) pos = ((if L.getD (pos + n) false then -(v : Int) else (v : Int)), true, pos + n + 1)) := sget_pos hg e0
    have e0' : (0 : Int) < (v : Int) := by omega
    clear hg hok
    go_wp2_with fail
    refine (refBit_any w1 p L _ _ R1 hL (by omega) (by omega)).mono ?_
    rintro e w2 ⟨rfl, h2, f2⟩
    have R2 : RRd w2 p L (pos + (n + 1)) (ov + past pos (n + 1) L.length) := by
      rw [past_one, ← Nat.add_assoc, ← Nat.add_assoc]; exact h2
    have F2 : Fr (fun k => k = p) w w2 := F1.trans' f2
    clear h2 f2 F1 R1
    generalize L.getD (pos + n) false = b at HS
    cases b with
    | true =>
      go_wp2
      go_ret2
      exact ⟨-(v : Int), true, rfl, n + 1, HS.out, R2, F2⟩
    | false =>
      go_wp2
      go_ret2
      exact ⟨(v : Int), true, rfl, n + 1, HS.out, R2, F2⟩
end Go.Proofs.Ytjjcekmmdngekaa
