/-
  The document's own answers of layer 1 (package shingleref01), walked.
-/
import Derived.Test.YthabklgeopdlhaaOuter
namespace Go.Proofs.Ythabklgeopdlhaa
open Go.RowKit

/-- Bits as a text of 0 and 1. -/
def strB (l : List Bool) : ByteArray := ⟨(l.map fun b => if b then (49 : UInt8) else 48).toArray⟩
theorem strB_size (l : List Bool) : (strB l).size = l.length := by simp [strB, ByteArray.size]
theorem strB_append (a b : List Bool) : strB a ++ strB b = strB (a ++ b) := by
  apply ByteArray.ext
  simp [strB, ByteArray.data_append]

theorem gap_le (n : Nat) : gap n ≤ 7 := by unfold gap; omega
theorem bitsOf_cons (v n : Nat) : bitsOf v (n + 1) = v.testBit n :: bitsOf v n := by
  unfold bitsOf
  rw [List.range_succ_eq_map]
  simp only [List.map_cons, List.map_map]
  congr 1
  refine List.map_congr_left fun j hj => ?_
  simp only [Function.comp]
  congr 1
  have := List.mem_range.1 hj
  omega

set_option maxHeartbeats 400000 in
/-- Bits. -/
theorem refBits_any (x n : Int) (w : World) (hx : 0 ≤ x) (hx2 : x < 18446744073709551616) :
    Calls Try.prog 32 #[.int .u64 x, .int .i64 n] w fun e w' => e = .returned (.string (strB (bitsOf x.toNat (max 0 (min n 64)).toNat))) ∧ w' = w := by
  obtain ⟨m, hm⟩ : ∃ m : Nat, (m : Int) = max 0 (min n 64) := ⟨(max 0 (min n 64)).toNat, by omega⟩
  have hm2 : m ≤ 64 := by omega
  have e1 : (max 0 (min n 64)).toNat = m := by omega
  rw [e1]
  obtain ⟨y, rfl⟩ := Int.eq_ofNat_of_zero_le hx
  rw [Int.toNat_natCast]
  have HM : Hid ((m : Int) = max 0 (min n 64)) := hm
  clear hm e1
  go_enter Try.func32, Try.ntmps32
  go_wp2
  go_loop [0, 5, 6] (fun v s i => ∃ j : Nat, j ≤ m ∧ i = .int .i64 (j : Int) ∧ s = .string (strB (bitsOf y j)) ∧ v = .int .u64 ((y / 2 ^ j : Nat) : Int)) (fun _ _ i => m - (intOf i).toNat)
  case atStart => exact ⟨0, Nat.zero_le _, rfl, rfl, by simp⟩
  case round =>
    obtain ⟨j, hj, rfl, rfl, rfl⟩ := hrel
    by_cases hlt : j < m
    · have a1 : (j : Int) < n := by have := HM.out; omega
      have a2 : (j : Int) < 64 := by omega
      obtain ⟨z, hz⟩ : ∃ z, z = y / 2 ^ j := ⟨_, rfl⟩
      have hz2 : z ≤ y := by rw [hz]; exact Nat.div_le_self _ _
      have HZ : Hid (z = y / 2 ^ j) := hz
      rw [← hz]
      clear hz
      have HN : Hid (IntKind.u64.wrap ((z : Int) / 2) = ((y / 2 ^ (j + 1) : Nat) : Int)) := by
        show _ = _
        rw [IntKind.wrap_u64, Nat.pow_succ, ← Nat.div_div_eq_div_mul, ← HZ.out]
        omega
      have HB := bitsOf_cons y j
      have ht : y.testBit j = decide (z % 2 = 1) := by rw [Nat.testBit_eq_decide_div_mod_eq, HZ.out]
      obtain ⟨S, hS⟩ : ∃ S, S = strB (bitsOf y j) := ⟨_, rfl⟩
      have hsz : S.size ≤ 64 := by rw [hS, strB_size, bitsOf_length]; omega
      rw [← hS]
      have HS : Hid (S = strB (bitsOf y j)) := hS
      have HC : Hid (bitsOf y (j + 1) = y.testBit j :: bitsOf y j) := HB
      have HT : Hid (y.testBit j = decide (z % 2 = 1)) := ht
      clear hS HB ht hx hx2 hz2
      by_cases hb : z % 2 = 1
      · have hb1 : ((z : Int) % 2 == 1) = true := by simp; omega
        have HD : Hid (z % 2 = 1) := hb
        clear hb
        go_wp2
        go_round
        case rel =>
          refine ⟨j + 1, by omega, by go_num, congrArg Value.string ?_, congrArg (Value.int .u64) HN.out⟩
          rw [HC.out, HT.out, HD.out, HS.out]
          exact strB_append [true] (bitsOf y j)
        case measure => simp [intOf]; omega
      · have hb1 : ((z : Int) % 2 == 1) = false := by simp; omega
        have HD : Hid (¬ z % 2 = 1) := hb
        clear hb
        go_wp2
        go_round
        case rel =>
          refine ⟨j + 1, by omega, by go_num, congrArg Value.string ?_, congrArg (Value.int .u64) HN.out⟩
          have hd : decide (z % 2 = 1) = false := decide_eq_false HD.out
          rw [HC.out, HT.out, hd, HS.out]
          exact strB_append [false] (bitsOf y j)
        case measure => simp [intOf]; omega
    · obtain rfl : j = m := by omega
      have hd : decide ((j : Int) < n) = false ∨ (decide ((j : Int) < n) = true ∧ decide ((j : Int) < 64) = false) := by
        have := HM.out
        by_cases h : (j : Int) < n
        · exact .inr ⟨by simp [h], by simp; omega⟩
        · exact .inl (by simp; omega)
      rcases hd with hd | ⟨hd, hd2⟩
      · go_wp2
        go_ret
        exact ⟨rfl, rfl⟩
      · go_wp2
        go_ret
        exact ⟨rfl, rfl⟩

/-- Pad. -/
theorem refPad_any (l : List Bool) (w : World) (hl : l.length ≤ 1000000000000) :
    Calls Try.prog 72 #[.string (strB l)] w fun e w' => e = .returned (.string (strB (l ++ List.replicate (gap l.length) false))) ∧ w' = w := by
  go_enter Try.func72, Try.ntmps72
  go_wp2
  go_loop [0] (fun s => ∃ j : Nat, j ≤ gap l.length ∧ s = .string (strB (l ++ List.replicate j false))) (fun s => match s with | .string b => l.length + 8 - b.size | _ => 0)
  case atStart => exact ⟨0, Nat.zero_le _, by simp⟩
  case round =>
    obtain ⟨j, hj, rfl⟩ := hrel
    have hg := gap_add l.length
    have hg2 := gap_le l.length
    have hsz : (strB (l ++ List.replicate j false)).size = l.length + j := by rw [strB_size]; simp
    obtain ⟨S, hS⟩ : ∃ S, S = strB (l ++ List.replicate j false) := ⟨_, rfl⟩
    rw [← hS] at hsz ⊢
    have HS : Hid (S = strB (l ++ List.replicate j false)) := hS
    clear hS
    by_cases hlt : j < gap l.length
    · have hne : (((l.length : Int) + (j : Int)) % 8 != 0) = true := by
        rw [bne_iff_ne]
        have h8 : (l.length + j) % 8 ≠ 0 := by unfold gap at *; omega
        omega
      have hb : S.size ≤ 2000000000000 := by omega
      go_wp2
      go_round
      case rel =>
        refine ⟨j + 1, by omega, congrArg Value.string ?_⟩
        rw [HS.out, List.replicate_succ', ← List.append_assoc]
        exact strB_append _ [false]
      case measure =>
        have h1 : ({ data := #[48] } : ByteArray).size = 1 := rfl
        simp [ByteArray.size_append]; omega
    · obtain rfl : j = gap l.length := by omega
      have hne : (((l.length : Int) + (gap l.length : Int)) % 8 != 0) = false := by
        have : ((l.length : Int) + (gap l.length : Int)) % 8 = 0 := by omega
        simp [this]
      go_wp2
      go_ret
      exact ⟨by rw [← HS.out]; rfl, rfl⟩
theorem strB_get (l : List Bool) (i : Nat) (h : i < (strB l).size) : ((strB l)[i]'h).toNat = 48 + (l.getD i false).toNat := by
  have h' : i < l.length := by rw [strB_size] at h; exact h
  show (((l.map fun (b : Bool) => if b then (49 : UInt8) else 48).toArray)[i]'(by simpa using h')).toNat = _
  simp only [List.getElem_toArray, List.getElem_map, List.getD, List.getElem?_eq_getElem h', Option.getD_some]
  cases l[i] <;> rfl

theorem take_succ_getD (l : List Bool) (j : Nat) (h : j < l.length) : l.take (j + 1) = l.take j ++ [l.getD j false] := by
  rw [List.take_succ_eq_append_getElem h]
  simp [List.getD, h]

/-- Number. -/
theorem refNumber_any (l : List Bool) (w : World) (hl : l.length ≤ 64) :
    Calls Try.prog 73 #[.string (strB l)] w fun e w' => e = .returned (.int .u64 ((valOf l : Nat) : Int)) ∧ w' = w := by
  obtain ⟨S, hS⟩ : ∃ S, S = strB l := ⟨_, rfl⟩
  have hsz : S.size = l.length := by rw [hS, strB_size]
  have hget : ∀ (i : Nat) (h : i < S.size), (S[i]'h).toNat = 48 + (l.getD i false).toNat := by subst hS; exact strB_get l
  rw [← hS]
  have HG : Hid (∀ (i : Nat) (h : i < S.size), (S[i]'h).toNat = 48 + (l.getD i false).toNat) := hget
  have hs64 : S.size ≤ 64 := by omega
  have HZ : Hid (S.size = l.length) := hsz
  clear hS hget hsz
  go_enter Try.func73, Try.ntmps73
  go_wp2
  go_loop [3, 4] (fun v i => ∃ j : Nat, j ≤ S.size ∧ i = .int .i64 (j : Int) ∧ v = .int .u64 ((valOf (l.take j) : Nat) : Int)) (fun _ i => S.size - (intOf i).toNat)
  case atStart => exact ⟨0, Nat.zero_le _, rfl, rfl⟩
  case round =>
    obtain ⟨j, hj, rfl, rfl⟩ := hrel
    by_cases hlt : j < S.size
    · have HB := HG.out j hlt
      have HT : Hid (l.take (j + 1) = l.take j ++ [l.getD j false]) := take_succ_getD l j (by rw [← HZ.out]; exact hlt)
      have hv := valOf_lt (l.take j)
      obtain ⟨x, hx⟩ : ∃ x, x = valOf (l.take j) := ⟨_, rfl⟩
      obtain ⟨b, hb⟩ : ∃ b, b = (l.getD j false).toNat := ⟨_, rfl⟩
      have hb1 : b ≤ 1 := by rw [hb]; cases l.getD j false <;> simp
      rw [← hb] at HB
      rw [← hx] at hv ⊢
      have hx2 : x < 9223372036854775808 := by
        have h1 : (l.take j).length ≤ 63 := by rw [List.length_take]; omega
        have : 2 ^ (l.take j).length ≤ 2 ^ 63 := Nat.pow_le_pow_right (by decide) h1
        omega
      have HX : Hid (x = valOf (l.take j)) := hx
      have HBB : Hid (b = (l.getD j false).toNat) := hb
      clear hx hv hb
      go_wp2
      go_round
      case rel =>
        refine ⟨j + 1, by omega, by go_num, congrArg (Value.int .u64) ?_⟩
        rw [HT.out, valOf_snoc, ← HX.out, ← HBB.out]
        omega
      case measure => simp [intOf]; omega
    · go_wp2
      go_ret
      have : l.take j = l := List.take_of_length_le (by rw [← HZ.out]; omega)
      rw [this]
      exact ⟨rfl, rfl⟩
theorem valOf_bit_from (l : List Bool) : ∀ (a k : Nat), (l.foldl (fun a b => 2 * a + b.toNat) a).testBit k = if k < l.length then l.getD (l.length - 1 - k) false else a.testBit (k - l.length) := by
  induction l with
  | nil => intro a k; simp
  | cons b l ih =>
    intro a k
    rw [List.foldl_cons, ih, List.length_cons]
    by_cases h1 : k < l.length
    · rw [if_pos h1, if_pos (by omega), show l.length + 1 - 1 - k = (l.length - 1 - k) + 1 by omega]
      simp [List.getD]
    · rw [if_neg h1]
      by_cases h2 : k = l.length
      · subst h2
        rw [if_pos (by omega), show l.length + 1 - 1 - l.length = 0 by omega, Nat.sub_self, Nat.testBit_zero]
        cases b <;> simp [List.getD] <;> omega
      · rw [if_neg (by omega), show k - l.length = (k - (l.length + 1)) + 1 by omega, Nat.testBit_succ]
        congr 1
        cases b <;> simp <;> omega
theorem valOf_bit (l : List Bool) (k : Nat) (h : k < l.length) : (valOf l).testBit k = l.getD (l.length - 1 - k) false := by
  have := valOf_bit_from l 0 k
  rw [if_pos h] at this
  exact this

/-- The first k bytes of bits. -/
def chunks (L : List Bool) (k : Nat) : List Nat := (List.range k).map fun j => valOf ((L.drop (8 * j)).take 8)
theorem chunks_succ (L : List Bool) (k : Nat) : chunks L (k + 1) = chunks L k ++ [valOf ((L.drop (8 * k)).take 8)] := by simp [chunks, List.range_succ]
theorem chunks_length (L : List Bool) (k : Nat) : (chunks L k).length = k := by simp [chunks]

theorem chunks_packs (l : List Bool) : Packs (chunks (l ++ List.replicate (gap l.length) false) ((l.length + 7) / 8)) l := by
  have hg := gap_add l.length
  refine ⟨?_, chunks_length _ _, fun p => ?_⟩
  · intro z hz
    simp [chunks] at hz
    obtain ⟨j, hj, rfl⟩ := hz
    have := valOf_lt (((l ++ List.replicate (gap l.length) false).drop (8 * j)).take 8)
    have h2 : (((l ++ List.replicate (gap l.length) false).drop (8 * j)).take 8).length ≤ 8 := List.length_take_le _ _
    exact Nat.lt_of_lt_of_le this (Nat.pow_le_pow_right (n := 2) (by decide) h2)
  · unfold bitAt
    by_cases h : p / 8 < (l.length + 7) / 8
    · have e1 : (chunks (l ++ List.replicate (gap l.length) false) ((l.length + 7) / 8)).getD (p / 8) 0 = valOf (((l ++ List.replicate (gap l.length) false).drop (8 * (p / 8))).take 8) := by
        simp [chunks, List.getD, h]
      have e2 : (((l ++ List.replicate (gap l.length) false).drop (8 * (p / 8))).take 8).length = 8 := by simp; omega
      rw [e1, valOf_bit _ _ (by rw [e2]; omega), e2]
      rw [show 8 - 1 - (7 - p % 8) = p % 8 by omega]
      simp only [List.getD]
      rw [List.getElem?_take_of_lt (by omega), List.getElem?_drop, show 8 * (p / 8) + p % 8 = p by omega]
      by_cases h3 : p < l.length
      · rw [List.getElem?_append_left h3]
      · rw [List.getElem?_append_right (by omega), List.getElem?_eq_none (show l.length ≤ p by omega), List.getElem?_replicate]
        split <;> rfl
    · have e1 : (chunks (l ++ List.replicate (gap l.length) false) ((l.length + 7) / 8)).getD (p / 8) 0 = 0 := by
        simp [List.getD, List.getElem?_eq_none (show (chunks (l ++ List.replicate (gap l.length) false) ((l.length + 7) / 8)).length ≤ p / 8 by rw [chunks_length]; omega)]
      rw [e1]
      simp [List.getD, List.getElem?_eq_none (show l.length ≤ p by omega)]

theorem strB_extract (L : List Bool) (a b : Nat) : (strB L).extract a b = strB ((L.drop a).take (b - a)) := by
  apply ByteArray.ext
  simp [strB, ByteArray.data_extract, List.map_drop, List.map_take]

set_option maxHeartbeats 400000 in
/-- Bytes. -/
theorem refBytes_any (l : List Bool) (w : World) (hl : l.length ≤ 100000000000) :
    Calls Try.prog 49 #[.string (strB l)] w fun e w' => ∃ v zs, e = .returned v ∧ w'.ownsRow w.heap.size 5 1 v zs.length (rowOf zs) ∧ Packs zs l ∧ Fr (fun _ => False) w w' := by
  have HP : Hid (Packs (chunks (l ++ List.replicate (gap l.length) false) ((l.length + 7) / 8)) l) := chunks_packs l
  have hg := gap_add l.length
  obtain ⟨L, hL⟩ : ∃ L, L = l ++ List.replicate (gap l.length) false := ⟨_, rfl⟩
  obtain ⟨n, hn⟩ : ∃ n, n = (l.length + 7) / 8 := ⟨_, rfl⟩
  have hLl : L.length = 8 * n := by rw [hL, hn]; simp; omega
  rw [← hL, ← hn] at HP
  have HL : Hid (L = l ++ List.replicate (gap l.length) false) := hL
  have hn2 : n ≤ 100000000000 := by omega
  clear hL hg hn
  obtain ⟨i0, hi, hz0, hz1, hz2⟩ := info_parts Try.info_u8
  go_enter Try.func49, Try.ntmps49
  go_wp2_with fail
  refine (refPad_any l w (by omega)).mono ?_
  rintro e w1 ⟨rfl, rfl⟩
  rw [← HL.out]
  obtain ⟨S, hS⟩ : ∃ S, S = strB L := ⟨_, rfl⟩
  have hsz : S.size = 8 * n := by rw [hS, strB_size, hLl]
  have hex : ∀ a b, S.extract a b = strB ((L.drop a).take (b - a)) := by subst hS; exact strB_extract L
  rw [← hS]
  have HE : Hid (∀ a b, S.extract a b = strB ((L.drop a).take (b - a))) := hex
  have HLl : Hid (L.length = 8 * n) := hLl
  clear hS hex hLl
  go_wp2
  go_loopw [3, 4] (fun v i wr => ∃ k : Nat, k ≤ n ∧ i = .int .i64 (8 * (k : Int)) ∧ wr.ownsRow w1.heap.size 5 1 v (chunks L k).length (rowOf (chunks L k)) ∧ Fr (fun _ => False) w1 wr) (fun _ i _ => 8 * n - (intOf i).toNat)
  case atStart => exact ⟨0, Nat.zero_le _, rfl, World.ownsRow_nil _ _ _ _, Fr.refl _ _⟩
  case round =>
    obtain ⟨k, hk, rfl, h1, f1⟩ := hrel
    by_cases hlt : k < n
    · have a1 : (8 * (k : Int)) < (8 * (n : Int)) := by omega
      have hcl : ((L.drop (8 * k)).take 8).length ≤ 8 := List.length_take_le _ _
      have hz := valOf_lt ((L.drop (8 * k)).take 8)
      obtain ⟨z, hzz⟩ : ∃ z, z = valOf ((L.drop (8 * k)).take 8) := ⟨_, rfl⟩
      have hz3 : (z : Int) < 256 := by
        rw [hzz]
        have : 2 ^ ((L.drop (8 * k)).take 8).length ≤ 2 ^ 8 := Nat.pow_le_pow_right (by decide) hcl
        omega
      have HZ : Hid (z = valOf ((L.drop (8 * k)).take 8)) := hzz
      have HC : Hid (chunks L (k + 1) = chunks L k ++ [z]) := by
        show _ = _
        rw [chunks_succ, hzz]
      have hsz2 := f1.size
      have hlt1 := h1.lt
      have hck := chunks_length L k
      have HCK : Hid ((chunks L k).length = k) := hck
      clear hz hzz hck
      go_wp2_with fail
      rw [HE.out, show 8 * k + 8 - 8 * k = 8 by omega]
      refine (refNumber_any _ wr (by omega)).mono ?_
      rintro e w2 ⟨rfl, rfl⟩
      rw [← HZ.out]
      go_wp2_with (at_builtin; refine wpList_append_own _ rfl _ _ 40 rfl w1.heap.size 5 i0 (.int .u8 0) 1 1 Try.underlying40 hi hz0 hz1 hz2 rfl (by decide) _ _ _ rfl (h1.alloc _) ⟨w2.heap.size, 0, none⟩ 1 1 [.int .u8 (z : Int)] rfl rfl ?c1 ?c2 ?c3 ?c4 ?c5 ?_)
      case c1 => exact World.news_of_block (heap_alloc_new _ _)
      case c2 => intro u hu; simp at hu; subst hu; rfl
      case c3 => have := HCK.out; unfold maxLen; omega
      case c4 => have := HCK.out; omega
      case c5 => simp; omega
      intro v' w3 hown hgrow _
      have F3 : Fr (fun _ => False) w1 w3 := (f1.alloc _).grown hgrow (fun i hi hlt => by have := hlt1 i hi; omega)
      have R : w3.ownsRow w1.heap.size 5 1 v' (chunks L (k + 1)).length (rowOf (chunks L (k + 1))) := by
        rw [HC.out, rowOf_snoc]; simpa using hown
      clear hown hgrow
      go_wp2
      go_roundw
      case rel => exact ⟨k + 1, by omega, by go_num, R, F3⟩
      case measure => simp [intOf]; omega
    · obtain rfl : k = n := by omega
      go_wp2
      go_ret
      exact ⟨_, _, rfl, h1, HP.out, f1⟩
end Go.Proofs.Ythabklgeopdlhaa
