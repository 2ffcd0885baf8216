/-
  Law package 1: the bytes of any bits that are written (BitsWrite): the walk.
-/
import Derived.Test.YtadpbeofeocfiaaBack1
import Derived.Test.YtadpbeofeocfiaaRef1R
namespace Go.Proofs.Ytadpbeofeocfiaa
open Go.RowKit

/-- The bits behind k operations. -/
def wb (K N V : Nat → Int) : Nat → List Bool
  | 0 => []
  | k + 1 =>
    if K k % 4 = 0 then wb K N V k ++ [decide (N k % 2 = 1)]
    else if K k % 4 = 1 then wb K N V k ++ bitsOf (V k).toNat (max 0 (min (N k) 64)).toNat
    else if K k % 4 = 2 then wb K N V k ++ List.replicate (gap (wb K N V k).length) false
    else wb K N V k

theorem wb_length (K N V : Nat → Int) (k : Nat) : (wb K N V k).length ≤ 64 * k := by
  induction k with
  | zero => simp [wb]
  | succ k ih =>
    rw [wb]
    have h2 := gap_le (wb K N V k).length
    split
    · simp; omega
    · split
      · simp [bitsOf_length]; omega
      · split
        · simp; omega
        · omega

theorem Wr.drew {w : World} {p : Nat} {v : Value} {zs : List Nat} {s : List Bool} (h : Wr w p v zs s) : Wr w.drew p v zs s :=
  h.fr (S := fun _ => False) (Fr.refl _ w).drew (fun h => h) (fun _ _ h => h)

theorem kind_eq (x : Int) : (IntKind.u64.wrap x).tmod 4 = x % 4 := by
  rw [IntKind.wrap_u64, Int.tmod_eq_emod_of_nonneg (Int.emod_nonneg _ (by decide))]
  omega
theorem odd_eq (n : Int) : Go.bits .and .i64 n 1 = n % 2 := by
  have h1' : (BitVec.ofInt 64 1).toNat = 2 ^ 1 - 1 := by decide
  have key : (BitVec.ofInt 64 n &&& BitVec.ofInt 64 1).toNat = (n % ((2 ^ 64 : Nat) : Int)).toNat % 2 ^ 1 := by
    rw [BitVec.toNat_and, BitVec.toNat_ofInt, h1', Nat.and_two_pow_sub_one_eq_mod]
  show IntKind.i64.wrap ((BitVec.ofInt 64 n &&& BitVec.ofInt 64 1).toNat : Nat) = n % 2
  rw [key, IntKind.wrap_i64]
  omega
theorem wb0 (K N V : Nat → Int) (k : Nat) (h : K k % 4 = 0) : wb K N V (k + 1) = wb K N V k ++ [decide (N k % 2 = 1)] := by rw [wb, if_pos h]
theorem wb1 (K N V : Nat → Int) (k : Nat) (h : K k % 4 = 1) : wb K N V (k + 1) = wb K N V k ++ bitsOf (V k).toNat (max 0 (min (N k) 64)).toNat := by rw [wb, if_neg (by omega), if_pos h]
theorem wb2 (K N V : Nat → Int) (k : Nat) (h : K k % 4 = 2) : wb K N V (k + 1) = wb K N V k ++ List.replicate (gap (wb K N V k).length) false := by rw [wb, if_neg (by omega), if_neg (by omega), if_pos h]
theorem wb3 (K N V : Nat → Int) (k : Nat) (h : K k % 4 = 3) : wb K N V (k + 1) = wb K N V k := by rw [wb, if_neg (by omega), if_neg (by omega), if_neg (by omega)]
theorem one_bit (n : Int) : bitsOf (n % 2).toNat (max 0 (min (1 : Int) 64)).toNat = [decide (n % 2 = 1)] := by
  have h : n % 2 = 0 ∨ n % 2 = 1 := by omega
  rcases h with h | h <;> rw [h] <;> decide

set_option maxHeartbeats 4000000 in
set_option maxRecDepth 100000 in
theorem write_walk (a : Option Addr) (len cap : Nat) (K N V : Nat → Int) (w : World) (h0 : IsOps w a len K N V) :
    Calls Try.prog 3 #[.slice a len cap] w fun e w' => e = .returned (.bool true) ∧ Below w.heap.size w w' := by
  have hlen : (len : Int) ≤ 9223372036854775807 := by
    rcases h0 with rfl | ⟨b, off, _, h, _⟩
    · simp
    · unfold maxLen at h; omega
  go_enter Try.func3, Try.ntmps3
  go_wp2_with fail
  refine (first_any _).mono ?_
  rintro e w1 ⟨rfl, F1⟩
  go_wp2_with fail
  have hW := Wr.new w1
  go_loopw [5, 16] (fun s i wr => ∃ k : Nat, k ≤ len ∧ k ≤ 60 ∧ i = .int .i64 (k : Int) ∧ s = .string (strB (wb K N V k)) ∧ WrGets w1.heap.size (.slice none 0 0) (w1.alloc (.cells #[.slice none 0 0, .int .i64 0] 27)) wr (wb K N V k)) (fun _ i _ => len - (intOf i).toNat)
  case atStart => exact ⟨0, Nat.zero_le _, Nat.zero_le _, rfl, rfl, _, _, hW, WrStep.refl _ _ _⟩
  case round =>
    obtain ⟨k, hk, hk60, rfl, rfl, v1, zs1, h1, st1⟩ := hrel
    obtain ⟨F1', O1⟩ := st1.outer (F1.alloc _) F1.size (by intro k hk; cases hk)
    have hlk := wb_length K N V k
    by_cases hlt : k < len
    · rcases h0 with h00 | ⟨b, off, rfl, _, hall⟩
      · omega
      obtain ⟨c0, c1, c2, r1, r2, r3, r4, r5, r6⟩ := hall k hlt
      have hb : b < w.heap.size := cell_lt c0
      have c0' := (F1'.cell (p := ⟨b, off + k * 3, none⟩) hb (fun h => h)).trans c0
      have c1' := (F1'.cell (p := ⟨b, off + k * 3 + 1, none⟩) hb (fun h => h)).trans c1
      have c2' := (F1'.cell (p := ⟨b, off + k * 3 + 2, none⟩) hb (fun h => h)).trans c2
      have hki : (k : Int) < (len : Int) := by omega
      by_cases h60 : k < 60
      · have h60' : ¬ (60 : Int) ≤ (k : Int) := by omega
        have hs1 : (strB (wb K N V k)).size ≤ 10000 := by rw [strB_size]; omega
        have ha : WrStep w1.heap.size v1 v1 wr (wr.alloc (.cells #[.int .i64 (K k), .int .i64 (N k), .int .u64 (V k)] 30)) := ⟨(Fr.refl _ _).alloc _, .inl rfl⟩
        have h1a : Wr (wr.alloc (.cells #[.int .i64 (K k), .int .i64 (N k), .int .u64 (V k)] 30)) w1.heap.size v1 zs1 (wb K N V k) := h1.fr ((Fr.refl (fun _ => False) wr).alloc _) (fun h => h) (fun _ _ h => h)
        have hnb := Blk.new wr #[.int .i64 (K k), .int .i64 (N k), .int .u64 (V k)] 30
        have hp1 : w1.heap.size < wr.heap.size := h1.blk.lt
        have ho1 : ∀ j, v1.ownBlock = some j → j < wr.heap.size := fun j hj => (h1.own.lt j hj).2
        have hkd := kind_eq (K k)
        have h4 : K k % 4 = 0 ∨ K k % 4 = 1 ∨ K k % 4 = 2 ∨ K k % 4 = 3 := by omega
        rcases h4 with h4 | h4 | h4 | h4
        · have HW : Hid (wb K N V (k + 1) = wb K N V k ++ [decide (N k % 2 = 1)]) := wb0 K N V k h4
          have ho := odd_eq (N k)
          rw [h4] at hkd
          have HOB : Hid (bitsOf (N k % 2).toNat (max 0 (min (1 : Int) 64)).toNat = [decide (N k % 2 = 1)]) := one_bit (N k)
          have HOC : Hid ((N k % 2 == 1) = decide (N k % 2 = 1)) := by
            show _ = _
            rw [Bool.eq_iff_iff]; simp
          have hn0 : 0 ≤ N k % 2 := by omega
          have hn1 : N k % 2 < 2 := by omega
          clear h4
          go_wp2_with fail
          rw [HOC.out]
          refine (bit_any _ _ v1 zs1 _ _ h1a (by omega)).mono ?_
          rintro e w2 ⟨rfl, v2, zs2, h2, st2⟩
          have hnb2 := hnb.fr st2.fr (by rintro (e | e); omega; have := ho1 _ e; omega)
          have d1 := hnb2.cell 1
          simp at d1
          have hst := (st1.trans ha).trans st2
          have H2 : Wr w2 w1.heap.size v2 zs2 (wb K N V (k + 1)) := by rw [HW.out]; exact h2
          clear h2 st2 ha h1a hnb c0' c1' c2' hW
          go_wp2_with fail
          refine (refBits_any _ _ _ (by omega) (by omega)).mono ?_
          rintro e w3 ⟨rfl, rfl⟩
          rw [HOB.out]
          have hs2 : (strB [decide (N k % 2 = 1)]).size ≤ 64 := by rw [strB_size]; simp
          have HS : Hid (strB (wb K N V k) ++ strB [decide (N k % 2 = 1)] = strB (wb K N V (k + 1))) := by
            show _ = _
            rw [strB_append, HW.out]
          have d1 := hnb2.cell 1
          have d2 := hnb2.cell 2
          simp at d1 d2
          go_wp2_with fail
          rw [HS.out]
          refine (put_nil _ _ _ r5 r6).mono ?_
          rintro e w5 ⟨rfl, rfl⟩
          go_wp2_with fail
          refine (align_nil _).mono ?_
          rintro e w6 ⟨rfl, rfl⟩
          go_wp2_with fail
          refine (len_any _ _ _ _ _ H2).mono ?_
          rintro e w7 ⟨rfl, rfl⟩
          have hs3 := strB_size (wb K N V (k + 1))
          have hs4 : (wb K N V (k + 1)).length ≤ 10000 := by have := wb_length K N V (k + 1); omega
          have hs5 : ((wb K N V (k + 1)).length : Int) = ((strB (wb K N V (k + 1))).size : Int) := by rw [hs3]
          rw [hs5]
          have hs6 : (strB (wb K N V (k + 1))).size ≤ 10000 := by omega
          clear hs3 hs4 hs5 r1 r2 r3 r4 r5 r6 d1 d2
          go_wp2
          go_roundw
          case rel => exact ⟨k + 1, by omega, by omega, by go_num, rfl, _, _, H2, hst⟩
          case measure => simp [intOf]; omega
        · have HW : Hid (wb K N V (k + 1) = wb K N V k ++ bitsOf (V k).toNat (max 0 (min (N k) 64)).toNat) := wb1 K N V k h4
          rw [h4] at hkd
          clear h4
          go_wp2_with fail
          refine (put_any _ _ v1 zs1 _ _ _ h1a (by omega) r5 r6).mono ?_
          rintro e w2 ⟨rfl, v2, zs2, h2, st2⟩
          have hnb2 := hnb.fr st2.fr (by rintro (e | e); omega; have := ho1 _ e; omega)
          have d1 := hnb2.cell 1
          have d2 := hnb2.cell 2
          simp at d1 d2
          have hst := (st1.trans ha).trans st2
          have H2 : Wr w2 w1.heap.size v2 zs2 (wb K N V (k + 1)) := by rw [HW.out]; exact h2
          clear h2 st2 ha h1a hnb c0' c1' c2' hW
          go_wp2_with fail
          refine (refBits_any _ _ _ r5 r6).mono ?_
          rintro e w3 ⟨rfl, rfl⟩
          have hs2 : (strB (bitsOf (V k).toNat (max 0 (min (N k) 64)).toNat)).size ≤ 64 := by rw [strB_size, bitsOf_length]; omega
          have HS : Hid (strB (wb K N V k) ++ strB (bitsOf (V k).toNat (max 0 (min (N k) 64)).toNat) = strB (wb K N V (k + 1))) := by
            show _ = _
            rw [strB_append, HW.out]
          obtain ⟨X, hX⟩ : ∃ X, X = strB (bitsOf (V k).toNat (max 0 (min (N k) 64)).toNat) := ⟨_, rfl⟩
          rw [← hX] at HS hs2 ⊢
          clear hX
          have d1 := hnb2.cell 1
          have d2 := hnb2.cell 2
          simp at d1 d2
          go_wp2_with fail
          rw [HS.out]
          refine (put_nil _ _ _ r5 r6).mono ?_
          rintro e w5 ⟨rfl, rfl⟩
          go_wp2_with fail
          refine (align_nil _).mono ?_
          rintro e w6 ⟨rfl, rfl⟩
          go_wp2_with fail
          refine (len_any _ _ _ _ _ H2).mono ?_
          rintro e w7 ⟨rfl, rfl⟩
          have hs3 := strB_size (wb K N V (k + 1))
          have hs4 : (wb K N V (k + 1)).length ≤ 10000 := by have := wb_length K N V (k + 1); omega
          have hs5 : ((wb K N V (k + 1)).length : Int) = ((strB (wb K N V (k + 1))).size : Int) := by rw [hs3]
          rw [hs5]
          have hs6 : (strB (wb K N V (k + 1))).size ≤ 10000 := by omega
          clear hs3 hs4 hs5 r1 r2 r3 r4 r5 r6 d1 d2
          go_wp2
          go_roundw
          case rel => exact ⟨k + 1, by omega, by omega, by go_num, rfl, _, _, H2, hst⟩
          case measure => simp [intOf]; omega
        · have HW : Hid (wb K N V (k + 1) = wb K N V k ++ List.replicate (gap (wb K N V k).length) false) := wb2 K N V k h4
          rw [h4] at hkd
          clear h4
          go_wp2_with fail
          refine (align_any _ _ v1 zs1 _ h1a (by omega)).mono ?_
          rintro e w2 ⟨rfl, h2, st2⟩
          have hnb2 := hnb.fr st2.fr (by rintro (e | e); omega; have := ho1 _ e; omega)
          have hst := (st1.trans ha).trans st2
          have H2 : Wr w2 w1.heap.size v1 zs1 (wb K N V (k + 1)) := by rw [HW.out]; exact h2
          clear h2 st2 ha h1a hnb c0' c1' c2' hW
          go_wp2_with fail
          refine (refPad_any _ _ (by omega)).mono ?_
          rintro e w3 ⟨rfl, rfl⟩
          rw [← HW.out]
          have d1 := hnb2.cell 1
          have d2 := hnb2.cell 2
          simp at d1 d2
          go_wp2_with fail
          refine (put_nil _ _ _ r5 r6).mono ?_
          rintro e w5 ⟨rfl, rfl⟩
          go_wp2_with fail
          refine (align_nil _).mono ?_
          rintro e w6 ⟨rfl, rfl⟩
          go_wp2_with fail
          refine (len_any _ _ _ _ _ H2).mono ?_
          rintro e w7 ⟨rfl, rfl⟩
          have hs3 := strB_size (wb K N V (k + 1))
          have hs4 : (wb K N V (k + 1)).length ≤ 10000 := by have := wb_length K N V (k + 1); omega
          have hs5 : ((wb K N V (k + 1)).length : Int) = ((strB (wb K N V (k + 1))).size : Int) := by rw [hs3]
          rw [hs5]
          have hs6 : (strB (wb K N V (k + 1))).size ≤ 10000 := by omega
          clear hs3 hs4 hs5 r1 r2 r3 r4 r5 r6 d1 d2
          go_wp2
          go_roundw
          case rel => exact ⟨k + 1, by omega, by omega, by go_num, rfl, _, _, H2, hst⟩
          case measure => simp [intOf]; omega
        · have HW : Hid (wb K N V (k + 1) = wb K N V k) := wb3 K N V k h4
          rw [h4] at hkd
          clear h4
          go_wp2_with fail
          refine (bytes_any _ _ v1 zs1 _ h1a (by omega)).mono ?_
          rintro e w2 ⟨q2, rfl, b2, hq2, f2⟩
          have hnb2 := hnb.fr f2 (fun h => h)
          have h2 := h1a.fr f2 (fun h => h) (fun _ _ h => h)
          have hst2 : WrStep w1.heap.size v1 v1 wr w2 := ⟨ha.fr.trans (S' := fun _ => False) f2 (fun _ _ h => h.elim), .inl rfl⟩
          have hq3 : wr.heap.size < q2 := by simp at hq2; omega
          have hzl := h1.packs.len
          have hz1 : (zs1.length : Int) ≤ 1000000 := by omega
          clear ha h1a hnb c0' c1' c2' hW hzl
          go_wp2_with fail
          go_loopw [9, 31] (fun _ i wx => ∃ j : Nat, j ≤ zs1.length ∧ i = .int .i64 (j : Int) ∧ (∃ cs : List Int, cs.length = zs1.length ∧ Blk wx q2 (cs.map (Value.int .u8)).toArray 5) ∧ Fr (fun b => b = q2) w2 wx) (fun _ i _ => zs1.length - (intOf i).toNat)
          case atStart => exact ⟨0, Nat.zero_le _, rfl, ⟨zs1.map (fun (z : Nat) => (z : Int)), by simp, by simpa [rowOf, Function.comp_def] using b2⟩, Fr.refl _ _⟩
          case round =>
            obtain ⟨j, hj, rfl, ⟨cs, hcs, bx⟩, fx⟩ := hrel
            by_cases hjl : j < zs1.length
            · have hc := bx.cell j
              have hcv : wr.cell? ⟨q2, j, none⟩ = some (.int .u8 (cs.getD j 0)) := by
                rw [hc]; simp [List.getD, show j < cs.length by omega]
              have hfz := bx.thaw
              have hji : (j : Int) < (zs1.length : Int) := by omega
              obtain ⟨c, hcc⟩ : ∃ c, c = cs.getD j 0 := ⟨_, rfl⟩
              rw [← hcc] at hcv
              clear hc hcc
              go_wp2
              go_roundw
              case rel =>
                refine ⟨j + 1, by omega, by go_num, ⟨cs.set j ((c + 1) % 256), by simpa using hcs, ?_⟩, fx.setCell (fun _ => rfl) _⟩
                simpa [List.map_set] using bx.set j (.int .u8 ((c + 1) % 256))
              case measure => simp [intOf]; omega
            · have hji : ¬ (j : Int) < (zs1.length : Int) := by omega
              have hnb2 := hnb2.fr fx (by omega)
              have H2 : Wr wr w1.heap.size v1 zs1 (wb K N V (k + 1)) := by
                rw [HW.out]
                exact h2.fr fx (by omega) (fun i hi e => by have := ho1 i hi; omega)
              have hst : WrStep w1.heap.size (.slice none 0 0) v1 (w1.alloc (.cells #[.slice none 0 0, .int .i64 0] 27)) wr := st1.trans ⟨hst2.fr.trans fx (fun i hi e => by omega), .inl rfl⟩
              rw [← HW.out]
              have d1 := hnb2.cell 1
              have d2 := hnb2.cell 2
              simp at d1 d2
              go_wp2_with fail
              refine (put_nil _ _ _ r5 r6).mono ?_
              rintro e w5 ⟨rfl, rfl⟩
              go_wp2_with fail
              refine (align_nil _).mono ?_
              rintro e w6 ⟨rfl, rfl⟩
              go_wp2_with fail
              refine (len_any _ _ _ _ _ H2).mono ?_
              rintro e w7 ⟨rfl, rfl⟩
              have hs3 := strB_size (wb K N V (k + 1))
              have hs4 : (wb K N V (k + 1)).length ≤ 10000 := by have := wb_length K N V (k + 1); omega
              have hs5 : ((wb K N V (k + 1)).length : Int) = ((strB (wb K N V (k + 1))).size : Int) := by rw [hs3]
              rw [hs5]
              have hs6 : (strB (wb K N V (k + 1))).size ≤ 10000 := by omega
              clear hs3 hs4 hs5 r1 r2 r3 r4 r5 r6 d1 d2
              go_wp2
              go_roundw
              case rel => exact ⟨k + 1, by omega, by omega, by go_num, rfl, _, _, H2, hst⟩
              case measure => simp [intOf]; omega
      · obtain rfl : k = 60 := by omega
        have h1 : Wr (wr.alloc (.cells #[.int .i64 (K 60), .int .i64 (N 60), .int .u64 (V 60)] 30)) w1.heap.size v1 zs1 (wb K N V 60) := h1.fr ((Fr.refl (fun _ => False) wr).alloc _) (fun h => h) (fun _ _ h => h)
        have F1' := F1'.alloc (.cells #[.int .i64 (K 60), .int .i64 (N 60), .int .u64 (V 60)] 30)
        go_wp2_with fail
        go_region_with (first | (go_at_call_of 12 (Value.pointer none); refine (bytes_nil _).mono ?_; rintro e w9 ⟨rfl, rfl⟩) | (go_at_call 12; refine (bytes_any _ _ _ _ _ (by exact h1.drew) (by omega)).mono ?_; rintro e w7 ⟨q7, rfl, b7, hq7, f7⟩; have hcv7 := conv_bytes w7 q7 zs1 zs1.length 5 b7) | (go_at_call 14; refine (refBytes_any _ _ (by omega)).mono ?_; rintro e w8 ⟨v8, zs8, rfl, o8, P8, f8⟩; obtain rfl := P8.unique h1.packs; have hcv8 := conv_owned w8 _ v8 zs8 o8; have hcv9 := conv_bytes w8 _ zs8 zs8.length 5 (b7.fr f8 (fun h => h))) | (go_at_call 13; refine (len_nil _).mono ?_; rintro e w9 ⟨rfl, rfl⟩))
        all_goals go_wp2
        all_goals go_ret
        all_goals exact ⟨rfl, ((F1'.drew.trans' f7).trans' f8).below (Nat.le_refl _) (fun _ _ h => h)⟩
    · obtain rfl : k = len := by omega
      have hki : ¬ (k : Int) < (k : Int) := by omega
      go_wp2_with fail
      go_region_with (first | (go_at_call_of 12 (Value.pointer none); refine (bytes_nil _).mono ?_; rintro e w9 ⟨rfl, rfl⟩) | (go_at_call 12; refine (bytes_any _ _ _ _ _ (by exact h1.drew) (by omega)).mono ?_; rintro e w7 ⟨q7, rfl, b7, hq7, f7⟩; have hcv7 := conv_bytes w7 q7 zs1 zs1.length 5 b7) | (go_at_call 14; refine (refBytes_any _ _ (by omega)).mono ?_; rintro e w8 ⟨v8, zs8, rfl, o8, P8, f8⟩; obtain rfl := P8.unique h1.packs; have hcv8 := conv_owned w8 _ v8 zs8 o8; have hcv9 := conv_bytes w8 _ zs8 zs8.length 5 (b7.fr f8 (fun h => h))) | (go_at_call 13; refine (len_nil _).mono ?_; rintro e w9 ⟨rfl, rfl⟩))
      all_goals go_wp2
      all_goals go_ret
      all_goals exact ⟨rfl, ((F1'.drew.trans' f7).trans' f8).below (Nat.le_refl _) (fun _ _ h => h)⟩
end Go.Proofs.Ytadpbeofeocfiaa
