/-
  Law package 1: what is written is read (BitsBack): the walk.
-/
import Derived.Test.YtadpbeofeocfiaaRef1
namespace Go.Proofs.Ytadpbeofeocfiaa
open Go.RowKit

/-- A script of operations that came in: element i lies in three cells. -/
def IsOps (w : World) (a : Option Addr) (len : Nat) (K N V : Nat → Int) : Prop :=
  len = 0 ∨ ∃ b off, a = some ⟨b, off, none⟩ ∧ len ≤ maxLen ∧ ∀ i, i < len →
    w.cell? ⟨b, off + i * 3, none⟩ = some (.int .i64 (K i)) ∧ w.cell? ⟨b, off + i * 3 + 1, none⟩ = some (.int .i64 (N i)) ∧ w.cell? ⟨b, off + i * 3 + 2, none⟩ = some (.int .u64 (V i)) ∧
    -9223372036854775808 ≤ K i ∧ K i ≤ 9223372036854775807 ∧ -9223372036854775808 ≤ N i ∧ N i ≤ 9223372036854775807 ∧ 0 ≤ V i ∧ V i < 18446744073709551616

/-- How many bits operation i writes. -/
def wid (N : Nat → Int) (i : Nat) : Nat := (max 0 (min ((N i).tmod 65) 64)).toNat
/-- The bits behind k operations. -/
def bb (K N V : Nat → Int) : Nat → List Bool
  | 0 => []
  | k + 1 => if k < 60 then
      (if (K k).tmod 2 = 0 then bb K N V k ++ bitsOf (V k).toNat (wid N k) ++ List.replicate (gap (bb K N V k ++ bitsOf (V k).toNat (wid N k)).length) false else bb K N V k ++ bitsOf (V k).toNat (wid N k))
    else bb K N V k

theorem wid_le (N : Nat → Int) (i : Nat) : wid N i ≤ 64 := by unfold wid; omega
theorem bb_length (K N V : Nat → Int) (k : Nat) : (bb K N V k).length ≤ 71 * min k 60 := by
  induction k with
  | zero => simp [bb]
  | succ k ih =>
    rw [bb]
    have h1 := wid_le N k
    have h2 := gap_le (bb K N V k ++ bitsOf (V k).toNat (wid N k)).length
    split
    · split
      · simp only [List.length_append, bitsOf_length, List.length_replicate] at *; omega
      · simp only [List.length_append, bitsOf_length] at *; omega
    · omega

theorem bb_even (K N V : Nat → Int) (k : Nat) (h : k < 60) (hK : (K k).tmod 2 = 0) : bb K N V (k + 1) = bb K N V k ++ bitsOf (V k).toNat (wid N k) ++ List.replicate (gap (bb K N V k ++ bitsOf (V k).toNat (wid N k)).length) false := by
  rw [bb, if_pos h, if_pos hK]
theorem bb_odd (K N V : Nat → Int) (k : Nat) (h : k < 60) (hK : ¬ (K k).tmod 2 = 0) : bb K N V (k + 1) = bb K N V k ++ bitsOf (V k).toNat (wid N k) := by
  rw [bb, if_pos h, if_neg hK]
theorem bb_far (K N V : Nat → Int) (k : Nat) (h : ¬ k < 60) : bb K N V (k + 1) = bb K N V k := by rw [bb, if_neg h]
theorem bb_stop (K N V : Nat → Int) (k : Nat) (h : 60 ≤ k) : bb K N V k = bb K N V 60 := by
  induction k with
  | zero => omega
  | succ k ih =>
    by_cases e : 60 ≤ k
    · rw [bb_far K N V k (by omega), ih e]
    · have : k + 1 = 60 := by omega
      rw [this]
/-- What is written at operation k stands there to the end. -/
theorem bb_prefix (K N V : Nat → Int) (k n : Nat) (hk : k < n) (h : k < 60) : ∃ t, bb K N V n = bb K N V k ++ bitsOf (V k).toNat (wid N k) ++ t := by
  have step : ∀ m, ∃ t, bb K N V (m + 1) = bb K N V m ++ t := by
    intro m
    by_cases h1 : m < 60
    · by_cases h2 : (K m).tmod 2 = 0
      · exact ⟨_, by rw [bb_even K N V m h1 h2, List.append_assoc]⟩
      · exact ⟨_, bb_odd K N V m h1 h2⟩
    · exact ⟨[], by rw [bb_far K N V m h1]; simp⟩
  induction n with
  | zero => omega
  | succ n ih =>
    by_cases e : k = n
    · subst e
      by_cases h2 : (K k).tmod 2 = 0
      · exact ⟨_, bb_even K N V k h h2⟩
      · exact ⟨[], by rw [bb_odd K N V k h h2]; simp⟩
    · obtain ⟨t, ht⟩ := ih (by omega)
      obtain ⟨t', ht'⟩ := step n
      exact ⟨t ++ t', by rw [ht', ht, List.append_assoc]⟩

/-- The bits of a part, read out of the whole. -/
theorem reads_part {zs : List Nat} {S x y t : List Bool} (h : Packs zs S) (hS : S = x ++ y ++ t) : readsOf (bitAt zs) x.length y.length = y := by
  refine List.ext_getElem (by simp [readsOf]) fun i h1 h2 => ?_
  simp only [readsOf, List.getElem_map, List.getElem_range]
  rw [h.bit, hS, List.append_assoc, List.getD, List.getElem?_append_right (by omega), List.getElem?_append_left (by omega), show x.length + i - x.length = i by omega, List.getElem?_eq_getElem h2]
  rfl

theorem get_back {zs : List Nat} (K N V : Nat → Int) (k n : Nat) (hk : k < n) (h : k < 60) (hP : Packs zs (bb K N V n)) :
    valOf (readsOf (bitAt zs) (bb K N V k).length (wid N k)) = (V k).toNat % 2 ^ wid N k ∧ past (bb K N V k).length (wid N k) (8 * zs.length) = 0 := by
  obtain ⟨t, ht⟩ := bb_prefix K N V k n hk h
  have h1 := reads_part hP ht
  rw [bitsOf_length] at h1
  refine ⟨by rw [h1, valOf_bitsOf], ?_⟩
  have h2 := hP.len
  have h3 : (bb K N V n).length = (bb K N V k).length + wid N k + t.length := by rw [ht]; simp [bitsOf_length]; omega
  unfold past
  omega

theorem and_mask (x t : Int) (h0 : 0 ≤ x) (h1 : x < 18446744073709551616) (t0 : 0 < t) (t1 : t < 64) :
    Go.bits .and .u64 x (IntKind.u64.wrap (IntKind.u64.wrap (2 ^ t.toNat) - 1)) = ((x.toNat % 2 ^ t.toNat : Nat) : Int) := by
  obtain ⟨y, rfl⟩ := Int.eq_ofNat_of_zero_le h0
  obtain ⟨n, rfl⟩ := Int.eq_ofNat_of_zero_le (show 0 ≤ t by omega)
  simp only [Int.toNat_natCast]
  have hn : n < 64 := by omega
  have hp : (2 : Nat) ^ n < 2 ^ 64 := Nat.pow_lt_pow_right (by decide) hn
  have hp0 : 0 < (2 : Nat) ^ n := Nat.pow_pos (by decide)
  have e : IntKind.u64.wrap (IntKind.u64.wrap (2 ^ n) - 1) = ((2 ^ n - 1 : Nat) : Int) := by
    have e1 : ((2 : Int) ^ n) = ((2 ^ n : Nat) : Int) := by simp
    rw [e1]
    generalize (2 : Nat) ^ n = q at hp hp0
    rw [IntKind.wrap_u64, IntKind.wrap_u64]
    omega
  rw [e, u64_and_nat y (2 ^ n - 1) (by omega) (by omega), Nat.and_two_pow_sub_one_eq_mod]
theorem and_nought (x : Int) (h0 : 0 ≤ x) (h1 : x < 18446744073709551616) : Go.bits .and .u64 x 0 = 0 := by
  obtain ⟨y, rfl⟩ := Int.eq_ofNat_of_zero_le h0
  have := u64_and_nat y 0 (by omega) (by decide)
  simpa using this

set_option maxHeartbeats 1000000 in
theorem back_walk (a : Option Addr) (len cap : Nat) (K N V : Nat → Int) (w : World) (h0 : IsOps w a len K N V) :
    Calls Try.prog 5 #[.slice a len cap] w fun e w' => e = .returned (.bool true) ∧ Below w.heap.size w w' := by
  have hlen : (len : Int) ≤ 9223372036854775807 := by
    rcases h0 with rfl | ⟨b, off, _, h, _⟩
    · simp
    · unfold maxLen at h; omega
  go_enter Try.func5, Try.ntmps5
  go_wp2_with fail
  refine (first_any _).mono ?_
  rintro e w1 ⟨rfl, F1⟩
  go_wp2_with fail
  have hW := Wr.new w1
  go_loopw [17] (fun i wr => ∃ k : Nat, k ≤ len ∧ i = .int .i64 (k : Int) ∧ WrGets w1.heap.size (.slice none 0 0) (w1.alloc (.cells #[.slice none 0 0, .int .i64 0] 27)) wr (bb K N V k)) (fun i _ => len - (intOf i).toNat)
  case atStart => exact ⟨0, Nat.zero_le _, rfl, _, _, hW, WrStep.refl _ _ _⟩
  case round =>
    obtain ⟨k, hk, rfl, v1, zs1, h1, st1⟩ := hrel
    obtain ⟨F1', O1⟩ := st1.outer (F1.alloc _) F1.size (by intro k hk; cases hk)
    by_cases hlt : k < len
    · rcases h0 with h00 | ⟨b, off, rfl, _, hall⟩
      · omega
      obtain ⟨c0, c1, c2, r1, r2, r3, r4, r5, r6⟩ := hall k hlt
      have hb : b < w.heap.size := cell_lt c0
      have c0' := (F1'.cell (p := ⟨b, off + k * 3, none⟩) hb (fun h => h)).trans c0
      have c1' := (F1'.cell (p := ⟨b, off + k * 3 + 1, none⟩) hb (fun h => h)).trans c1
      have c2' := (F1'.cell (p := ⟨b, off + k * 3 + 2, none⟩) hb (fun h => h)).trans c2
      have hki : (k : Int) < (len : Int) := by omega
      have hlk := bb_length K N V k
      have ha : WrStep w1.heap.size v1 v1 wr (wr.alloc (.cells #[.int .i64 (K k), .int .i64 (N k), .int .u64 (V k)] 30)) := ⟨(Fr.refl _ _).alloc _, .inl rfl⟩
      have h1a : Wr (wr.alloc (.cells #[.int .i64 (K k), .int .i64 (N k), .int .u64 (V k)] 30)) w1.heap.size v1 zs1 (bb K N V k) := h1.fr ((Fr.refl (fun _ => False) wr).alloc _) (fun h => h) (fun _ _ h => h)
      have hnb := Blk.new wr #[.int .i64 (K k), .int .i64 (N k), .int .u64 (V k)] 30
      have hp1 : w1.heap.size < wr.heap.size := h1.blk.lt
      have ho1 : ∀ j, v1.ownBlock = some j → j < wr.heap.size := fun j hj => (h1.own.lt j hj).2
      by_cases h60 : k < 60
      · have h60' : (k : Int) < 60 := by omega
        go_wp2_with fail
        refine (put_any _ _ v1 zs1 _ _ _ h1a (by omega) r5 r6).mono ?_
        rintro e w2 ⟨rfl, v2, zs2, h2, st2⟩
        have hnb2 := hnb.fr st2.fr (by rintro (e | e); omega; have := ho1 _ e; omega)
        have d0 := hnb2.cell 0
        simp at d0
        have hst := (st1.trans ha).trans st2
        have H2 : Wr w2 w1.heap.size v2 zs2 (bb K N V k ++ bitsOf (V k).toNat (wid N k)) := h2
        clear h2 st2 ha h1a hnb hnb2 c0' c1' c2' hW
        by_cases hK : (K k).tmod 2 = 0
        · have hKb : ((K k).tmod 2 == 0) = true := by simp [hK]
          have HB := bb_even K N V k h60 hK
          have HB' : Hid (bb K N V (k + 1) = bb K N V k ++ bitsOf (V k).toNat (wid N k) ++ List.replicate (gap (bb K N V k ++ bitsOf (V k).toNat (wid N k)).length) false) := HB
          clear HB hK
          go_wp2_with fail
          refine (align_any _ _ _ _ _ H2 (by simp [bitsOf_length]; have := wid_le N k; omega)).mono ?_
          rintro e w3 ⟨rfl, h3, st3⟩
          go_wp2
          go_roundw
          case rel => exact ⟨k + 1, by omega, by go_num, v2, zs2, by rw [HB'.out]; exact h3, hst.trans st3⟩
          case measure => simp [intOf]; omega
        · have hKb : ((K k).tmod 2 == 0) = false := by simp [hK]
          have HB := bb_odd K N V k h60 hK
          have HB' : Hid (bb K N V (k + 1) = bb K N V k ++ bitsOf (V k).toNat (wid N k)) := HB
          clear HB hK
          go_wp2
          go_roundw
          case rel => exact ⟨k + 1, by omega, by go_num, v2, zs2, by rw [HB'.out]; exact H2, hst⟩
          case measure => simp [intOf]; omega
      · have h60' : ¬ (k : Int) < 60 := by omega
        have HB := bb_far K N V k h60
        have HB' : Hid (bb K N V (k + 1) = bb K N V k) := HB
        clear HB
        go_wp2
        go_roundw
        case rel => exact ⟨k + 1, by omega, by go_num, v1, zs1, by rw [HB'.out]; exact h1a, st1.trans ha⟩
        case measure => simp [intOf]; omega
    · have hki : ¬ (k : Int) < (len : Int) := by omega
      obtain rfl : k = len := by omega
      have hlk := bb_length K N V k
      go_wp2_with fail
      refine (bytes_any _ _ _ _ _ h1 (by omega)).mono ?_
      rintro e w2 ⟨q2, rfl, b2, hq2, f2⟩
      have h2 := h1.fr f2 (fun h => h) (fun _ _ h => h)
      have hz1 : zs1.length ≤ 100000000000000 := by have := h1.packs.len; omega
      have HR : Hid (Reads w2 (.slice (some ⟨q2, 0, none⟩) zs1.length zs1.length) (rowOf zs1)) := ⟨_, _, by rw [rowOf_length], fun _ => ⟨_, rfl, fun j u hu => World.news_of_block b2 j u hu⟩⟩
      go_wp2_with fail
      refine (new_any _ _ zs1 HR.out hz1 h1.packs.small).mono ?_
      rintro e w3 ⟨p3, q3, rfl, r3, hp3, hq3, f3⟩
      have h3 := h2.fr f3 (fun h => h) (fun _ _ h => h)
      have F3 : Fr (fun _ => False) w w3 := (F1'.trans' f2).trans' f3
      have n1 : w1.heap.size < p3 := by have := h2.blk.lt; omega
      have n2 : ∀ j, v1.ownBlock = some j → j < p3 := by intro j hj; have := h2.own.lt j hj; omega
      have n3 : w.heap.size ≤ p3 := by have := F1.size; omega
      have hP := h1.packs
      clear st1 hW h1 h2 HR b2 f2 f3 hq2 hp3 hq3
      go_wp2_with fail
      go_loopw [43] (fun i wr => ∃ j : Nat, j ≤ k ∧ j ≤ 60 ∧ i = .int .i64 (j : Int) ∧ Rd wr p3 q3 zs1 (bb K N V j).length 0 ∧ Wr wr w1.heap.size v1 zs1 (bb K N V k) ∧ Fr (fun _ => False) w wr) (fun i _ => k - (intOf i).toNat)
      case atStart => exact ⟨0, Nat.zero_le _, Nat.zero_le _, rfl, r3, h3, F3⟩
      case round =>
        obtain ⟨j, hj, hj60, rfl, r4, h4, F4⟩ := hrel
        by_cases hlt2 : j < k
        · rcases h0 with h00 | ⟨b, off, rfl, _, hall⟩
          · omega
          obtain ⟨c0, c1, c2, g1, g2, g3, g4, g5, g6⟩ := hall j hlt2
          have hb : b < w.heap.size := cell_lt c0
          have c0' := (F4.cell (p := ⟨b, off + j * 3, none⟩) hb (fun h => h)).trans c0
          have c1' := (F4.cell (p := ⟨b, off + j * 3 + 1, none⟩) hb (fun h => h)).trans c1
          have c2' := (F4.cell (p := ⟨b, off + j * 3 + 2, none⟩) hb (fun h => h)).trans c2
          have hji : (j : Int) < (k : Int) := by omega
          by_cases h60 : j < 60
          · have h60' : (j : Int) < 60 := by omega
            have h60'' : ¬ (60 : Int) ≤ (j : Int) := by omega
            obtain ⟨t, ht⟩ : ∃ t, (N j).tmod 65 = t := ⟨_, rfl⟩
            have t1 : t ≤ 64 := by have := Int.tmod_lt_of_pos (N j) (show (0 : Int) < 65 by decide); omega
            have hw : wid N j = (max 0 (min t 64)).toNat := by unfold wid; rw [ht]
            have hG := get_back K N V j k hlt2 h60 hP
            have hlj := bb_length K N V j
            have hwl := wid_le N j
            obtain ⟨Y, hY, hYcase⟩ : ∃ Y : Int, (((V j).toNat % 2 ^ wid N j : Nat) : Int) = Y ∧ ((0 < t ∧ t < 64 ∧ Y = Go.bits .and .u64 (V j) (IntKind.u64.wrap (IntKind.u64.wrap (2 ^ t.toNat) - 1))) ∨ (t = 64 ∧ Y = V j) ∨ (t ≤ 0 ∧ Y = Go.bits .and .u64 (V j) 0)) := by
              refine ⟨_, rfl, ?_⟩
              by_cases tp : 0 < t
              · by_cases t64 : t < 64
                · exact .inl ⟨tp, t64, by rw [and_mask _ _ g5 g6 tp t64, hw]; congr 3; omega⟩
                · refine .inr (.inl ⟨by omega, ?_⟩)
                  have : wid N j = 64 := by omega
                  rw [this, Nat.mod_eq_of_lt (by omega)]; omega
              · refine .inr (.inr ⟨by omega, ?_⟩)
                have : wid N j = 0 := by omega
                rw [this, and_nought _ g5 g6]; simp [Nat.mod_one]
            have HG1 : Hid (((valOf (readsOf (bitAt zs1) (bb K N V j).length (max 0 (min t 64)).toNat) : Nat) : Int) = Y) := by
              show _ = _
              rw [← hw, hG.1, hY]
            have HG2 : Hid (past (bb K N V j).length (max 0 (min t 64)).toNat (8 * zs1.length) = 0) := by
              show _ = _
              rw [← hw, hG.2]
            have HW : Hid (wid N j = (max 0 (min t 64)).toNat) := hw
            have HT : Hid ((N j).tmod 65 = t) := ht
            have h4a : Wr (wr.alloc (.cells #[.int .i64 (K j), .int .i64 (N j), .int .u64 (V j)] 30)) w1.heap.size v1 zs1 (bb K N V k) := h4.fr ((Fr.refl (fun _ => False) wr).alloc _) (fun h => h) (fun _ _ h => h)
            have r4a : Rd (wr.alloc (.cells #[.int .i64 (K j), .int .i64 (N j), .int .u64 (V j)] 30)) p3 q3 zs1 (bb K N V j).length 0 := r4.fr ((Fr.refl (fun _ => False) wr).alloc _) (fun h => h) (fun h => h)
            have F4a := F4.alloc (.cells #[.int .i64 (K j), .int .i64 (N j), .int .u64 (V j)] 30)
            have hnb := Blk.new wr #[.int .i64 (K j), .int .i64 (N j), .int .u64 (V j)] 30
            have hne : ¬ wr.heap.size = p3 := by have := r4.blk.lt; omega
            clear hw hG hY h4 r4 hlk
            rcases hYcase with ⟨tp, t64, hYY⟩ | ⟨t64, hYY⟩ | ⟨t0, hYY⟩
            · have HY : Hid (Y = Go.bits .and .u64 (V j) (IntKind.u64.wrap (IntKind.u64.wrap (2 ^ t.toNat) - 1))) := hYY
              clear hYY
              go_wp2_with fail
              refine (rget_any _ p3 q3 _ _ _ t r4a (by omega) (by omega) (by omega)).mono ?_
              rintro e w5 ⟨rfl, r5', f5⟩
              rw [HG1.out, HY.out]
              have r5 : Rd w5 p3 q3 zs1 ((bb K N V j).length + wid N j) 0 := by rw [HG2.out, ← HW.out] at r5'; exact r5'
              have h5 := h4a.fr f5 (by omega) (fun i hi h => by have := n2 i hi; omega)
              have F5 := F4a.trans f5 (by intro i hi e; omega)
              have d0 := (hnb.fr f5 hne).cell 0
              simp at d0
              clear r5' h4a F4a r4a f5 hnb HG1 HG2 HY
              by_cases hK : (K j).tmod 2 = 0
              · have hKb : ((K j).tmod 2 == 0) = true := by simp [hK]
                have HB : Hid ((bb K N V (j + 1)).length = (bb K N V j).length + wid N j + gap ((bb K N V j).length + wid N j)) := by
                  show _ = _
                  rw [bb_even K N V j h60 hK]; simp [bitsOf_length]; omega
                clear hK
                go_wp2_with fail
                refine (ralign_any _ p3 q3 _ _ _ r5 (by omega)).mono ?_
                rintro e w6 ⟨rfl, r6', f6⟩
                have h6 := h5.fr f6 (by omega) (fun i hi h => by have := n2 i hi; omega)
                have F6 := F5.trans f6 (by intro i hi e; omega)
                go_wp2
                go_roundw
                case rel => exact ⟨j + 1, by omega, by omega, by go_num, by rw [HB.out]; exact r6', h6, F6⟩
                case measure => simp [intOf]; omega
              · have hKb : ((K j).tmod 2 == 0) = false := by simp [hK]
                have HB : Hid ((bb K N V (j + 1)).length = (bb K N V j).length + wid N j) := by
                  show _ = _
                  rw [bb_odd K N V j h60 hK]; simp [bitsOf_length]
                clear hK
                go_wp2
                go_roundw
                case rel => exact ⟨j + 1, by omega, by omega, by go_num, by rw [HB.out]; exact r5, h5, F5⟩
                case measure => simp [intOf]; omega
            · have HY : Hid (Y = V j) := hYY
              have t0 : 0 < t := by omega
              have t1 : ¬ t < 64 := by omega
              have HT64 : Hid (t = 64) := t64
              clear hYY t64
              go_wp2_with fail
              refine (rget_any _ p3 q3 _ _ _ t r4a (by omega) (by omega) (by omega)).mono ?_
              rintro e w5 ⟨rfl, r5', f5⟩
              rw [HG1.out, HY.out]
              have r5 : Rd w5 p3 q3 zs1 ((bb K N V j).length + wid N j) 0 := by rw [HG2.out, ← HW.out] at r5'; exact r5'
              have h5 := h4a.fr f5 (by omega) (fun i hi h => by have := n2 i hi; omega)
              have F5 := F4a.trans f5 (by intro i hi e; omega)
              have d0 := (hnb.fr f5 hne).cell 0
              simp at d0
              clear r5' h4a F4a r4a f5 hnb HG1 HG2 HY
              by_cases hK : (K j).tmod 2 = 0
              · have hKb : ((K j).tmod 2 == 0) = true := by simp [hK]
                have HB : Hid ((bb K N V (j + 1)).length = (bb K N V j).length + wid N j + gap ((bb K N V j).length + wid N j)) := by
                  show _ = _
                  rw [bb_even K N V j h60 hK]; simp [bitsOf_length]; omega
                clear hK
                go_wp2_with fail
                refine (ralign_any _ p3 q3 _ _ _ r5 (by omega)).mono ?_
                rintro e w6 ⟨rfl, r6', f6⟩
                have h6 := h5.fr f6 (by omega) (fun i hi h => by have := n2 i hi; omega)
                have F6 := F5.trans f6 (by intro i hi e; omega)
                go_wp2
                go_roundw
                case rel => exact ⟨j + 1, by omega, by omega, by go_num, by rw [HB.out]; exact r6', h6, F6⟩
                case measure => simp [intOf]; omega
              · have hKb : ((K j).tmod 2 == 0) = false := by simp [hK]
                have HB : Hid ((bb K N V (j + 1)).length = (bb K N V j).length + wid N j) := by
                  show _ = _
                  rw [bb_odd K N V j h60 hK]; simp [bitsOf_length]
                clear hK
                go_wp2
                go_roundw
                case rel => exact ⟨j + 1, by omega, by omega, by go_num, by rw [HB.out]; exact r5, h5, F5⟩
                case measure => simp [intOf]; omega
            · have HY : Hid (Y = Go.bits .and .u64 (V j) 0) := hYY
              clear hYY
              go_wp2_with fail
              refine (rget_any _ p3 q3 _ _ _ t r4a (by omega) (by omega) (by omega)).mono ?_
              rintro e w5 ⟨rfl, r5', f5⟩
              rw [HG1.out, HY.out]
              have r5 : Rd w5 p3 q3 zs1 ((bb K N V j).length + wid N j) 0 := by rw [HG2.out, ← HW.out] at r5'; exact r5'
              have h5 := h4a.fr f5 (by omega) (fun i hi h => by have := n2 i hi; omega)
              have F5 := F4a.trans f5 (by intro i hi e; omega)
              have d0 := (hnb.fr f5 hne).cell 0
              simp at d0
              clear r5' h4a F4a r4a f5 hnb HG1 HG2 HY
              by_cases hK : (K j).tmod 2 = 0
              · have hKb : ((K j).tmod 2 == 0) = true := by simp [hK]
                have HB : Hid ((bb K N V (j + 1)).length = (bb K N V j).length + wid N j + gap ((bb K N V j).length + wid N j)) := by
                  show _ = _
                  rw [bb_even K N V j h60 hK]; simp [bitsOf_length]; omega
                clear hK
                go_wp2_with fail
                refine (ralign_any _ p3 q3 _ _ _ r5 (by omega)).mono ?_
                rintro e w6 ⟨rfl, r6', f6⟩
                have h6 := h5.fr f6 (by omega) (fun i hi h => by have := n2 i hi; omega)
                have F6 := F5.trans f6 (by intro i hi e; omega)
                go_wp2
                go_roundw
                case rel => exact ⟨j + 1, by omega, by omega, by go_num, by rw [HB.out]; exact r6', h6, F6⟩
                case measure => simp [intOf]; omega
              · have hKb : ((K j).tmod 2 == 0) = false := by simp [hK]
                have HB : Hid ((bb K N V (j + 1)).length = (bb K N V j).length + wid N j) := by
                  show _ = _
                  rw [bb_odd K N V j h60 hK]; simp [bitsOf_length]
                clear hK
                go_wp2
                go_roundw
                case rel => exact ⟨j + 1, by omega, by omega, by go_num, by rw [HB.out]; exact r5, h5, F5⟩
                case measure => simp [intOf]; omega
          · obtain rfl : j = 60 := by omega
            have hE : (((bb K N V k).length : Nat) : Int) = ((bb K N V 60).length : Int) := by rw [bb_stop K N V k (by omega)]
            have hLf : ((8 * zs1.length - (bb K N V 60).length : Nat) : Int) < 8 := by have := hP.len; omega
            have hb60 := bb_length K N V 60
            have h60c : (60 : Int) < (k : Int) := by omega
            have r4 : Rd (wr.alloc (.cells #[.int .i64 (K 60), .int .i64 (N 60), .int .u64 (V 60)] 30)) p3 q3 zs1 (bb K N V 60).length 0 := r4.fr ((Fr.refl (fun _ => False) wr).alloc _) (fun h => h) (fun h => h)
            have h4 : Wr (wr.alloc (.cells #[.int .i64 (K 60), .int .i64 (N 60), .int .u64 (V 60)] 30)) w1.heap.size v1 zs1 (bb K N V k) := h4.fr ((Fr.refl (fun _ => False) wr).alloc _) (fun h => h) (fun _ _ h => h)
            have F4 := F4.alloc (.cells #[.int .i64 (K 60), .int .i64 (N 60), .int .u64 (V 60)] 30)
            have HE : Hid ((((bb K N V k).length : Nat) : Int) = ((bb K N V 60).length : Int)) := hE
            clear hE
            go_wp2_with fail
            refine (rat_any _ _ _ _ _ _ r4).mono ?_
            rintro e w5 ⟨rfl, rfl⟩
            go_wp2_with fail
            refine (len_any _ _ _ _ _ h4).mono ?_
            rintro e w6 ⟨rfl, rfl⟩
            rw [HE.out]
            go_wp2_with fail
            refine (rover_any _ _ _ _ _ _ r4).mono ?_
            rintro e w7 ⟨rfl, rfl⟩
            go_wp2_with fail
            refine (rleft_any _ _ _ _ _ _ r4 hz1 (by omega)).mono ?_
            rintro e w8 ⟨rfl, n8, rfl⟩
            go_wp2
            go_ret
            exact ⟨rfl, (F4.drewN _).below (Nat.le_refl _) (fun _ _ h => h)⟩
        · obtain rfl : j = k := by omega
          have hLf : ((8 * zs1.length - (bb K N V j).length : Nat) : Int) < 8 := by have := hP.len; omega
          have hb60 := bb_length K N V j
          go_wp2_with fail
          refine (rat_any _ _ _ _ _ _ r4).mono ?_
          rintro e w5 ⟨rfl, rfl⟩
          go_wp2_with fail
          refine (len_any _ _ _ _ _ h4).mono ?_
          rintro e w6 ⟨rfl, rfl⟩
          go_wp2_with fail
          refine (rover_any _ _ _ _ _ _ r4).mono ?_
          rintro e w7 ⟨rfl, rfl⟩
          go_wp2_with fail
          refine (rleft_any _ _ _ _ _ _ r4 hz1 (by omega)).mono ?_
          rintro e w8 ⟨rfl, n8, rfl⟩
          go_wp2
          go_ret
          exact ⟨rfl, (F4.drewN _).below (Nat.le_refl _) (fun _ _ h => h)⟩
end Go.Proofs.Ytadpbeofeocfiaa
