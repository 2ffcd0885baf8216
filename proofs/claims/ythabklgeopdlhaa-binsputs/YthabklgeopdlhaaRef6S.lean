/-
  The document's own answers of layer 6 (package shingleref06), walked: the steps of a number.
-/
import Derived.Test.YthabklgeopdlhaaRef6
namespace Go.Proofs.Ythabklgeopdlhaa
open Go.RowKit

theorem Try.info_step6 : (Try.prog.info? 71).map (fun i => (i.zero, i.size, i.bytes)) = some (some (.agg #[.int .i64 0, .bool false]), 2, 16) := by kernel_rfl

/-- The steps of a number, by any set. -/
def stepsL (V : Nat → Int) (n : Nat) (D : Int) (z : Int) : List (Int × Bool) := if okN z && decide (0 < n) then numSteps (fol V n) D z.toNat else []

theorem half_more (v j : Nat) : (1 < (v + 1) / 2 ^ j) ↔ j < ndig v := by
  obtain ⟨h1, h2⟩ := ndig_bounds v
  constructor
  · intro h
    apply Classical.byContradiction
    intro hn
    have h3 : 2 ^ (ndig v + 1) ≤ 2 ^ (j + 1) := Nat.pow_le_pow_right (by omega) (by omega)
    have h4 : (v + 1) / 2 ^ j < 2 := (Nat.div_lt_iff_lt_mul (Nat.two_pow_pos _)).2 (by rw [Nat.pow_succ] at h3; omega)
    omega
  · intro h
    have h3 : 2 ^ (j + 1) ≤ 2 ^ ndig v := Nat.pow_le_pow_right (by omega) (by omega)
    have h4 : 2 ≤ (v + 1) / 2 ^ j := (Nat.le_div_iff_mul_le (Nat.two_pow_pos _)).2 (by rw [Nat.pow_succ] at h3; omega)
    omega

set_option maxHeartbeats 1000000 in
theorem rsteps_no (w : World) (a : Option Addr) (n cap : Nat) (D S : Int) (z : Int) (hm : (n : Int) ≤ 9223372036854775807) (hno : (okN z && decide (0 < n)) = false) :
    Calls Try.prog 11 #[.agg #[.slice a n cap, .int .i64 D, .int .i64 S], .int .i64 z] w fun e w' => e = .returned (.tuple #[.slice none 0 0, .bool false]) ∧ Fr (fun _ => False) w w' := by
  by_cases z0 : z < 0
  · go_enter Try.func11, Try.ntmps11
    go_wp2
    go_ret2
    exact ⟨rfl, (Fr.refl _ w).alloc _⟩
  · have z0d : decide (z < 0) = false := by simpa using z0
    by_cases z1 : 2199023255550 < z
    · go_enter Try.func11, Try.ntmps11
      go_wp2
      go_ret2
      exact ⟨rfl, (Fr.refl _ w).alloc _⟩
    · have z1d : decide (2199023255550 < z) = false := by simpa using z1
      have hn : n = 0 := by
        have : okN z = true := by unfold okN; rw [decide_eq_true_eq]; omega
        rw [this] at hno
        simp at hno
        omega
      subst hn
      go_enter Try.func11, Try.ntmps11
      go_wp2
      go_ret2
      exact ⟨rfl, (Fr.refl _ w).alloc _⟩

set_option maxRecDepth 100000 in
set_option maxHeartbeats 2000000 in
theorem rsteps_go (w : World) (a : Option Addr) (n cap : Nat) (V : Nat → Int) (b : Nat) (D S : Int) (z : Nat) (h : SetV w a n cap V b) (hn : 0 < n) (hz : z ≤ 2199023255550) :
    Calls Try.prog 11 #[.agg #[.slice a n cap, .int .i64 D, .int .i64 S], .int .i64 (z : Int)] w fun e w' => ∃ vs, e = .returned (.tuple #[vs, .bool true]) ∧ w'.ownsRow w.heap.size 71 2 vs (numSteps (fol V n) D z).length (bitRow (numSteps (fol V n) D z)) ∧ Fr (fun _ => False) w w' := by
  have hm : (n : Int) ≤ 9223372036854775807 := by have := h.le; have := h.most; unfold maxLen at *; omega
  have z0 : ¬ (z : Int) < 0 := by omega
  have z1 : ¬ 2199023255550 < (z : Int) := by omega
  have hn0 : ((n : Int) == 0) = false := by simp; omega
  obtain ⟨W, hW⟩ : ∃ W, W = w.alloc (.cells #[.slice a n cap, .int .i64 D, .int .i64 S] 24) := ⟨_, rfl⟩
  have F0 : Fr (fun _ => False) w W := by rw [hW]; exact (Fr.refl _ w).alloc _
  have s0 := h.quiet F0
  have B0 : Blk W w.heap.size #[.slice a n cap, .int .i64 D, .int .i64 S] 24 := by rw [hW]; exact Blk.new w _ _
  have k0 : W.cell? ⟨w.heap.size, 0, none⟩ = some (.slice a n cap) := by rw [B0.cell]; rfl
  have HW := hid hW
  have hk := ndig_le z hz
  obtain ⟨k, hkk⟩ : ∃ k, k = ndig z := ⟨_, rfl⟩
  rw [← hkk] at hk
  have HK := hid hkk
  have HH : Hid (∀ j, (1 < (z + 1) / 2 ^ j) ↔ j < k) := by show ∀ j, _; intro j; rw [hkk]; exact half_more z j
  clear hW hkk
  go_enter Try.func11, Try.ntmps11
  go_wp2
  go_loopw [6, 7] (fun c x wr => ∃ j : Nat, j ≤ k ∧ c = .int .i64 (j : Int) ∧ x = .int .i64 (((z + 1) / 2 ^ j : Nat) : Int) ∧ SameW wr W) (fun c _ _ => k - (intOf c).toNat)
  case atStart => exact ⟨0, Nat.zero_le _, rfl, by simp, HW.out.symm⟩
  case round =>
    obtain ⟨j, hj, rfl, rfl, hw⟩ := hrel
    obtain rfl : W = wr := Eq.symm hw
    have hjh := HH.out j
    have HN : Hid ((((z + 1) / 2 ^ j : Nat) : Int) / 2 = (((z + 1) / 2 ^ (j + 1) : Nat) : Int)) := by
      show _ = _
      rw [Nat.pow_succ, ← Nat.div_div_eq_div_mul]
      omega
    have hle : (z + 1) / 2 ^ j ≤ z + 1 := Nat.div_le_self _ _
    obtain ⟨q, hq⟩ : ∃ q, q = (z + 1) / 2 ^ j := ⟨_, rfl⟩
    rw [← hq] at hjh HN hle ⊢
    clear hq
    by_cases hlt : j < k
    · have hqi : (1 : Int) < (q : Int) := by have := hjh.2 hlt; omega
      clear hjh
      go_wp2
      go_roundw
      case rel => exact ⟨j + 1, by omega, by go_num, by rw [← HN.out], SameW.rfl⟩
      case measure => simp [intOf]; omega
    · have hqi : ¬ (1 : Int) < (q : Int) := by intro hh; exact hlt (hjh.1 (by omega))
      obtain rfl : j = k := by omega
      clear hjh hj
      go_wp2_with fail
      refine (refBits_any ((z : Int) + 1) (j : Int) _ (by omega) (by omega)).mono ?_
      rintro e w1 ⟨rfl, rfl⟩
      rw [show ((z : Int) + 1).toNat = z + 1 by omega, show (max 0 (min (j : Int) 64)).toNat = j by omega]
      obtain ⟨T, hT⟩ : ∃ T, T = strB (bitsOf (z + 1) j) := ⟨_, rfl⟩
      have HTs : Hid (T.size = j) := by show _ = _; rw [hT, strB_size, bitsOf_length]
      have HG : Hid (∀ (i : Nat) (h : i < T.size), (T[i]'h).toNat = 48 + ((bitsOf (z + 1) j).getD i false).toNat) := by subst hT; exact strB_get _
      rw [← hT]
      clear hT
      go_wp2
      go_loopw [9, 10] (fun vo i wx => ∃ m : Nat, m ≤ j ∧ i = .int .i64 (m : Int) ∧ wx.ownsRow w.heap.size 71 2 vo (2 * m) (bitRow (digSteps (fol V n) D (z + 1) j m)) ∧ Blk wx w.heap.size #[.slice a n cap, .int .i64 D, .int .i64 S] 24 ∧ vo.ownBlock ≠ some w.heap.size ∧ Fr (fun _ => False) w wx) (fun _ i _ => j - (intOf i).toNat)
      case atStart => exact ⟨0, Nat.zero_le _, rfl, World.ownsRow_nil _ _ _ _, B0, by simp [Value.ownBlock], F0⟩
      case round =>
        clear B0 F0 s0 k0
        obtain ⟨m, hm2, rfl, o2, B2, nv2, F2⟩ := hrel
        have s2 := h.quiet F2
        have k0 : wr.cell? ⟨w.heap.size, 0, none⟩ = some (.slice a n cap) := by rw [B2.cell]; rfl
        have k1 : wr.cell? ⟨w.heap.size, 1, none⟩ = some (.int .i64 D) := by rw [B2.cell]; rfl
        have k2 : wr.cell? ⟨w.heap.size, 2, none⟩ = some (.int .i64 S) := by rw [B2.cell]; rfl
        by_cases hlt2 : m < j
        · have hmi : (m : Int) < (j : Int) := by omega
          have hmT : m < T.size := by have := HTs.out; omega
          have hb1 := HG.out m hmT
          have hmTi : (m : Int) < (T.size : Int) := by omega
          have hbt : (bitsOf (z + 1) j).getD m false = (z + 1).testBit (j - 1 - m) := by simp [bitsOf, List.getD, hlt2]
          rw [hbt] at hb1
          have HF : Hid (Calls Try.prog 33 #[.agg #[.slice a n cap, .int .i64 D, .int .i64 S], .int .i64 (m : Int)] wr.drew fun e w' => e = .returned (.int .i64 (fol V n m)) ∧ Fr (fun _ => False) wr w') := by
            refine (rfollow_any wr.drew a n cap V b D S m (s2.quiet ((Fr.refl (fun _ => False) wr).drew)) hn).mono ?_
            rintro e w3 ⟨rfl, f3⟩
            exact ⟨rfl, ((Fr.refl (fun _ => False) wr).drew).trans' f3⟩
          obtain ⟨is, his, hs0, hs1, hs2⟩ := info_parts Try.info_step6
          have HDS : Hid (bitRow (digSteps (fol V n) D (z + 1) j (m + 1)) = bitRow (digSteps (fol V n) D (z + 1) j m) ++ [.int .i64 (fol V n m), .bool false, .int .i64 D, .bool ((z + 1).testBit (j - 1 - m))]) := by
            show _ = _
            rw [digSteps_succ]
            simp [bitRow]
          cases hbit : (z + 1).testBit (j - 1 - m) with
          | true =>
            rw [hbit] at hb1 HDS
            have hb2 : (T[m]'hmT).toNat = 49 := by rw [hb1]; rfl
            clear hb1
            go_wp2
            go_region_held3 (fun w' => w'.cell? ⟨w.heap.size, 0, none⟩ = some (.slice a n cap) ∧ w'.cell? ⟨w.heap.size, 1, none⟩ = some (.int .i64 D) ∧ w'.cell? ⟨w.heap.size, 2, none⟩ = some (.int .i64 S)) (go_keep) (first
              | (go_at_call 33; refine HF.out.mono ?_; rintro e w3 ⟨rfl, f3⟩; have m0 := (f3.cell (p := ⟨w.heap.size, 0, none⟩) (cell_lt k0) (fun h => h)).trans k0; have m1 := (f3.cell (p := ⟨w.heap.size, 1, none⟩) (cell_lt k1) (fun h => h)).trans k1; have m2 := (f3.cell (p := ⟨w.heap.size, 2, none⟩) (cell_lt k2) (fun h => h)).trans k2)
              | (refine step_append_lies _ rfl _ _ 33 rfl w.heap.size 71 is (.agg #[.int .i64 0, .bool false]) 2 16 Try.underlying33 his hs0 hs1 hs2 rfl (by decide) _ (2 * m) (bitRow (digSteps (fol V n) D (z + 1) j m)) rfl ((ownsRow_fr o2 f3 (fun _ _ h => h)).alloc (.cells #[.int .i64 (fol V n m), .bool false, .int .i64 D, .bool true] 71)) ⟨w3.heap.size, 0, none⟩ 2 2 [.int .i64 (fol V n m), .bool false, .int .i64 D, .bool true] rfl rfl (World.news_of_block (heap_alloc_new _ _)) (by intro u hu; simp at hu; rcases hu with rfl | rfl | rfl | rfl <;> rfl) (by decide) (by unfold maxLen; omega) (by omega) (by have := F2.size; have := f3.size; simp; omega) (w3.heap.size + 1) (by simp) ?_; intro g4 cap4 w4 hown hgrow hat hlt4; have B4 := ((B2.fr f3 (fun h => h)).alloc (.cells #[.int .i64 (fol V n m), .bool false, .int .i64 D, .bool true] 71)).fr ((Fr.refl (fun x => u9.ownBlock = some x) _).grown hgrow (fun k hk _ => hk)) nv2; have n0 : w4.cell? ⟨w.heap.size, 0, none⟩ = some (.slice a n cap) := (by rw [B4.cell]; rfl); have n1 : w4.cell? ⟨w.heap.size, 1, none⟩ = some (.int .i64 D) := (by rw [B4.cell]; rfl); have n2 : w4.cell? ⟨w.heap.size, 2, none⟩ = some (.int .i64 S) := (by rw [B4.cell]; rfl)))
            all_goals
              have F4 : Fr (fun _ => False) w w4 := ((F2.trans' f3).alloc _).grown hgrow (fun k hk hl => by have := (o2.lt k hk).1; omega)
              have nv4 : (Value.slice (some ⟨g4, 0, none⟩) (2 * m + 2) cap4).ownBlock ≠ some w.heap.size := by
                intro e
                simp [Value.ownBlock] at e
                have := F2.size
                have := f3.size
                rcases hat with q4 | q4
                · rw [e] at q4; exact nv2 q4
                · have := B2.lt; omega
              have HO := hid hown
              clear hown hgrow hat hb2 B2 F2 s2 k0 k1 k2 m0 m1 m2 n0 n1 n2 o2 nv2 f3
              go_wp2
              go_roundw
              case rel => exact ⟨m + 1, by omega, by go_num, by rw [HDS.out]; exact HO.out, B4, nv4, F4⟩
              case measure => simp [intOf]; omega
          | false =>
            rw [hbit] at hb1 HDS
            have hb2 : (T[m]'hmT).toNat = 48 := by rw [hb1]; rfl
            clear hb1
            go_wp2
            go_region_held3 (fun w' => w'.cell? ⟨w.heap.size, 0, none⟩ = some (.slice a n cap) ∧ w'.cell? ⟨w.heap.size, 1, none⟩ = some (.int .i64 D) ∧ w'.cell? ⟨w.heap.size, 2, none⟩ = some (.int .i64 S)) (go_keep) (first
              | (go_at_call 33; refine HF.out.mono ?_; rintro e w3 ⟨rfl, f3⟩; have m0 := (f3.cell (p := ⟨w.heap.size, 0, none⟩) (cell_lt k0) (fun h => h)).trans k0; have m1 := (f3.cell (p := ⟨w.heap.size, 1, none⟩) (cell_lt k1) (fun h => h)).trans k1; have m2 := (f3.cell (p := ⟨w.heap.size, 2, none⟩) (cell_lt k2) (fun h => h)).trans k2)
              | (refine step_append_lies _ rfl _ _ 33 rfl w.heap.size 71 is (.agg #[.int .i64 0, .bool false]) 2 16 Try.underlying33 his hs0 hs1 hs2 rfl (by decide) _ (2 * m) (bitRow (digSteps (fol V n) D (z + 1) j m)) rfl ((ownsRow_fr o2 f3 (fun _ _ h => h)).alloc (.cells #[.int .i64 (fol V n m), .bool false, .int .i64 D, .bool false] 71)) ⟨w3.heap.size, 0, none⟩ 2 2 [.int .i64 (fol V n m), .bool false, .int .i64 D, .bool false] rfl rfl (World.news_of_block (heap_alloc_new _ _)) (by intro u hu; simp at hu; rcases hu with rfl | rfl | rfl | rfl <;> rfl) (by decide) (by unfold maxLen; omega) (by omega) (by have := F2.size; have := f3.size; simp; omega) (w3.heap.size + 1) (by simp) ?_; intro g4 cap4 w4 hown hgrow hat hlt4; have B4 := ((B2.fr f3 (fun h => h)).alloc (.cells #[.int .i64 (fol V n m), .bool false, .int .i64 D, .bool false] 71)).fr ((Fr.refl (fun x => u9.ownBlock = some x) _).grown hgrow (fun k hk _ => hk)) nv2; have n0 : w4.cell? ⟨w.heap.size, 0, none⟩ = some (.slice a n cap) := (by rw [B4.cell]; rfl); have n1 : w4.cell? ⟨w.heap.size, 1, none⟩ = some (.int .i64 D) := (by rw [B4.cell]; rfl); have n2 : w4.cell? ⟨w.heap.size, 2, none⟩ = some (.int .i64 S) := (by rw [B4.cell]; rfl)))
            all_goals
              have F4 : Fr (fun _ => False) w w4 := ((F2.trans' f3).alloc _).grown hgrow (fun k hk hl => by have := (o2.lt k hk).1; omega)
              have nv4 : (Value.slice (some ⟨g4, 0, none⟩) (2 * m + 2) cap4).ownBlock ≠ some w.heap.size := by
                intro e
                simp [Value.ownBlock] at e
                have := F2.size
                have := f3.size
                rcases hat with q4 | q4
                · rw [e] at q4; exact nv2 q4
                · have := B2.lt; omega
              have HO := hid hown
              clear hown hgrow hat hb2 B2 F2 s2 k0 k1 k2 m0 m1 m2 n0 n1 n2 o2 nv2 f3
              go_wp2
              go_roundw
              case rel => exact ⟨m + 1, by omega, by go_num, by rw [HDS.out]; exact HO.out, B4, nv4, F4⟩
              case measure => simp [intOf]; omega
        · have hmi : ¬ (m : Int) < (j : Int) := by omega
          obtain rfl : m = j := by omega
          obtain ⟨is, his, hs0, hs1, hs2⟩ := info_parts Try.info_step6
          by_cases h40 : m < 40
          · have h4i : (m : Int) < 40 := by omega
            have HNS : Hid (numSteps (fol V n) D z = digSteps (fol V n) D (z + 1) m m ++ [(fol V n m, true)]) := by show _ = _; unfold numSteps; rw [← HK.out, if_pos h40]
            go_wp2_with fail
            refine (rfollow_any wr a n cap V b D S m s2 hn).mono ?_
            rintro e w3 ⟨rfl, f3⟩
            have o3 := (ownsRow_fr o2 f3 (fun _ _ h => h)).alloc (.cells #[.int .i64 (fol V n m), .bool true] 71)
            have F3 := (F2.trans' f3).alloc (.cells #[.int .i64 (fol V n m), .bool true] 71)
            have hlo := fun k hk => (o2.lt k hk).1
            have hsz3 : w.heap.size ≤ w3.heap.size := Nat.le_trans F2.size f3.size
            clear o2 F2 f3 B2 s2 k0 k1 k2
            go_wp2_with (at_builtin; refine wpList_append_lies _ rfl _ _ 33 rfl w.heap.size 71 is (.agg #[.int .i64 0, .bool false]) 2 16 Try.underlying33 his hs0 hs1 hs2 rfl (by decide) _ (2 * m) (bitRow (digSteps (fol V n) D (z + 1) m m)) rfl o3 ⟨w3.heap.size, 0, none⟩ 1 1 [.int .i64 (fol V n m), .bool true] rfl rfl ?c1 ?c2 (by decide) ?c3 ?c4 ?c5 (w3.heap.size + 1) (by simp) ?_)
            case c1 => exact World.news_of_block (heap_alloc_new _ _)
            case c2 => intro u hu; simp at hu; rcases hu with rfl | rfl <;> rfl
            case c3 => unfold maxLen; omega
            case c4 => omega
            case c5 => simp; omega
            intro g4 cap4 w4 hown hgrow hat hlt4
            have F4 : Fr (fun _ => False) w w4 := F3.grown hgrow (fun k hk hl => by have := hlo k hk; omega)
            rw [← bitRow_snoc _ (fol V n m, true), ← HNS.out] at hown
            have hnl : (numSteps (fol V n) D z).length = 2 * m + 1 := by rw [HNS.out, List.length_append, digSteps_length]; rfl
            clear hgrow hat o3 F3
            go_wp2
            go_ret2
            refine ⟨_, rfl, ?_, F4⟩
            rw [hnl]
            exact hown
          · have h4i : ¬ (m : Int) < 40 := by omega
            have HNS : Hid (numSteps (fol V n) D z = digSteps (fol V n) D (z + 1) m m) := by show _ = _; unfold numSteps; rw [← HK.out, if_neg h40, List.append_nil]
            have hnl : (numSteps (fol V n) D z).length = 2 * m := by rw [HNS.out, digSteps_length]
            rw [← HNS.out] at o2
            go_wp2
            go_ret2
            exact ⟨_, rfl, o2, F2⟩

/-- Steps. -/
theorem rsteps_any (w : World) (a : Option Addr) (n cap : Nat) (V : Nat → Int) (b : Nat) (D S : Int) (z : Int) (h : SetV w a n cap V b) :
    Calls Try.prog 11 #[.agg #[.slice a n cap, .int .i64 D, .int .i64 S], .int .i64 z] w fun e w' => ∃ vs, e = .returned (.tuple #[vs, .bool (okN z && decide (0 < n))]) ∧ w'.ownsRow w.heap.size 71 2 vs (stepsL V n D z).length (bitRow (stepsL V n D z)) ∧ Fr (fun _ => False) w w' := by
  unfold stepsL
  cases hok : okN z && decide (0 < n) with
  | false =>
    have hm : (n : Int) ≤ 9223372036854775807 := by have := h.le; have := h.most; unfold maxLen at *; omega
    refine (rsteps_no w a n cap D S z hm hok).mono ?_
    rintro e w1 ⟨rfl, f⟩
    exact ⟨_, rfl, World.ownsRow_nil _ _ _ _, f⟩
  | true =>
    simp only [Bool.and_eq_true, decide_eq_true_eq] at hok
    obtain ⟨h0, h1⟩ := okN_true hok.1
    obtain ⟨x, rfl⟩ := Int.eq_ofNat_of_zero_le h0
    exact rsteps_go w a n cap V b D S x h hok.2 (by omega)

/-- The steps of a number with its sign, by any set. -/
def sgnL (V : Nat → Int) (n : Nat) (D S : Int) (z : Int) : List (Int × Bool) := if okN (unsN z) && decide (0 < n) then sgnSteps (fol V n) D S z else []

theorem stepsL_len (V : Nat → Int) (n : Nat) (D : Int) (z : Int) : (stepsL V n D z).length ≤ 80 := by
  unfold stepsL
  split
  · rename_i h
    simp only [Bool.and_eq_true] at h
    have := okN_true h.1
    rw [numSteps_length]
    exact ncost_le _ (by omega)
  · simp
theorem sgnL_len (V : Nat → Int) (n : Nat) (D S : Int) (z : Int) : (sgnL V n D S z).length ≤ 81 := by
  unfold sgnL
  split
  · rename_i h
    simp only [Bool.and_eq_true] at h
    have := unsN_ok h.1
    have := ncost_le z.natAbs (by omega)
    rw [sgnSteps_length]
    split <;> omega
  · simp

/-- What Signed hands to Steps. -/
def sgnM (z : Int) : Int := if z < 0 ∧ -2199023255550 ≤ z then -z else z
theorem sgnM_ok (z : Int) (h0 : -9223372036854775808 ≤ z) : okN (sgnM z) = okN (unsN z) := by
  unfold okN
  apply decide_eq_decide.2
  unfold sgnM unsN
  split <;> split <;> try split
  all_goals omega
theorem sgnM_nat {z : Int} (h : okN (sgnM z) = true) : (sgnM z).toNat = z.natAbs := by
  have := okN_true h
  unfold sgnM at *
  split <;> split at this <;> omega
theorem sgnL_eq (V : Nat → Int) (n : Nat) (D S : Int) (z : Int) (h0 : -9223372036854775808 ≤ z) : sgnL V n D S z = if okN (sgnM z) && decide (0 < n) then (if z = 0 then stepsL V n D (sgnM z) else stepsL V n D (sgnM z) ++ [(S, decide (z < 0))]) else [] := by
  unfold sgnL stepsL
  rw [sgnM_ok z h0]
  cases h : okN (unsN z) && decide (0 < n) with
  | false => rfl
  | true =>
    have h' := h
    simp only [Bool.and_eq_true] at h'
    rw [← sgnM_ok z h0] at h'
    rw [if_pos rfl, if_pos rfl, if_pos rfl, sgnM_nat h'.1]
    unfold sgnSteps
    split
    · simp
    · rfl
end Go.Proofs.Ythabklgeopdlhaa
