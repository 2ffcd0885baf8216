/-
  Package arith: a new encoder, its bytes, chances and count.
-/
import Derived.Test.YthabklgeopdlhaaArithE
import Derived.Deep.RegionHeld3
import Derived.Deep.AppendLies
namespace Go.Proofs.Ythabklgeopdlhaa
open Go.RowKit

/-- NewEncoder. -/
theorem newEnc_any (w : World) (c : Int) :
    Calls Try.prog 8 #[.int .i64 c] w fun e w' => ∃ p g, e = .returned (.pointer (some ⟨p, 0, none⟩)) ∧ En w' p g (.slice none 0 0) [] (ctxN c) (startC (ctxN c)) ∧ w.heap.size ≤ g ∧ Fr (fun _ => False) w w' := by
  go_enter Try.func8, Try.ntmps8
  go_wp2_with fail
  refine (newModel_any w c).mono ?_
  rintro e w1 ⟨g, rfl, b1, hg, f1⟩
  go_wp2
  go_ret
  refine ⟨w1.heap.size, g, rfl, ⟨Blk.new w1 _ _, b1.alloc _, evenP_length _, b1.lt, World.ownsRow_nil _ _ _ _, Packs.nil⟩, hg, f1.alloc _⟩

/-- Count. -/
theorem ecount_any (w : World) (p g : Nat) (v : Value) (zs : List Nat) (n : Nat) (s : CS) (h : En w p g v zs n s) :
    Calls Try.prog 17 #[.pointer (some ⟨p, 0, none⟩)] w fun e w' => e = .returned (.int .i64 (s.N : Int)) ∧ w' = w := by
  have c1 := h.md.c1
  go_enter Try.func17, Try.ntmps17
  go_wp2
  go_ret
  exact ⟨rfl, rfl⟩

/-- Chances. -/
theorem echances_any (w : World) (p g : Nat) (v : Value) (zs : List Nat) (n : Nat) (s : CS) (h : En w p g v zs n s) (hn : n ≤ 64) :
    Calls Try.prog 21 #[.pointer (some ⟨p, 0, none⟩)] w fun e w' => ∃ q, e = .returned (.slice (some ⟨q, 0, none⟩) n n) ∧ Blk w' q (intRow s.P).toArray 3 ∧ w.heap.size ≤ q ∧ Fr (fun _ => False) w w' := by
  go_enter Try.func21, Try.ntmps21
  go_wp2_with fail
  refine (mcopied_any w p g _ _ n _ _ _ _ h.md (by omega)).mono ?_
  rintro e w1 ⟨q, rfl, b1, hq, f1⟩
  go_wp2
  go_ret
  exact ⟨q, rfl, b1, hq, f1⟩

/-- A nil encoder. -/
theorem eput_nil (c : Int) (b : Bool) (w : World) : Calls Try.prog 37 #[.pointer none, .int .i64 c, .bool b] w fun e w' => e = .returned (.bool false) ∧ w' = w := by
  go_enter Try.func37, Try.ntmps37
  go_wp2
  go_ret
  exact ⟨rfl, rfl⟩
theorem ebytes_nil (w : World) : Calls Try.prog 18 #[.pointer none] w fun e w' => e = .returned (.slice none 0 0) ∧ w' = w := by
  go_enter Try.func18, Try.ntmps18
  go_wp2
  go_ret
  exact ⟨rfl, rfl⟩
theorem echances_nil (w : World) : Calls Try.prog 21 #[.pointer none] w fun e w' => e = .returned (.slice none 0 0) ∧ w' = w := by
  go_enter Try.func21, Try.ntmps21
  go_wp2
  go_ret
  exact ⟨rfl, rfl⟩
theorem ecount_nil (w : World) : Calls Try.prog 17 #[.pointer none] w fun e w' => e = .returned (.int .i64 0) ∧ w' = w := by
  go_enter Try.func17, Try.ntmps17
  go_wp2
  go_ret
  exact ⟨rfl, rfl⟩

/-- The first m of a row that is owned. -/
theorem ownsRow_take {w : World} {base : Nat} {e : TypeId} {g n cap : Nat} {xs : List Value} (h : w.ownsRow base e 1 (.slice (some ⟨g, 0, none⟩) n cap) n xs) (m : Nat) (hm : m ≤ n) : w.ownsRow base e 1 (.slice (some ⟨g, 0, none⟩) m cap) m (xs.take m) := by
  obtain ⟨hl, h2⟩ := h
  refine ⟨by simp; omega, ?_⟩
  rcases h2 with ⟨h2, _⟩ | ⟨g', cap', cur, hv, hb, hg, hnc, hcm, hcs, ht⟩
  · cases h2
  · simp at hv
    obtain ⟨rfl, rfl⟩ := hv
    refine .inr ⟨g, cap, cur, rfl, hb, hg, by omega, hcm, hcs, ?_⟩
    rw [← ht, List.take_take]
    congr 1
    omega
theorem rowOf_take (zs : List Nat) (m : Nat) : (rowOf zs).take m = rowOf (zs.take m) := by simp [rowOf, List.map_take]

/-- The first m cells of a block. -/
theorem owns_of_blk {w : World} {q base : Nat} {zs : List Nat} (h : Blk w q (rowOf zs).toArray 5) (hb : base ≤ q) (m : Nat) (hm : m ≤ zs.length) (hz : zs.length ≤ 1000000000000) : w.ownsRow base 5 1 (.slice (some ⟨q, 0, none⟩) m zs.length) m (rowOf (zs.take m)) := by
  refine ⟨by simp [rowOf_length]; omega, .inr ⟨q, zs.length, (rowOf zs).toArray, rfl, hb, h, hm, by unfold maxLen; omega, by simp [rowOf_length], ?_⟩⟩
  simp [rowOf_take]

/-- trimmed. -/
theorem trimmed_any (w : World) (base g cap : Nat) (ys : List Nat) (h : w.ownsRow base 5 1 (.slice (some ⟨g, 0, none⟩) ys.length cap) ys.length (rowOf ys)) (_hy : ys.length ≤ 1000000000000) :
    Calls Try.prog 46 #[.slice (some ⟨g, 0, none⟩) ys.length cap] w fun e w' => e = .returned (.slice (some ⟨g, 0, none⟩) (trimB ys).length cap) ∧ w' = w := by
  have hcap : ys.length ≤ cap ∧ cap ≤ maxLen := by
    rcases h.2 with ⟨h2, _⟩ | ⟨g', cap', cur, hv, hb, hg, hnc, hcm, hcs, ht⟩
    · cases h2
    · simp at hv; obtain ⟨rfl, rfl⟩ := hv; exact ⟨hnc, hcm⟩
  have hcap2 : cap ≤ 9223372036854775807 := by have := hcap.2; unfold maxLen at this; omega
  rw [trimB_length]
  go_enter Try.func46, Try.ntmps46
  go_wp2
  go_loopw [3] (fun i wr => ∃ j : Nat, j ≤ ys.length ∧ i = .int .i64 (j : Int) ∧ tlen ys j = tlen ys ys.length ∧ SameW wr w) (fun i _ => (intOf i).toNat)
  case atStart => exact ⟨ys.length, Nat.le_refl _, rfl, rfl, SameW.rfl⟩
  case round =>
    obtain ⟨j, hj, rfl, ht, hw⟩ := hrel
    obtain rfl : w = wr := Eq.symm hw
    cases j with
    | zero =>
      have hd : decide (((0 : Nat) : Int) > 0) = false := by decide
      have HT := hid ht
      clear ht
      go_wp2
      go_ret
      refine ⟨?_, rfl⟩
      rw [← HT.out]
      rfl
    | succ j =>
      have hpos : (0 : Int) < ((j + 1 : Nat) : Int) := by omega
      have hc := ownsRow_cell h j _ (rowOf_get ys j (by omega))
      rw [tlen] at ht
      generalize ys.getD j 0 = z at hc ht
      have hji : ((j : Int)) < (ys.length : Int) := by omega
      have hj3 : (j : Int) + 1 ≤ (cap : Int) := by omega
      by_cases hz : z = 0
      · subst hz
        rw [if_pos rfl] at ht
        go_wp2
        go_roundw
        case rel => exact ⟨j, by omega, by go_num, ht, SameW.rfl⟩
        case measure => simp [intOf]
      · rw [if_neg hz] at ht
        have hzz : ((z : Int) == 0) = false := by simp; omega
        have HT := hid ht
        clear ht
        go_wp2
        go_ret
        refine ⟨?_, rfl⟩
        rw [← HT.out]
        rfl

theorem trimmed_at (w : World) (base g cap ln : Nat) (ys : List Nat) (hl : ys.length = ln) (h : w.ownsRow base 5 1 (.slice (some ⟨g, 0, none⟩) ln cap) ln (rowOf ys)) (hy : ln ≤ 1000000000000) :
    Calls Try.prog 46 #[.slice (some ⟨g, 0, none⟩) ln cap] w fun e w' => e = .returned (.slice (some ⟨g, 0, none⟩) (trimB ys).length cap) ∧ w' = w := by
  subst hl
  exact trimmed_any w base g cap ys h hy

/-- Bytes. -/
theorem ebytes_any (w : World) (p g : Nat) (v : Value) (zs : List Nat) (n : Nat) (s : CS) (h : En w p g v zs n s) (hG : Good n s) (hN : s.N ≤ 100000000) :
    Calls Try.prog 18 #[.pointer (some ⟨p, 0, none⟩)] w fun e w' => ∃ q cap ys, e = .returned (.slice (some ⟨q, 0, none⟩) ys.length cap) ∧ w'.ownsRow w.heap.size 5 1 (.slice (some ⟨q, 0, none⟩) ys.length cap) ys.length (rowOf ys) ∧ Tells ys s.e ∧ Fr (fun _ => False) w w' := by
  obtain ⟨P, N, e⟩ := s
  obtain ⟨L, R, k, S⟩ := e
  obtain ⟨fair, ready, few⟩ := hG
  simp only at hN fair few
  have hspan : Span L R := ready.span
  have hwide : 16384 < R := ready.wide
  unfold Span at hspan
  have hSl : S.length ≤ 1000000000 := by omega
  have hkl : k ≤ 1000000000 := by omega
  have HZ : Hid (zs.length = (S.length + 7) / 8) := h.packs.len
  have hzl : zs.length ≤ 1000000000 := by have := HZ.out; omega
  go_enter Try.func18, Try.ntmps18
  go_wp2_with fail
  refine (lbytes_any w p 4 _ _ v zs S h.wr (by omega)).mono ?_
  rintro e w1 ⟨q1, rfl, b1, hq1, f1⟩
  have h1 := h.quiet f1
  have HL : Hid (∀ m, Calls Try.prog 42 #[.pointer (some ⟨p, 4, none⟩)] (w1.drewN m) fun e w' => e = .returned (.int .i64 (S.length : Int)) ∧ w' = w1.drewN m) := fun m => llen_any _ p 4 _ _ v zs S (h1.quiet ((Fr.refl (fun _ => False) w1).drewN m)).wr
  go_wp2
  go_quiet ((go_at_call 42; exact Calls.quiet_of_same (HL.out _)))
  have F2 : Fr (fun _ => False) w (w1.drewN nq) := f1.drewN nq
  have h2 := h1.quiet ((Fr.refl (fun _ => False) w1).drewN nq)
  have b2 := b1.fr ((Fr.refl (fun _ => False) w1).drewN nq) (fun h => h)
  generalize w1.drewN nq = w2 at F2 h2 b2
  clear h h1 b1 f1 HL
  have HB1 : Hid ((Go.bits .and .i64 ((L + 16384 - 1) / 16384 * 16384) 32768 != 0) = topB (16384 * vend L)) := by
    show _ = _
    have e : (L + 16384 - 1) / 16384 * 16384 = 16384 * vend L := by unfold vend; omega
    rw [e, top_and _ (by unfold vend; omega) (by unfold vend; omega)]
  have HB2 : Hid ((Go.bits .and .i64 ((L + 16384 - 1) / 16384 * 16384) 16384 != 0) = decide (vend L % 2 = 1)) := by
    show _ = _
    have e : (L + 16384 - 1) / 16384 = vend L := by unfold vend; omega
    rw [e, second_and _ (by unfold vend; omega) (by unfold vend; omega)]
  obtain ⟨fl, hfl⟩ : ∃ fl, fl = S.length / 8 := ⟨_, rfl⟩
  obtain ⟨mo, hmo⟩ : ∃ mo, mo = S.length % 8 := ⟨_, rfl⟩
  have e1 : (S.length : Int) / 8 = (fl : Int) := by omega
  have e2 : (S.length : Int) % 8 = (mo : Int) := by omega
  rw [e1, e2]
  have HF := hid hfl
  have HM := hid hmo
  have hm8 : mo < 8 := by omega
  have hfz : fl ≤ zs.length := by have := HZ.out; omega
  have HK : Hid (Packs zs S) := h2.packs
  have HT := hid (tail_bits h2.packs)
  simp only at HT
  rw [← hfl, ← hmo] at HT
  clear e1 e2 hfl hmo
  have h3 := h2.quiet ((Fr.refl (fun _ => False) w2).alloc (.cells #[.slice none 0 0, .int .i64 0] 63))
  have b3 := b2.alloc (.cells #[.slice none 0 0, .int .i64 0] 63)
  have F3 := F2.alloc (.cells #[.slice none 0 0, .int .i64 0] 63)
  have wn := WrL.new w2
  have hpe : p < w2.heap.size := h2.blk.lt
  have hqe : q1 < w2.heap.size := b2.lt
  have hwe : w.heap.size ≤ w2.heap.size := F2.size
  by_cases hm : mo = 0
  · have hd0 : decide ((0 : Int) < (mo : Int)) = false := by simp; omega
    obtain ⟨v4, hv4⟩ : ∃ v4 : Value, v4 = .slice none 0 0 := ⟨_, rfl⟩
    obtain ⟨zs4, hz4⟩ : ∃ zs4 : List Nat, zs4 = [] := ⟨_, rfl⟩
    have hT0 : S.drop (8 * fl) = [] := List.drop_of_length_le (by have := HF.out; have := HM.out; omega)
    have wr4 : WrL (w2.alloc (.cells #[.slice none 0 0, .int .i64 0] 63)) w2.heap.size 0 (fun v n => #[v, n]) 63 v4 zs4 (S.drop (8 * fl)) := by rw [hv4, hz4, hT0]; exact wn
    have n4 : ∀ j, v4.ownBlock = some j → w2.heap.size < j := fun j hj => by rw [hv4] at hj; cases hj
    obtain ⟨w4, hw4⟩ : ∃ w4, w4 = w2.alloc (.cells #[.slice none 0 0, .int .i64 0] 63) := ⟨_, rfl⟩
    rw [← hw4] at wr4 h3 b3 F3
    have c2 : (w2.alloc (.cells #[.slice none 0 0, .int .i64 0] 63)).cell? ⟨p, 2, none⟩ = some (.int .i64 L) := by rw [← hw4]; exact h3.md.c2
    have c6 : (w2.alloc (.cells #[.slice none 0 0, .int .i64 0] 63)).cell? ⟨p, 6, none⟩ = some (.int .i64 (k : Int)) := by rw [← hw4, h3.blk.cell]; rfl
    have HW4 := hid hw4
    have h4 := h3
    have b4 := b3
    have F4 := F3
    clear h2 h3 b2 b3 F2 F3 wn HT hw4 hv4 hz4 hT0
    go_wp2_with fail
    rw [HB1.out, ← HW4.out]
    refine (settle_any _ w2.heap.size 0 _ _ v4 zs4 _ _ k wr4 (by simp; omega)).mono ?_
    rintro e w5 ⟨rfl, v5, zs5, wr5, st5⟩
    go_wp2_with fail
    rw [HB2.out]
    refine (lbit_any _ w2.heap.size 0 _ _ v5 zs5 _ _ wr5 (by simp; omega)).mono ?_
    rintro e w6 ⟨rfl, v6, zs6, wr6, st6⟩
    have n5 : ∀ j, v5.ownBlock = some j → w2.heap.size < j := fun j hj => by have := wr5.own.lt j hj; omega
    have hf6 : Fr (fun j => w2.heap.size ≤ j) w4 w6 := (st5.fr.mono (fun j _ hj => by rcases hj with e | e; omega; have := n4 j e; omega)).trans (st6.fr.mono (fun j _ hj => by rcases hj with e | e; exact (by omega : w2.heap.size ≤ j); have := n5 j e; omega)) (fun _ _ h => h)
    have b6 := b4.fr hf6 (by omega)
    have F6 := F4.trans hf6 (by intro i hi e; omega)
    clear b4 F4 hf6 st5 st6 wr5 wr4 n4 n5 h4 c2 c6 HB1 HB2
    go_wp2
    have wr7 : WrL w6.drew w2.heap.size 0 (fun v n => #[v, n]) 63 v6 zs6 _ := wr6.fr ((Fr.refl (fun _ => False) w6).drew) (fun h => h) (fun _ _ h => h)
    have z6 : zs6.length ≤ 1000000000 := by have := wr6.packs.len; simp at this; omega
    have z6' : 0 < zs6.length := by have := wr6.packs.len; simp at this; omega
    have hfi' : (fl : Int) ≤ (zs.length : Int) := by omega
    have b7 : Blk w6.drew q1 (rowOf zs).toArray 5 := b6
    obtain ⟨i0, hi, hz0, hz1, hz2⟩ := info_parts Try.info_u8
    go_region_held3 (fun _ => True) (exact trivial) (first
      | (go_at_call 41; refine (lbytes_any _ w2.heap.size 0 _ _ v6 zs6 _ wr7 (by simp; omega)).mono ?_; rintro e w7 ⟨q7, rfl, b7', hq7, f7⟩; have o7 := owns_of_blk (b7.fr f7 (fun h => h)) (show w.heap.size ≤ q1 by omega) fl hfz (by omega); have n7 := World.news_of_block b7'; have s7 : w.heap.size ≤ w7.heap.size := Nat.le_trans F6.size f7.size)
      | (refine step_append_lies _ rfl _ _ 40 rfl w.heap.size 5 i0 (.int .u8 0) 1 1 Try.underlying40 hi hz0 hz1 hz2 rfl (by decide) (.slice (some ⟨q1, 0, none⟩) fl zs.length) fl (rowOf (zs.take fl)) rfl o7 ⟨q7, 0, none⟩ zs6.length zs6.length (rowOf zs6) rfl (by simp [rowOf_length]) n7 (rowOf_one zs6) z6' (by unfold maxLen; omega) (by omega) s7 w7.heap.size rfl ?_; intro g8 cap8 w8 hown hgrow hat hlt; have tc := hid (trimmed_at w8 w.heap.size g8 cap8 (fl + zs6.length) (zs.take fl ++ zs6) (by simp; omega) (by rw [rowOf_append]; exact hown) (by omega)))
      | (go_at_call 46; refine tc.out.mono ?_; rintro e w9 ⟨rfl, rfl⟩))
    have F8 : Fr (fun _ => False) w w9 := (F6.drew.trans' f7).grown hgrow (fun j hj hl => by simp [Value.ownBlock] at hj; omega)
    have O8 : w9.ownsRow w.heap.size 5 1 (.slice (some ⟨g8, 0, none⟩) (trimB (zs.take fl ++ zs6)).length cap8) (trimB (zs.take fl ++ zs6)).length (rowOf (trimB (zs.take fl ++ zs6))) := by
      rw [trimB_length]
      have e0 : fl + zs6.length = (zs.take fl ++ zs6).length := by simp; omega
      rw [← rowOf_append, e0] at hown
      have := ownsRow_take hown (tlen (zs.take fl ++ zs6) (zs.take fl ++ zs6).length) (tlen_le _ _)
      rwa [rowOf_take] at this
    have T8 : Tells (trimB (zs.take fl ++ zs6)) ⟨L, R, k, S⟩ := by
      refine ⟨_, ?_, rfl⟩
      have j := HK.out.join wr6.packs fl (by have := HF.out; omega)
      have e0 : S.take (8 * fl) ++ ((S.drop (8 * fl) ++ topB (16384 * vend L) :: List.replicate k (!topB (16384 * vend L))) ++ [decide (vend L % 2 = 1)]) = eend ⟨L, R, k, S⟩ := by
        unfold eend
        rw [← List.append_assoc, ← List.append_assoc, List.take_append_drop]
      rwa [e0] at j
    clear hown hgrow hat hlt tc o7 n7 b7' wr6 wr7 b6 b7
    go_wp2
    go_ret
    exact ⟨g8, cap8, _, rfl, O8, T8, F8⟩
  · have hmi : (0 : Int) < (mo : Int) := by omega
    have hfi : (fl : Int) < (zs.length : Int) := by have := HZ.out; have := HF.out; have := HM.out; omega
    have hc : (w2.alloc (.cells #[.slice none 0 0, .int .i64 0] 63)).cell? ⟨q1, fl, none⟩ = some (.int .u8 ((zs.getD fl 0 : Nat) : Int)) := by rw [b3.cell, List.getElem?_toArray, rowOf_get zs fl (by omega)]
    have hz : zs.getD fl 0 < 256 := by
      rw [List.getD, List.getElem?_eq_getElem (by omega)]; exact h2.packs.small _ (List.getElem_mem (by omega))
    generalize zs.getD fl 0 = z at hc hz HT
    have HW : Hid (IntKind.u64.wrap ((z : Int) / 2 ^ (8 - mo)) = ((z / 2 ^ (8 - mo) : Nat) : Int)) := by
      show _ = _
      have e : ((z : Int) / 2 ^ (8 - mo)) = ((z / 2 ^ (8 - mo) : Nat) : Int) := by simp
      have hle : z / 2 ^ (8 - mo) ≤ z := Nat.div_le_self _ _
      rw [e, IntKind.wrap_u64]
      generalize z / 2 ^ (8 - mo) = y at hle ⊢
      omega
    have hle : z / 2 ^ (8 - mo) ≤ z := Nat.div_le_self _ _
    generalize z / 2 ^ (8 - mo) = y at HW HT hle
    go_wp2_with fail
    rw [HW.out]
    refine (lput_any _ w2.heap.size 0 _ _ _ _ _ (y : Int) (mo : Int) wn (by simp) (by omega) (by omega)).mono ?_
    rintro e w4 ⟨rfl, v4, zs4, wr4, st4⟩
    have e5 : bitsOf (y : Int).toNat (max 0 (min (mo : Int) 64)).toNat = bitsOf y mo := by
      rw [Int.toNat_natCast]; congr 1; omega
    rw [e5, HT.out, List.nil_append] at wr4
    have hfr : Fr (fun j => j = w2.heap.size) (w2.alloc (.cells #[.slice none 0 0, .int .i64 0] 63)) w4 := st4.fr.mono (fun j _ hj => by rcases hj with e | e; exact e; cases e)
    have n4 : ∀ j, v4.ownBlock = some j → w2.heap.size < j := fun j hj => by have := wr4.own.lt j hj; omega
    have h4 := h3.fr hfr (by omega) (by have := h2.gp; omega) (fun j hj => by have := (h2.vlt hj).2; omega)
    have b4 := b3.fr hfr (by omega)
    have F4 := F3.trans hfr (by intro i hi e; omega)
    clear h2 h3 b2 b3 F2 F3 wn e5 HT st4 hfr hc hz hle HW
    have c2 := h4.md.c2
    have c6 : w4.cell? ⟨p, 6, none⟩ = some (.int .i64 (k : Int)) := by rw [h4.blk.cell]; rfl
    go_wp2_with fail
    rw [HB1.out]
    refine (settle_any _ w2.heap.size 0 _ _ v4 zs4 _ _ k wr4 (by simp; omega)).mono ?_
    rintro e w5 ⟨rfl, v5, zs5, wr5, st5⟩
    go_wp2_with fail
    rw [HB2.out]
    refine (lbit_any _ w2.heap.size 0 _ _ v5 zs5 _ _ wr5 (by simp; omega)).mono ?_
    rintro e w6 ⟨rfl, v6, zs6, wr6, st6⟩
    have n5 : ∀ j, v5.ownBlock = some j → w2.heap.size < j := fun j hj => by have := wr5.own.lt j hj; omega
    have hf6 : Fr (fun j => w2.heap.size ≤ j) w4 w6 := (st5.fr.mono (fun j _ hj => by rcases hj with e | e; omega; have := n4 j e; omega)).trans (st6.fr.mono (fun j _ hj => by rcases hj with e | e; exact (by omega : w2.heap.size ≤ j); have := n5 j e; omega)) (fun _ _ h => h)
    have b6 := b4.fr hf6 (by omega)
    have F6 := F4.trans hf6 (by intro i hi e; omega)
    clear b4 F4 hf6 st5 st6 wr5 wr4 n4 n5 h4 c2 c6 HB1 HB2
    go_wp2
    have wr7 : WrL w6.drew w2.heap.size 0 (fun v n => #[v, n]) 63 v6 zs6 _ := wr6.fr ((Fr.refl (fun _ => False) w6).drew) (fun h => h) (fun _ _ h => h)
    have z6 : zs6.length ≤ 1000000000 := by have := wr6.packs.len; simp at this; omega
    have z6' : 0 < zs6.length := by have := wr6.packs.len; simp at this; omega
    have hfi' : (fl : Int) ≤ (zs.length : Int) := by omega
    have b7 : Blk w6.drew q1 (rowOf zs).toArray 5 := b6
    obtain ⟨i0, hi, hz0, hz1, hz2⟩ := info_parts Try.info_u8
    go_region_held3 (fun _ => True) (exact trivial) (first
      | (go_at_call 41; refine (lbytes_any _ w2.heap.size 0 _ _ v6 zs6 _ wr7 (by simp; omega)).mono ?_; rintro e w7 ⟨q7, rfl, b7', hq7, f7⟩; have o7 := owns_of_blk (b7.fr f7 (fun h => h)) (show w.heap.size ≤ q1 by omega) fl hfz (by omega); have n7 := World.news_of_block b7'; have s7 : w.heap.size ≤ w7.heap.size := Nat.le_trans F6.size f7.size)
      | (refine step_append_lies _ rfl _ _ 40 rfl w.heap.size 5 i0 (.int .u8 0) 1 1 Try.underlying40 hi hz0 hz1 hz2 rfl (by decide) (.slice (some ⟨q1, 0, none⟩) fl zs.length) fl (rowOf (zs.take fl)) rfl o7 ⟨q7, 0, none⟩ zs6.length zs6.length (rowOf zs6) rfl (by simp [rowOf_length]) n7 (rowOf_one zs6) z6' (by unfold maxLen; omega) (by omega) s7 w7.heap.size rfl ?_; intro g8 cap8 w8 hown hgrow hat hlt; have tc := hid (trimmed_at w8 w.heap.size g8 cap8 (fl + zs6.length) (zs.take fl ++ zs6) (by simp; omega) (by rw [rowOf_append]; exact hown) (by omega)))
      | (go_at_call 46; refine tc.out.mono ?_; rintro e w9 ⟨rfl, rfl⟩))
    have F8 : Fr (fun _ => False) w w9 := (F6.drew.trans' f7).grown hgrow (fun j hj hl => by simp [Value.ownBlock] at hj; omega)
    have O8 : w9.ownsRow w.heap.size 5 1 (.slice (some ⟨g8, 0, none⟩) (trimB (zs.take fl ++ zs6)).length cap8) (trimB (zs.take fl ++ zs6)).length (rowOf (trimB (zs.take fl ++ zs6))) := by
      rw [trimB_length]
      have e0 : fl + zs6.length = (zs.take fl ++ zs6).length := by simp; omega
      rw [← rowOf_append, e0] at hown
      have := ownsRow_take hown (tlen (zs.take fl ++ zs6) (zs.take fl ++ zs6).length) (tlen_le _ _)
      rwa [rowOf_take] at this
    have T8 : Tells (trimB (zs.take fl ++ zs6)) ⟨L, R, k, S⟩ := by
      refine ⟨_, ?_, rfl⟩
      have j := HK.out.join wr6.packs fl (by have := HF.out; omega)
      have e0 : S.take (8 * fl) ++ ((S.drop (8 * fl) ++ topB (16384 * vend L) :: List.replicate k (!topB (16384 * vend L))) ++ [decide (vend L % 2 = 1)]) = eend ⟨L, R, k, S⟩ := by
        unfold eend
        rw [← List.append_assoc, ← List.append_assoc, List.take_append_drop]
      rwa [e0] at j
    clear hown hgrow hat hlt tc o7 n7 b7' wr6 wr7 b6 b7
    go_wp2
    go_ret
    exact ⟨g8, cap8, _, rfl, O8, T8, F8⟩
end Go.Proofs.Ythabklgeopdlhaa
