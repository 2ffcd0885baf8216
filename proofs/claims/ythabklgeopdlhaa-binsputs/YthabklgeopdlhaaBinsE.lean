/-
  Package bins: numbers put.
-/
import Derived.Test.YthabklgeopdlhaaBinsP
import Derived.Test.YthabklgeopdlhaaArithY
import Derived.Deep.RegionHeld3
namespace Go.Proofs.Ythabklgeopdlhaa
open Go.RowKit

/-- A set lies outside of an encoder. -/
def SetOff (n b p g : Nat) (v : Value) : Prop := 0 < n → b ≠ p ∧ b ≠ g ∧ v.ownBlock ≠ some b
theorem SetOff.step {n b p g : Nat} {v v' : Value} {w w' : World} (h : SetOff n b p g v) (st : EnStep p g v v' w w') (hb : 0 < n → b < w.heap.size) : SetOff n b p g v' := by
  intro hn
  obtain ⟨h1, h2, h3⟩ := h hn
  refine ⟨h1, h2, fun e => ?_⟩
  rcases st.at' with e' | e'
  · exact h3 (e' ▸ e)
  · have := e' b e
    have := hb hn
    omega
theorem SetOff.not {n b p g : Nat} {v : Value} (h : SetOff n b p g v) (hn : 0 < n) : ¬ (b = p ∨ b = g ∨ v.ownBlock = some b) := by
  obtain ⟨h1, h2, h3⟩ := h hn
  rintro (e | e | e)
  · exact h1 e
  · exact h2 e
  · exact h3 e

/-- Put, of a number that may not be. -/
theorem bput_no (P : Option Addr) (V : Value) (z : Int) (w : World) (a : Option Addr) (n cap : Nat) (D S : Int) (hV : V = .agg #[.slice a n cap, .int .i64 D, .int .i64 S]) (h : okN z = false) :
    Calls Try.prog 13 #[.pointer P, V, .int .i64 z] w fun e w' => e = .returned (.bool false) ∧ Fr (fun _ => False) w w' := by
  subst hV
  go_enter Try.func13, Try.ntmps13
  go_wp2
  go_quiet ((go_at_call 34; exact Calls.quiet_of_same (by have := mayBe_any z; rw [h] at this; exact this _)))
  go_wp2
  go_ret
  exact ⟨rfl, ((Fr.refl _ w).alloc _).drewN _⟩

theorem shift_bit (v k : Nat) (hv : v ≤ 2199023255550) : (Go.bits .and .u64 (((v : Int) + 1) / 2 ^ k) 1 == 1) = (v + 1).testBit k := by
  have := shr_and ((v : Int) + 1) k (by omega) (by omega)
  rwa [show ((v : Int) + 1).toNat = v + 1 by omega] at this

/-- Put, by a set that isn't right. -/
theorem bput_bad (w : World) (p g : Nat) (v : Value) (zs : List Nat) (c : Nat) (s : CS) (a : Option Addr) (n cap : Nat) (V : Nat → Int) (b : Nat) (D S : Int) (z : Nat) (h : En w p g v zs c s) (hs : SetV w a n cap V b) (hc : c ≤ 64) (hz : z ≤ 2199023255550) (hr : rightS V n D S c = false) :
    Calls Try.prog 13 #[.pointer (some ⟨p, 0, none⟩), .agg #[.slice a n cap, .int .i64 D, .int .i64 S], .int .i64 (z : Int)] w fun e w' => e = .returned (.bool false) ∧ Fr (fun _ => False) w w' := by
  have hok : okN (z : Int) = true := by unfold okN; rw [decide_eq_true_eq]; omega
  obtain ⟨W, hW⟩ : ∃ W, W = w.alloc (.cells #[.slice a n cap, .int .i64 D, .int .i64 S] 24) := ⟨_, rfl⟩
  have F0 : Fr (fun _ => False) w W := by rw [hW]; exact (Fr.refl _ w).alloc _
  have h1 := h.quiet F0
  have s1 := hs.quiet F0
  have B1 : Blk W w.heap.size #[.slice a n cap, .int .i64 D, .int .i64 S] 24 := by rw [hW]; exact Blk.new w _ _
  have k0 : W.cell? ⟨w.heap.size, 0, none⟩ = some (.slice a n cap) := by rw [B1.cell]; rfl
  have k1 : W.cell? ⟨w.heap.size, 1, none⟩ = some (.int .i64 D) := by rw [B1.cell]; rfl
  have k2 : W.cell? ⟨w.heap.size, 2, none⟩ = some (.int .i64 S) := by rw [B1.cell]; rfl
  have HW := hid hW
  have HM : Hid (∀ u, Calls Try.prog 34 #[.int .i64 (z : Int)] u fun e w' => e = .returned (.bool true) ∧ w' = u) := by
    show ∀ u, _
    intro u
    have := mayBe_any (z : Int) u
    rwa [hok] at this
  have HC : Hid (Calls Try.prog 21 #[.pointer (some ⟨p, 0, none⟩)] W.drew fun e w' => ∃ q, e = .returned (.slice (some ⟨q, 0, none⟩) c c) ∧ Fr (fun _ => False) W w') := by
    refine (echances_any W.drew p g v zs c s (h1.quiet ((Fr.refl (fun _ => False) W).drew)) hc).mono ?_
    rintro e w2 ⟨q, rfl, _, _, f2⟩
    exact ⟨q, rfl, ((Fr.refl (fun _ => False) W).drew).trans' f2⟩
  have HR : Hid (∀ (q : Nat) (u : World), Fr (fun _ => False) W u → Calls Try.prog 35 #[.agg #[.slice a n cap, .int .i64 D, .int .i64 S], .slice (some ⟨q, 0, none⟩) c c] u fun e w' => e = .returned (.bool false) ∧ Fr (fun _ => False) u w') := by
    show ∀ (q : Nat) (u : World), _
    intro q u f
    have := bright_any u a n cap V b D S (some ⟨q, 0, none⟩) c c (s1.quiet f)
    rwa [hr] at this
  clear hW
  go_enter Try.func13, Try.ntmps13
  go_wp2
  rw [← HW.out]
  go_region_held3 (fun w' => w'.cell? ⟨w.heap.size, 0, none⟩ = some (.slice a n cap) ∧ w'.cell? ⟨w.heap.size, 1, none⟩ = some (.int .i64 D) ∧ w'.cell? ⟨w.heap.size, 2, none⟩ = some (.int .i64 S)) (go_keep) (first
    | (go_at_call 34; refine (HM.out _).mono ?_; rintro e w2 ⟨rfl, rfl⟩)
    | (go_at_call 21; refine HC.out.mono ?_; rintro e w3 ⟨q, rfl, f3⟩; have m0 := (f3.cell (p := ⟨w.heap.size, 0, none⟩) (cell_lt k0) (fun h => h)).trans k0; have m1 := (f3.cell (p := ⟨w.heap.size, 1, none⟩) (cell_lt k1) (fun h => h)).trans k1; have m2 := (f3.cell (p := ⟨w.heap.size, 2, none⟩) (cell_lt k2) (fun h => h)).trans k2)
    | (go_at_call 35; refine (HR.out _ _ f3).mono ?_; rintro e w4 ⟨rfl, f4⟩; have n0 := (f4.cell (p := ⟨w.heap.size, 0, none⟩) (cell_lt m0) (fun h => h)).trans m0; have n1 := (f4.cell (p := ⟨w.heap.size, 1, none⟩) (cell_lt m1) (fun h => h)).trans m1; have n2 := (f4.cell (p := ⟨w.heap.size, 2, none⟩) (cell_lt m2) (fun h => h)).trans m2))
  go_wp2
  go_ret
  exact ⟨rfl, (F0.trans' f3).trans' f4⟩

/-- Put, of a nil encoder. -/
theorem bput_nilgo (w : World) (a : Option Addr) (n cap : Nat) (V : Nat → Int) (b : Nat) (D S : Int) (z : Nat) (hs : SetV w a n cap V b) (hz : z ≤ 2199023255550) :
    Calls Try.prog 13 #[.pointer none, .agg #[.slice a n cap, .int .i64 D, .int .i64 S], .int .i64 (z : Int)] w fun e w' => e = .returned (.bool false) ∧ Fr (fun _ => False) w w' := by
  have hok : okN (z : Int) = true := by unfold okN; rw [decide_eq_true_eq]; omega
  obtain ⟨W, hW⟩ : ∃ W, W = w.alloc (.cells #[.slice a n cap, .int .i64 D, .int .i64 S] 24) := ⟨_, rfl⟩
  have F0 : Fr (fun _ => False) w W := by rw [hW]; exact (Fr.refl _ w).alloc _
  have s1 := hs.quiet F0
  have B1 : Blk W w.heap.size #[.slice a n cap, .int .i64 D, .int .i64 S] 24 := by rw [hW]; exact Blk.new w _ _
  have k0 : W.cell? ⟨w.heap.size, 0, none⟩ = some (.slice a n cap) := by rw [B1.cell]; rfl
  have k1 : W.cell? ⟨w.heap.size, 1, none⟩ = some (.int .i64 D) := by rw [B1.cell]; rfl
  have k2 : W.cell? ⟨w.heap.size, 2, none⟩ = some (.int .i64 S) := by rw [B1.cell]; rfl
  have HW := hid hW
  have HM : Hid (∀ u, Calls Try.prog 34 #[.int .i64 (z : Int)] u fun e w' => e = .returned (.bool true) ∧ w' = u) := by
    show ∀ u, _
    intro u
    have := mayBe_any (z : Int) u
    rwa [hok] at this
  have HC : Hid (Calls Try.prog 21 #[.pointer none] W.drew fun e w' => e = .returned (.slice none 0 0) ∧ Fr (fun _ => False) W w') := by
    refine (echances_nil W.drew).mono ?_
    rintro e w2 ⟨rfl, rfl⟩
    exact ⟨rfl, (Fr.refl (fun _ => False) W).drew⟩
  have HR : Hid (∀ (u : World), Fr (fun _ => False) W u → Calls Try.prog 35 #[.agg #[.slice a n cap, .int .i64 D, .int .i64 S], .slice none 0 0] u fun e w' => e = .returned (.bool false) ∧ Fr (fun _ => False) u w') := by
    show ∀ (u : World), _
    intro u f
    have := bright_any u a n cap V b D S none 0 0 (s1.quiet f)
    rwa [rightS_ctx] at this
  clear hW
  go_enter Try.func13, Try.ntmps13
  go_wp2
  rw [← HW.out]
  go_region_held3 (fun w' => w'.cell? ⟨w.heap.size, 0, none⟩ = some (.slice a n cap) ∧ w'.cell? ⟨w.heap.size, 1, none⟩ = some (.int .i64 D) ∧ w'.cell? ⟨w.heap.size, 2, none⟩ = some (.int .i64 S)) (go_keep) (first
    | (go_at_call 34; refine (HM.out _).mono ?_; rintro e w2 ⟨rfl, rfl⟩)
    | (go_at_call 21; refine HC.out.mono ?_; rintro e w3 ⟨rfl, f3⟩; have m0 := (f3.cell (p := ⟨w.heap.size, 0, none⟩) (cell_lt k0) (fun h => h)).trans k0; have m1 := (f3.cell (p := ⟨w.heap.size, 1, none⟩) (cell_lt k1) (fun h => h)).trans k1; have m2 := (f3.cell (p := ⟨w.heap.size, 2, none⟩) (cell_lt k2) (fun h => h)).trans k2)
    | (go_at_call 35; refine (HR.out _ f3).mono ?_; rintro e w4 ⟨rfl, f4⟩; have n0 := (f4.cell (p := ⟨w.heap.size, 0, none⟩) (cell_lt m0) (fun h => h)).trans m0; have n1 := (f4.cell (p := ⟨w.heap.size, 1, none⟩) (cell_lt m1) (fun h => h)).trans m1; have n2 := (f4.cell (p := ⟨w.heap.size, 2, none⟩) (cell_lt m2) (fun h => h)).trans m2))
  go_wp2
  go_ret
  exact ⟨rfl, (F0.trans' f3).trans' f4⟩

set_option maxHeartbeats 1000000 in
theorem bput_go (w : World) (p g : Nat) (v : Value) (zs : List Nat) (c : Nat) (s : CS) (a : Option Addr) (n cap : Nat) (V : Nat → Int) (b : Nat) (D S : Int) (z : Nat) (h : En w p g v zs c s) (hs : SetV w a n cap V b) (hoff : SetOff n b p g v) (hc : c ≤ 64) (hN : s.N ≤ 10000000) (hG : Good c s) (hz : z ≤ 2199023255550) (hr : rightS V n D S c = true) :
    Calls Try.prog 13 #[.pointer (some ⟨p, 0, none⟩), .agg #[.slice a n cap, .int .i64 D, .int .i64 S], .int .i64 (z : Int)] w fun e w' => e = .returned (.bool true) ∧ EnGets p g v w w' c (runC c s (numSteps (fol V n) D z)) := by
  have hok : okN (z : Int) = true := by unfold okN; rw [decide_eq_true_eq]; omega
  obtain ⟨W, hW⟩ : ∃ W, W = w.alloc (.cells #[.slice a n cap, .int .i64 D, .int .i64 S] 24) := ⟨_, rfl⟩
  have F0 : Fr (fun _ => False) w W := by rw [hW]; exact (Fr.refl _ w).alloc _
  have h1 := h.quiet F0
  have s1 := hs.quiet F0
  have B1 : Blk W w.heap.size #[.slice a n cap, .int .i64 D, .int .i64 S] 24 := by rw [hW]; exact Blk.new w _ _
  have k0 : W.cell? ⟨w.heap.size, 0, none⟩ = some (.slice a n cap) := by rw [B1.cell]; rfl
  have k1 : W.cell? ⟨w.heap.size, 1, none⟩ = some (.int .i64 D) := by rw [B1.cell]; rfl
  have k2 : W.cell? ⟨w.heap.size, 2, none⟩ = some (.int .i64 S) := by rw [B1.cell]; rfl
  have HW := hid hW
  have HM : Hid (∀ u, Calls Try.prog 34 #[.int .i64 (z : Int)] u fun e w' => e = .returned (.bool true) ∧ w' = u) := by
    show ∀ u, _
    intro u
    have := mayBe_any (z : Int) u
    rwa [hok] at this
  have HC : Hid (Calls Try.prog 21 #[.pointer (some ⟨p, 0, none⟩)] W.drew fun e w' => ∃ q, e = .returned (.slice (some ⟨q, 0, none⟩) c c) ∧ Fr (fun _ => False) W w') := by
    refine (echances_any W.drew p g v zs c s (h1.quiet ((Fr.refl (fun _ => False) W).drew)) hc).mono ?_
    rintro e w2 ⟨q, rfl, _, _, f2⟩
    exact ⟨q, rfl, ((Fr.refl (fun _ => False) W).drew).trans' f2⟩
  have HR : Hid (∀ (q : Nat) (u : World), Fr (fun _ => False) W u → Calls Try.prog 35 #[.agg #[.slice a n cap, .int .i64 D, .int .i64 S], .slice (some ⟨q, 0, none⟩) c c] u fun e w' => e = .returned (.bool true) ∧ Fr (fun _ => False) u w') := by
    show ∀ (q : Nat) (u : World), _
    intro q u f
    have := bright_any u a n cap V b D S (some ⟨q, 0, none⟩) c c (s1.quiet f)
    rwa [hr] at this
  clear hW
  go_enter Try.func13, Try.ntmps13
  go_wp2
  rw [← HW.out]
  go_region_held3 (fun w' => w'.cell? ⟨w.heap.size, 0, none⟩ = some (.slice a n cap) ∧ w'.cell? ⟨w.heap.size, 1, none⟩ = some (.int .i64 D) ∧ w'.cell? ⟨w.heap.size, 2, none⟩ = some (.int .i64 S)) (go_keep) (first
    | (go_at_call 34; refine (HM.out _).mono ?_; rintro e w2 ⟨rfl, rfl⟩)
    | (go_at_call 21; refine HC.out.mono ?_; rintro e w3 ⟨q, rfl, f3⟩; have m0 := (f3.cell (p := ⟨w.heap.size, 0, none⟩) (cell_lt k0) (fun h => h)).trans k0; have m1 := (f3.cell (p := ⟨w.heap.size, 1, none⟩) (cell_lt k1) (fun h => h)).trans k1; have m2 := (f3.cell (p := ⟨w.heap.size, 2, none⟩) (cell_lt k2) (fun h => h)).trans k2)
    | (go_at_call 35; refine (HR.out _ _ f3).mono ?_; rintro e w4 ⟨rfl, f4⟩; have n0 := (f4.cell (p := ⟨w.heap.size, 0, none⟩) (cell_lt m0) (fun h => h)).trans m0; have n1 := (f4.cell (p := ⟨w.heap.size, 1, none⟩) (cell_lt m1) (fun h => h)).trans m1; have n2 := (f4.cell (p := ⟨w.heap.size, 2, none⟩) (cell_lt m2) (fun h => h)).trans m2))
  have F4 : Fr (fun _ => False) W w4 := f3.trans' f4
  have h4 := h1.quiet F4
  have B4 := B1.fr F4 (fun h => h)
  have st4 : EnStep p g v v w w4 := ⟨(F0.trans' F4).mono (fun _ _ h => h.elim), .inl rfl⟩
  clear HC HR HM k0 k1 k2 m0 m1 m2 n0 n1 n2 f3 f4 F4 h1 s1 B1 F0 HW
  have hn : 0 < n := (rightS_true hr).1
  have hb := hs.lt hn
  have hk := ndig_le z hz
  obtain ⟨k, hkk⟩ : ∃ k, k = ndig z := ⟨_, rfl⟩
  rw [← hkk] at hk
  have HK := hid hkk
  have hpw : p < w.heap.size := h.blk.lt
  have hgw : g < p := h.gp
  have hvw : ∀ i, v.ownBlock = some i → i < w.heap.size := fun i hi => (h.vlt hi).2
  go_wp2_with fail
  refine (bdigits_any z w4 hz).mono ?_
  rintro e w5 ⟨rfl, rfl⟩
  rw [← HK.out]
  clear hkk
  go_wp2
  go_loopw [26] (fun i wr => ∃ (j : Nat) (v' : Value) (zs' : List Nat), j ≤ k ∧ i = .int .i64 (j : Int) ∧ En wr p g v' zs' c (runC c s (digSteps (fol V n) D (z + 1) k j)) ∧ EnStep p g v v' w wr ∧ v'.ownBlock ≠ some w.heap.size ∧ Blk wr w.heap.size #[.slice a n cap, .int .i64 D, .int .i64 S] 24) (fun i _ => k - (intOf i).toNat)
  case atStart => exact ⟨0, v, zs, Nat.zero_le _, rfl, h4, st4, fun e => by have := hvw _ e; omega, B4⟩
  case round =>
    clear h4 st4 B4
    obtain ⟨j, v6, zs6, hj, rfl, h6, st6, nv6, B6⟩ := hrel
    have s6 := hs.fr st6.fr hoff.not
    have off6 := hoff.step st6 (fun _ => hb)
    have hG6 := runC_good c (digSteps (fol V n) D (z + 1) k j) s hG
    have hN6 := runC_N c (digSteps (fol V n) D (z + 1) k j) s
    rw [digSteps_length] at hN6
    have k0 : wr.cell? ⟨w.heap.size, 0, none⟩ = some (.slice a n cap) := by rw [B6.cell]; rfl
    have k1 : wr.cell? ⟨w.heap.size, 1, none⟩ = some (.int .i64 D) := by rw [B6.cell]; rfl
    have k2 : wr.cell? ⟨w.heap.size, 2, none⟩ = some (.int .i64 S) := by rw [B6.cell]; rfl
    by_cases hlt : j < k
    · have hji : (j : Int) < (k : Int) := by omega
      have HS : Hid (runC c s (digSteps (fol V n) D (z + 1) k (j + 1)) = putX c (putX c (runC c s (digSteps (fol V n) D (z + 1) k j)) (fol V n j) false) D ((z + 1).testBit (k - 1 - j))) := by
        show _ = _
        rw [digSteps_succ]
        simp [runC]
      go_wp2_with fail
      refine (bfollow_any wr a n cap V b D S j s6 hn).mono ?_
      rintro e w7 ⟨rfl, f7⟩
      have h7 := h6.quiet f7
      have B7 := B6.fr f7 (fun h => h)
      have st7 : EnStep p g v v6 w w7 := st6.trans ⟨f7.mono (fun _ _ h => h.elim), .inl rfl⟩
      clear h6 B6 st6 s6 f7 k0 k1 k2
      generalize runC c s (digSteps (fol V n) D (z + 1) k j) = sj at *
      go_wp2_with fail
      refine (eput_any w7 p g v6 zs6 c sj (fol V n j) false h7 hc (by omega) hG6).mono ?_
      rintro e w8 ⟨rfl, v8, zs8, h8, st8⟩
      have nn8 : ¬ (w.heap.size = p ∨ w.heap.size = g ∨ v6.ownBlock = some w.heap.size) := by
        rintro (e | e | e)
        · omega
        · omega
        · exact nv6 e
      have B8 := B7.fr st8.fr nn8
      have nv8 : v8.ownBlock ≠ some w.heap.size := fun e => by
        rcases st8.at' with e' | e'
        · exact nv6 (e' ▸ e)
        · have := e' _ e; have := B7.lt; omega
      have st8' := st7.trans st8
      have hG8 := hG6.put (fol V n j) false
      have hN8 := putX_N c sj (fol V n j) false
      have k1 : w8.cell? ⟨w.heap.size, 1, none⟩ = some (.int .i64 D) := by rw [B8.cell]; rfl
      clear h7 st7 st8 B7 nn8 hG6
      generalize putX c sj (fol V n j) false = sj8 at *
      have HB := hid (shift_bit z (k - 1 - j) hz)
      go_wp2_with fail
      rw [HB.out]
      refine (eput_any w8 p g v8 zs8 c sj8 D _ h8 hc (by omega) hG8).mono ?_
      rintro e w9 ⟨rfl, v9, zs9, h9, st9⟩
      rw [← HS.out] at h9
      have nn9 : ¬ (w.heap.size = p ∨ w.heap.size = g ∨ v8.ownBlock = some w.heap.size) := by
        rintro (e | e | e)
        · omega
        · omega
        · exact nv8 e
      have B9 := B8.fr st9.fr nn9
      have nv9 : v9.ownBlock ≠ some w.heap.size := fun e => by
        rcases st9.at' with e' | e'
        · exact nv8 (e' ▸ e)
        · have := e' _ e; have := B8.lt; omega
      have st9' := st8'.trans st9
      clear h8 st8' st9 B8 nn9 hG8 k1 HB HS
      go_wp2
      go_roundw
      case rel => exact ⟨j + 1, v9, zs9, by omega, by go_num, h9, st9', nv9, B9⟩
      case measure => simp [intOf]; omega
    · have hji : ¬ (j : Int) < (k : Int) := by omega
      obtain rfl : j = k := by omega
      by_cases h40 : j < 40
      · have h4i : (j : Int) < 40 := by omega
        have HS : Hid (runC c s (numSteps (fol V n) D z) = putX c (runC c s (digSteps (fol V n) D (z + 1) j j)) (fol V n j) true) := by
          show _ = _
          unfold numSteps
          rw [← HK.out, if_pos h40]
          simp [runC]
        go_wp2_with fail
        refine (bfollow_any wr a n cap V b D S j s6 hn).mono ?_
        rintro e w7 ⟨rfl, f7⟩
        have h7 := h6.quiet f7
        have st7 : EnStep p g v v6 w w7 := st6.trans ⟨f7.mono (fun _ _ h => h.elim), .inl rfl⟩
        clear h6 B6 st6 s6 f7 k0 k1 k2
        generalize runC c s (digSteps (fol V n) D (z + 1) j j) = sj at *
        go_wp2_with fail
        refine (eput_any w7 p g v6 zs6 c sj (fol V n j) true h7 hc (by omega) hG6).mono ?_
        rintro e w8 ⟨rfl, v8, zs8, h8, st8⟩
        rw [← HS.out] at h8
        go_wp2
        go_ret
        exact ⟨rfl, v8, zs8, h8, st7.trans st8⟩
      · have h4i : ¬ (j : Int) < 40 := by omega
        have HS : Hid (runC c s (numSteps (fol V n) D z) = runC c s (digSteps (fol V n) D (z + 1) j j)) := by
          show _ = _
          unfold numSteps
          rw [← HK.out, if_neg h40, List.append_nil]
        rw [← HS.out] at h6
        go_wp2
        go_ret
        exact ⟨rfl, v6, zs6, h6, st6⟩

/-- Put. -/
theorem bput_any (w : World) (p g : Nat) (v : Value) (zs : List Nat) (c : Nat) (s : CS) (a : Option Addr) (n cap : Nat) (V : Nat → Int) (b : Nat) (D S : Int) (z : Int) (h : En w p g v zs c s) (hs : SetV w a n cap V b) (hoff : SetOff n b p g v) (hc : c ≤ 64) (hN : s.N ≤ 10000000) (hG : Good c s) :
    Calls Try.prog 13 #[.pointer (some ⟨p, 0, none⟩), .agg #[.slice a n cap, .int .i64 D, .int .i64 S], .int .i64 z] w fun e w' => e = .returned (.bool (okN z && rightS V n D S c)) ∧ EnGets p g v w w' c (putN V n D S c s z) := by
  unfold putN
  cases ho : okN z with
  | false =>
    refine (bput_no _ _ z w a n cap D S rfl ho).mono ?_
    rintro e w1 ⟨rfl, f⟩
    exact ⟨rfl, v, zs, h.quiet f, f.mono (fun _ _ h => h.elim), .inl rfl⟩
  | true =>
    obtain ⟨h0, h1⟩ := okN_true ho
    obtain ⟨x, rfl⟩ := Int.eq_ofNat_of_zero_le h0
    cases hr : rightS V n D S c with
    | false =>
      refine (bput_bad w p g v zs c s a n cap V b D S x h hs hc (by omega) hr).mono ?_
      rintro e w1 ⟨rfl, f⟩
      exact ⟨rfl, v, zs, h.quiet f, f.mono (fun _ _ h => h.elim), .inl rfl⟩
    | true =>
      refine (bput_go w p g v zs c s a n cap V b D S x h hs hoff hc hN hG (by omega) hr).mono ?_
      rintro e w1 ⟨rfl, f⟩
      exact ⟨rfl, f⟩

/-- Put, into nothing. -/
theorem bput_nil (w : World) (a : Option Addr) (n cap : Nat) (V : Nat → Int) (b : Nat) (D S : Int) (z : Int) (hs : SetV w a n cap V b) :
    Calls Try.prog 13 #[.pointer none, .agg #[.slice a n cap, .int .i64 D, .int .i64 S], .int .i64 z] w fun e w' => e = .returned (.bool false) ∧ Fr (fun _ => False) w w' := by
  cases ho : okN z with
  | false => exact bput_no _ _ z w a n cap D S rfl ho
  | true =>
    obtain ⟨h0, h1⟩ := okN_true ho
    obtain ⟨x, rfl⟩ := Int.eq_ofNat_of_zero_le h0
    exact bput_nilgo w a n cap V b D S x hs (by omega)

/-- Bits. -/
theorem bbits_any (z : Int) (w : World) :
    Calls Try.prog 16 #[.int .i64 z] w fun e w' => e = .returned (.int .i64 (if okN z then (ncost z.toNat : Int) else 0)) ∧ w' = w := by
  cases ho : okN z with
  | false =>
    go_enter Try.func16, Try.ntmps16
    go_wp2_with fail
    refine (mayBe_any _ _).mono ?_
    rintro e w1 ⟨rfl, rfl⟩
    rw [ho]
    go_wp2
    go_ret
    exact ⟨rfl, rfl⟩
  | true =>
    obtain ⟨h0, h1⟩ := okN_true ho
    obtain ⟨x, rfl⟩ := Int.eq_ofNat_of_zero_le h0
    have hk := ndig_le x (by omega)
    have HC : Hid (ncost x = 2 * ndig x + if ndig x < 40 then 1 else 0) := Eq.refl _
    have HD : Hid (∀ u, Calls Try.prog 36 #[.int .i64 (x : Int)] u fun e w' => e = .returned (.int .i64 ((ndig x : Nat) : Int)) ∧ w' = u) := fun u => bdigits_any x u (by omega)
    rw [Int.toNat_natCast, if_pos rfl]
    generalize ncost x = cst at *
    generalize ndig x = k at *
    by_cases h40 : k < 40
    · have h4i : (k : Int) < 40 := by omega
      go_enter Try.func16, Try.ntmps16
      go_wp2_with fail
      refine (mayBe_any _ _).mono ?_
      rintro e w1 ⟨rfl, rfl⟩
      rw [ho]
      go_wp2_with fail
      refine (HD.out _).mono ?_
      rintro e w2 ⟨rfl, rfl⟩
      go_wp2
      go_ret
      exact ⟨ret_int (by have := HC.out; rw [if_pos h40] at this; omega), rfl⟩
    · have h4i : ¬ (k : Int) < 40 := by omega
      go_enter Try.func16, Try.ntmps16
      go_wp2_with fail
      refine (mayBe_any _ _).mono ?_
      rintro e w1 ⟨rfl, rfl⟩
      rw [ho]
      go_wp2_with fail
      refine (HD.out _).mono ?_
      rintro e w2 ⟨rfl, rfl⟩
      go_wp2
      go_ret
      exact ⟨ret_int (by have := HC.out; rw [if_neg h40] at this; omega), rfl⟩
end Go.Proofs.Ythabklgeopdlhaa
