/-
  Package bins: numbers told.
-/
import Derived.Test.YthabklgeopdlhaaBinsP
import Derived.Test.YthabklgeopdlhaaArithD
import Derived.Deep.RegionHeld3
import Derived.Deep.LoopGhost
import Derived.WalkMore
namespace Go.Proofs.Ythabklgeopdlhaa
open Go.RowKit

/-- Get, by a set that isn't right. -/
theorem bget_bad (w : World) (p g r q : Nat) (zs : List Nat) (c : Nat) (s : DX) (a : Option Addr) (n cap : Nat) (V : Nat → Int) (b : Nat) (D S : Int) (h : De w p g r q zs c s) (hs : SetV w a n cap V b) (hc : c ≤ 64) (hr : rightS V n D S c = false) :
    Calls Try.prog 26 #[.pointer (some ⟨p, 0, none⟩), .agg #[.slice a n cap, .int .i64 D, .int .i64 S]] w fun e w' => e = .returned (.int .i64 0) ∧ Fr (fun _ => False) w w' := by
  obtain ⟨W, hW⟩ : ∃ W, W = w.alloc (.cells #[.slice a n cap, .int .i64 D, .int .i64 S] 24) := ⟨_, rfl⟩
  have F0 : Fr (fun _ => False) w W := by rw [hW]; exact (Fr.refl _ w).alloc _
  have h1 := h.quiet F0
  have s1 := hs.quiet F0
  have B1 : Blk W w.heap.size #[.slice a n cap, .int .i64 D, .int .i64 S] 24 := by rw [hW]; exact Blk.new w _ _
  have k0 : W.cell? ⟨w.heap.size, 0, none⟩ = some (.slice a n cap) := by rw [B1.cell]; rfl
  have k1 : W.cell? ⟨w.heap.size, 1, none⟩ = some (.int .i64 D) := by rw [B1.cell]; rfl
  have k2 : W.cell? ⟨w.heap.size, 2, none⟩ = some (.int .i64 S) := by rw [B1.cell]; rfl
  have HW := hid hW
  have HC : Hid (Calls Try.prog 29 #[.pointer (some ⟨p, 0, none⟩)] W.drew fun e w' => ∃ q, e = .returned (.slice (some ⟨q, 0, none⟩) c c) ∧ Fr (fun _ => False) W w') := by
    refine (dchances_any W.drew p g r q zs c s (h1.quiet ((Fr.refl (fun _ => False) W).drew)) hc).mono ?_
    rintro e w2 ⟨q, rfl, _, _, f2⟩
    exact ⟨q, rfl, ((Fr.refl (fun _ => False) W).drew).trans' f2⟩
  have HR : Hid (∀ (q : Nat) (u : World), Fr (fun _ => False) W u → Calls Try.prog 35 #[.agg #[.slice a n cap, .int .i64 D, .int .i64 S], .slice (some ⟨q, 0, none⟩) c c] u fun e w' => e = .returned (.bool false) ∧ Fr (fun _ => False) u w') := by
    show ∀ (q : Nat) (u : World), _
    intro q u f
    have := bright_any u a n cap V b D S (some ⟨q, 0, none⟩) c c (s1.quiet f)
    rwa [hr] at this
  clear hW
  go_enter Try.func26, Try.ntmps26
  go_wp2
  go_step3
  go_wp2
  rw [← HW.out]
  go_region_held3 (fun w' => w'.cell? ⟨w.heap.size, 0, none⟩ = some (.slice a n cap) ∧ w'.cell? ⟨w.heap.size, 1, none⟩ = some (.int .i64 D) ∧ w'.cell? ⟨w.heap.size, 2, none⟩ = some (.int .i64 S)) (go_keep) (first
    | (go_at_call 29; refine HC.out.mono ?_; rintro e w3 ⟨q3, rfl, f3⟩; have m0 := (f3.cell (p := ⟨w.heap.size, 0, none⟩) (cell_lt k0) (fun h => h)).trans k0; have m1 := (f3.cell (p := ⟨w.heap.size, 1, none⟩) (cell_lt k1) (fun h => h)).trans k1; have m2 := (f3.cell (p := ⟨w.heap.size, 2, none⟩) (cell_lt k2) (fun h => h)).trans k2)
    | (go_at_call 35; refine (HR.out _ _ f3).mono ?_; rintro e w4 ⟨rfl, f4⟩; have n0 := (f4.cell (p := ⟨w.heap.size, 0, none⟩) (cell_lt m0) (fun h => h)).trans m0; have n1 := (f4.cell (p := ⟨w.heap.size, 1, none⟩) (cell_lt m1) (fun h => h)).trans m1; have n2 := (f4.cell (p := ⟨w.heap.size, 2, none⟩) (cell_lt m2) (fun h => h)).trans m2))
  go_wp2
  rw [Exit.noGoto_ret]
  go_ret
  exact ⟨rfl, (F0.trans' f3).trans' f4⟩

/-- Get, of a nil decoder. -/
theorem bget_nil (w : World) (a : Option Addr) (n cap : Nat) (V : Nat → Int) (b : Nat) (D S : Int) (hs : SetV w a n cap V b) :
    Calls Try.prog 26 #[.pointer none, .agg #[.slice a n cap, .int .i64 D, .int .i64 S]] w fun e w' => e = .returned (.int .i64 0) ∧ Fr (fun _ => False) w w' := by
  obtain ⟨W, hW⟩ : ∃ W, W = w.alloc (.cells #[.slice a n cap, .int .i64 D, .int .i64 S] 24) := ⟨_, rfl⟩
  have F0 : Fr (fun _ => False) w W := by rw [hW]; exact (Fr.refl _ w).alloc _
  have s1 := hs.quiet F0
  have B1 : Blk W w.heap.size #[.slice a n cap, .int .i64 D, .int .i64 S] 24 := by rw [hW]; exact Blk.new w _ _
  have k0 : W.cell? ⟨w.heap.size, 0, none⟩ = some (.slice a n cap) := by rw [B1.cell]; rfl
  have k1 : W.cell? ⟨w.heap.size, 1, none⟩ = some (.int .i64 D) := by rw [B1.cell]; rfl
  have k2 : W.cell? ⟨w.heap.size, 2, none⟩ = some (.int .i64 S) := by rw [B1.cell]; rfl
  have HW := hid hW
  have HC : Hid (Calls Try.prog 29 #[.pointer none] W.drew fun e w' => e = .returned (.slice none 0 0) ∧ Fr (fun _ => False) W w') := by
    refine (dchances_nil W.drew).mono ?_
    rintro e w2 ⟨rfl, rfl⟩
    exact ⟨rfl, (Fr.refl (fun _ => False) W).drew⟩
  have HR : Hid (∀ (u : World), Fr (fun _ => False) W u → Calls Try.prog 35 #[.agg #[.slice a n cap, .int .i64 D, .int .i64 S], .slice none 0 0] u fun e w' => e = .returned (.bool false) ∧ Fr (fun _ => False) u w') := by
    show ∀ (u : World), _
    intro u f
    have := bright_any u a n cap V b D S none 0 0 (s1.quiet f)
    rwa [rightS_ctx] at this
  clear hW
  go_enter Try.func26, Try.ntmps26
  go_wp2
  go_step3
  go_wp2
  rw [← HW.out]
  go_region_held3 (fun w' => w'.cell? ⟨w.heap.size, 0, none⟩ = some (.slice a n cap) ∧ w'.cell? ⟨w.heap.size, 1, none⟩ = some (.int .i64 D) ∧ w'.cell? ⟨w.heap.size, 2, none⟩ = some (.int .i64 S)) (go_keep) (first
    | (go_at_call 29; refine HC.out.mono ?_; rintro e w3 ⟨rfl, f3⟩; have m0 := (f3.cell (p := ⟨w.heap.size, 0, none⟩) (cell_lt k0) (fun h => h)).trans k0; have m1 := (f3.cell (p := ⟨w.heap.size, 1, none⟩) (cell_lt k1) (fun h => h)).trans k1; have m2 := (f3.cell (p := ⟨w.heap.size, 2, none⟩) (cell_lt k2) (fun h => h)).trans k2)
    | (go_at_call 35; refine (HR.out _ f3).mono ?_; rintro e w4 ⟨rfl, f4⟩; have n0 := (f4.cell (p := ⟨w.heap.size, 0, none⟩) (cell_lt m0) (fun h => h)).trans m0; have n1 := (f4.cell (p := ⟨w.heap.size, 1, none⟩) (cell_lt m1) (fun h => h)).trans m1; have n2 := (f4.cell (p := ⟨w.heap.size, 2, none⟩) (cell_lt m2) (fun h => h)).trans m2))
  go_wp2
  rw [Exit.noGoto_ret]
  go_ret
  exact ⟨rfl, (F0.trans' f3).trans' f4⟩

set_option maxHeartbeats 1000000 in
theorem bget_go (w : World) (p g r q : Nat) (zs : List Nat) (c : Nat) (s : DX) (a : Option Addr) (n cap : Nat) (V : Nat → Int) (b : Nat) (D S : Int) (h : De w p g r q zs c s) (hs : SetV w a n cap V b) (hoff : 0 < n → ¬ DeS p g r b) (hc : c ≤ 64) (hz : zs.length ≤ 1000000000) (hN : s.N ≤ 100000) (hG : DGood c s) (hr : rightS V n D S c = true) :
    Calls Try.prog 26 #[.pointer (some ⟨p, 0, none⟩), .agg #[.slice a n cap, .int .i64 D, .int .i64 S]] w fun e w' => e = .returned (.int .i64 ((gnum (bitAt zs) c (fol V n) D 40 0 1 s).1 : Int)) ∧ De w' p g r q zs c (gnum (bitAt zs) c (fol V n) D 40 0 1 s).2 ∧ Fr (DeS p g r) w w' := by
  obtain ⟨W, hW⟩ : ∃ W, W = w.alloc (.cells #[.slice a n cap, .int .i64 D, .int .i64 S] 24) := ⟨_, rfl⟩
  have F0 : Fr (fun _ => False) w W := by rw [hW]; exact (Fr.refl _ w).alloc _
  have h1 := h.quiet F0
  have s1 := hs.quiet F0
  have B1 : Blk W w.heap.size #[.slice a n cap, .int .i64 D, .int .i64 S] 24 := by rw [hW]; exact Blk.new w _ _
  have k0 : W.cell? ⟨w.heap.size, 0, none⟩ = some (.slice a n cap) := by rw [B1.cell]; rfl
  have k1 : W.cell? ⟨w.heap.size, 1, none⟩ = some (.int .i64 D) := by rw [B1.cell]; rfl
  have k2 : W.cell? ⟨w.heap.size, 2, none⟩ = some (.int .i64 S) := by rw [B1.cell]; rfl
  have HW := hid hW
  have HC : Hid (Calls Try.prog 29 #[.pointer (some ⟨p, 0, none⟩)] W.drew fun e w' => ∃ q, e = .returned (.slice (some ⟨q, 0, none⟩) c c) ∧ Fr (fun _ => False) W w') := by
    refine (dchances_any W.drew p g r q zs c s (h1.quiet ((Fr.refl (fun _ => False) W).drew)) hc).mono ?_
    rintro e w2 ⟨q, rfl, _, _, f2⟩
    exact ⟨q, rfl, ((Fr.refl (fun _ => False) W).drew).trans' f2⟩
  have HR : Hid (∀ (q : Nat) (u : World), Fr (fun _ => False) W u → Calls Try.prog 35 #[.agg #[.slice a n cap, .int .i64 D, .int .i64 S], .slice (some ⟨q, 0, none⟩) c c] u fun e w' => e = .returned (.bool true) ∧ Fr (fun _ => False) u w') := by
    show ∀ (q : Nat) (u : World), _
    intro q u f
    have := bright_any u a n cap V b D S (some ⟨q, 0, none⟩) c c (s1.quiet f)
    rwa [hr] at this
  clear hW
  go_enter Try.func26, Try.ntmps26
  go_wp2
  go_step3
  go_wp2
  rw [← HW.out]
  go_region_held3 (fun w' => w'.cell? ⟨w.heap.size, 0, none⟩ = some (.slice a n cap) ∧ w'.cell? ⟨w.heap.size, 1, none⟩ = some (.int .i64 D) ∧ w'.cell? ⟨w.heap.size, 2, none⟩ = some (.int .i64 S)) (go_keep) (first
    | (go_at_call 29; refine HC.out.mono ?_; rintro e w3 ⟨q3, rfl, f3⟩; have m0 := (f3.cell (p := ⟨w.heap.size, 0, none⟩) (cell_lt k0) (fun h => h)).trans k0; have m1 := (f3.cell (p := ⟨w.heap.size, 1, none⟩) (cell_lt k1) (fun h => h)).trans k1; have m2 := (f3.cell (p := ⟨w.heap.size, 2, none⟩) (cell_lt k2) (fun h => h)).trans k2)
    | (go_at_call 35; refine (HR.out _ _ f3).mono ?_; rintro e w4 ⟨rfl, f4⟩; have n0 := (f4.cell (p := ⟨w.heap.size, 0, none⟩) (cell_lt m0) (fun h => h)).trans m0; have n1 := (f4.cell (p := ⟨w.heap.size, 1, none⟩) (cell_lt m1) (fun h => h)).trans m1; have n2 := (f4.cell (p := ⟨w.heap.size, 2, none⟩) (cell_lt m2) (fun h => h)).trans m2))
  have F4 : Fr (fun _ => False) W w4 := f3.trans' f4
  have h4 := h1.quiet F4
  have B4 := B1.fr F4 (fun h => h)
  have G4 : Fr (DeS p g r) w w4 := (F0.trans' F4).mono (fun _ _ h => h.elim)
  clear HC HR k0 k1 k2 m0 m1 m2 n0 n1 n2 f3 f4 F4 h1 s1 B1 F0 HW
  have hn : 0 < n := (rightS_true hr).1
  have hpw : p < w.heap.size := h.blk.lt
  have hgw : g < p := h.gp
  have hrw : r < g := h.rg
  have nn : ¬ DeS p g r w.heap.size := by unfold DeS; omega
  go_wp2
  go_step3
  go_wp2
  go_loopw [5, 12] (fun x i wr => ∃ (j m : Nat) (sj : DX), j ≤ 40 ∧ 1 ≤ m ∧ m < 2 ^ (j + 1) ∧ x = .int .i64 (m : Int) ∧ i = .int .i64 (j : Int) ∧ gnum (bitAt zs) c (fol V n) D (40 - j) j m sj = gnum (bitAt zs) c (fol V n) D 40 0 1 s ∧ DGood c sj ∧ sj.N ≤ s.N + 2 * j ∧ De wr p g r q zs c sj ∧ Fr (DeS p g r) w wr ∧ Blk wr w.heap.size #[.slice a n cap, .int .i64 D, .int .i64 S] 24) (fun _ i _ => 40 - (intOf i).toNat)
  case atStart => exact ⟨0, 1, s, by omega, by omega, by decide, rfl, rfl, rfl, hG, by omega, h4, G4, B4⟩
  case round =>
    clear h4 G4 B4
    obtain ⟨j, m, sj, hj, m0, m1, rfl, rfl, hg, hGj, hNj, h6, G6, B6⟩ := hrel
    have s6 := hs.fr G6 hoff
    have k0 : wr.cell? ⟨w.heap.size, 0, none⟩ = some (.slice a n cap) := by rw [B6.cell]; rfl
    have k1 : wr.cell? ⟨w.heap.size, 1, none⟩ = some (.int .i64 D) := by rw [B6.cell]; rfl
    have k2 : wr.cell? ⟨w.heap.size, 2, none⟩ = some (.int .i64 S) := by rw [B6.cell]; rfl
    by_cases hlt : j < 40
    · have hji : (j : Int) < 40 := by omega
      obtain ⟨f, hf⟩ : ∃ f, 40 - j = f + 1 := ⟨40 - j - 1, by omega⟩
      have hm40 : m < 1099511627776 := by
        have : 2 ^ (j + 1) ≤ 2 ^ 40 := Nat.pow_le_pow_right (by omega) (by omega)
        omega
      have m1' : m < 2 ^ j * 2 := by rwa [Nat.pow_succ] at m1
      have M1 := hid m1
      clear m1 m1'
      rw [hf, gnum] at hg
      go_wp2_with fail
      refine (bfollow_any wr a n cap V b D S j s6 hn).mono ?_
      rintro e w7 ⟨rfl, f7⟩
      have h7 := h6.quiet f7
      have B7 := B6.fr f7 (fun h => h)
      have G7 : Fr (DeS p g r) w w7 := G6.trans f7 (fun _ _ h => h.elim)
      clear h6 B6 G6 s6 f7 k0 k1 k2
      go_wp2_with fail
      refine (dget_any w7 p g r q zs c sj (fol V n j) h7 hc hz (by omega) hGj).mono ?_
      rintro e w8 ⟨rfl, h8, f8⟩
      have B8 := B7.fr f8 nn
      have G8 := G7.trans' f8
      have hG8 := hGj.get (B := bitAt zs) (fol V n j)
      have hN8 := dgetX_N (bitAt zs) c sj (fol V n j)
      have k1 : w8.cell? ⟨w.heap.size, 1, none⟩ = some (.int .i64 D) := by rw [B8.cell]; rfl
      clear h7 B7 G7 f8 hGj
      generalize getX (bitAt zs) c sj (fol V n j) = s8 at *
      cases hb1 : getB c sj (fol V n j) with
      | true =>
        rw [hb1, if_pos rfl] at hg
        have HG := hid hg
        clear hg
        go_wp2
        rw [Exit.noGoto_ret]
        go_ret
        rw [← HG.out]
        exact ⟨ret_int (by simp only; omega), h8, G8⟩
      | false =>
        rw [hb1, if_neg (by decide)] at hg
        go_wp2_with fail
        refine (dget_any w8 p g r q zs c s8 D h8 hc hz (by omega) hG8).mono ?_
        rintro e w9 ⟨rfl, h9, f9⟩
        have B9 := B8.fr f9 nn
        have G9 := G8.trans' f9
        have hG9 := hG8.get (B := bitAt zs) D
        have hN9 := dgetX_N (bitAt zs) c s8 D
        clear h8 B8 G8 f9 hG8
        generalize getX (bitAt zs) c s8 D = s9 at *
        have HG := hid hg
        clear hg
        cases hb2 : getB c s8 D with
        | true =>
          rw [hb2] at HG
          go_wp2
          go_roundw
          case rel =>
            refine ⟨j + 1, 2 * m + 1, s9, by omega, by omega, ?_, by go_num, by go_num, ?_, hG9, by omega, h9, G9, B9⟩
            · have := M1.out; rw [Nat.pow_succ]; omega
            · rw [show 40 - (j + 1) = f by omega]; exact HG.out
          case measure => simp [intOf]; omega
        | false =>
          rw [hb2] at HG
          go_wp2
          go_roundw
          case rel =>
            refine ⟨j + 1, 2 * m, s9, by omega, by omega, ?_, by go_num, by go_num, ?_, hG9, by omega, h9, G9, B9⟩
            · have := M1.out; rw [Nat.pow_succ]; omega
            · rw [show 40 - (j + 1) = f by omega]; exact HG.out
          case measure => simp [intOf]; omega
    · obtain rfl : j = 40 := by omega
      have hm40 : m < 2199023255552 := by simpa using m1
      rw [show 40 - 40 = 0 by omega, gnum] at hg
      have HG := hid hg
      clear hg m1
      go_wp2
      rw [Exit.noGoto_ret]
      go_ret
      rw [← HG.out]
      exact ⟨ret_int (by simp only; omega), h6, G6⟩

/-- Get. -/
theorem bget_any (w : World) (p g r q : Nat) (zs : List Nat) (c : Nat) (s : DX) (a : Option Addr) (n cap : Nat) (V : Nat → Int) (b : Nat) (D S : Int) (h : De w p g r q zs c s) (hs : SetV w a n cap V b) (hoff : 0 < n → ¬ DeS p g r b) (hc : c ≤ 64) (hz : zs.length ≤ 1000000000) (hN : s.N ≤ 100000) (hG : DGood c s) :
    Calls Try.prog 26 #[.pointer (some ⟨p, 0, none⟩), .agg #[.slice a n cap, .int .i64 D, .int .i64 S]] w fun e w' => e = .returned (.int .i64 ((getN (bitAt zs) V n D S c s).1 : Int)) ∧ De w' p g r q zs c (getN (bitAt zs) V n D S c s).2 ∧ Fr (DeS p g r) w w' := by
  unfold getN
  cases hr : rightS V n D S c with
  | false =>
    refine (bget_bad w p g r q zs c s a n cap V b D S h hs hc hr).mono ?_
    rintro e w1 ⟨rfl, f⟩
    exact ⟨rfl, h.quiet f, f.mono (fun _ _ h => h.elim)⟩
  | true => exact bget_go w p g r q zs c s a n cap V b D S h hs hoff hc hz hN hG hr

/-- GetSigned. -/
theorem bgetS_any (w : World) (p g r q : Nat) (zs : List Nat) (c : Nat) (s : DX) (a : Option Addr) (n cap : Nat) (V : Nat → Int) (b : Nat) (D S : Int) (h : De w p g r q zs c s) (hs : SetV w a n cap V b) (hoff : 0 < n → ¬ DeS p g r b) (hc : c ≤ 64) (hz : zs.length ≤ 1000000000) (hN : s.N ≤ 100000) (hG : DGood c s) :
    Calls Try.prog 24 #[.pointer (some ⟨p, 0, none⟩), .agg #[.slice a n cap, .int .i64 D, .int .i64 S]] w fun e w' => e = .returned (.int .i64 (getG (bitAt zs) V n D S c s).1) ∧ De w' p g r q zs c (getG (bitAt zs) V n D S c s).2 ∧ Fr (DeS p g r) w w' := by
  obtain ⟨W, hW⟩ : ∃ W, W = w.alloc (.cells #[.slice a n cap, .int .i64 D, .int .i64 S] 24) := ⟨_, rfl⟩
  have F0 : Fr (fun _ => False) w W := by rw [hW]; exact (Fr.refl _ w).alloc _
  have h1 := h.quiet F0
  have s1 := hs.quiet F0
  have B1 : Blk W w.heap.size #[.slice a n cap, .int .i64 D, .int .i64 S] 24 := by rw [hW]; exact Blk.new w _ _
  have hpw : p < w.heap.size := h.blk.lt
  have hgw : g < p := h.gp
  have hrw : r < g := h.rg
  have nn : ¬ DeS p g r w.heap.size := by unfold DeS; omega
  have HW := hid hW
  have HG : Hid (getG (bitAt zs) V n D S c s = if (getN (bitAt zs) V n D S c s).1 = 0 then (0, (getN (bitAt zs) V n D S c s).2) else (if getB c (getN (bitAt zs) V n D S c s).2 S then -((getN (bitAt zs) V n D S c s).1 : Int) else ((getN (bitAt zs) V n D S c s).1 : Int), getX (bitAt zs) c (getN (bitAt zs) V n D S c s).2 S)) := Eq.refl _
  have hv := getN_val (B := bitAt zs) (V := V) (n := n) (D := D) (S := S) (c := c) s
  have hG2 := getN_good (B := bitAt zs) (V := V) (n := n) (D := D) (S := S) hG
  have hN2 := getN_N (B := bitAt zs) (V := V) (n := n) (D := D) (S := S) (c := c) s
  have HP : Hid (Calls Try.prog 26 #[.pointer (some ⟨p, 0, none⟩), .agg #[.slice a n cap, .int .i64 D, .int .i64 S]] W fun e w' => e = .returned (.int .i64 ((getN (bitAt zs) V n D S c s).1 : Int)) ∧ De w' p g r q zs c (getN (bitAt zs) V n D S c s).2 ∧ Fr (DeS p g r) w w' ∧ Blk w' w.heap.size #[.slice a n cap, .int .i64 D, .int .i64 S] 24) := by
    refine (bget_any W p g r q zs c s a n cap V b D S h1 s1 hoff hc hz hN hG).mono ?_
    rintro e w2 ⟨rfl, h2, f2⟩
    exact ⟨rfl, h2, (F0.mono (fun _ _ h => h.elim)).trans' f2, B1.fr f2 nn⟩
  clear hW h1 s1 B1 F0
  generalize getG (bitAt zs) V n D S c s = res at *
  generalize (getN (bitAt zs) V n D S c s).1 = x at *
  generalize (getN (bitAt zs) V n D S c s).2 = s2 at *
  by_cases hx : x = 0
  · subst hx
    rw [if_pos rfl] at HG
    have hx0 : (((0 : Nat) : Int) != 0) = false := by decide
    go_enter Try.func24, Try.ntmps24
    go_wp2_with fail
    rw [← HW.out]
    refine HP.out.mono ?_
    rintro e w2 ⟨rfl, h2, f2, B2⟩
    go_wp2
    go_ret
    rw [HG.out]
    exact ⟨rfl, h2, f2⟩
  · rw [if_neg hx] at HG
    have hx0 : ((x : Int) != 0) = true := by simp; omega
    go_enter Try.func24, Try.ntmps24
    go_wp2_with fail
    rw [← HW.out]
    refine HP.out.mono ?_
    rintro e w2 ⟨rfl, h2, f2, B2⟩
    have k2 : w2.cell? ⟨w.heap.size, 2, none⟩ = some (.int .i64 S) := by rw [B2.cell]; rfl
    go_wp2_with fail
    refine (dget_any w2 p g r q zs c s2 S h2 hc hz (by omega) hG2).mono ?_
    rintro e w3 ⟨rfl, h3, f3⟩
    cases hb : getB c s2 S with
    | true =>
      rw [hb, if_pos rfl] at HG
      go_wp2
      go_ret
      rw [HG.out]
      exact ⟨rfl, h3, f2.trans' f3⟩
    | false =>
      rw [hb, if_neg (by decide)] at HG
      go_wp2
      go_ret
      rw [HG.out]
      exact ⟨rfl, h3, f2.trans' f3⟩

/-- GetSigned, of a nil decoder. -/
theorem bgetS_nil (w : World) (a : Option Addr) (n cap : Nat) (V : Nat → Int) (b : Nat) (D S : Int) (hs : SetV w a n cap V b) :
    Calls Try.prog 24 #[.pointer none, .agg #[.slice a n cap, .int .i64 D, .int .i64 S]] w fun e w' => e = .returned (.int .i64 0) ∧ Fr (fun _ => False) w w' := by
  have F0 := (Fr.refl (fun _ => False) w).alloc (.cells #[.slice a n cap, .int .i64 D, .int .i64 S] 24)
  have s1 := hs.quiet F0
  go_enter Try.func24, Try.ntmps24
  go_wp2_with fail
  refine (bget_nil _ a n cap V b D S s1).mono ?_
  rintro e w2 ⟨rfl, f2⟩
  go_wp2
  go_ret
  exact ⟨rfl, F0.trans' f2⟩
end Go.Proofs.Ythabklgeopdlhaa
