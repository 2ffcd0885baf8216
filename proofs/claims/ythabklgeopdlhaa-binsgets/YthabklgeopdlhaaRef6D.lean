/-
  The document's own answers of layer 6 (package shingleref06), walked: numbers told.
-/
import Derived.Test.YthabklgeopdlhaaRef6
import Derived.Test.YthabklgeopdlhaaRef5D
import Derived.Deep.RegionHeld3
namespace Go.Proofs.Ythabklgeopdlhaa
open Go.RowKit

theorem RDeGets.trans {p : Nat} {v v' : Value} {zs : List Nat} {w w1 w2 : World} {c : Nat} {s2 : DX} (f : Fr (fun j => j = p) w w1) (hv : v' = v ∨ ∀ k, v'.ownBlock = some k → w.heap.size ≤ k) (h : RDeGets p v' zs w1 w2 c s2) : RDeGets p v zs w w2 c s2 := by
  obtain ⟨v2, ov2, h2, f2, hv2⟩ := h
  refine ⟨v2, ov2, h2, f.trans' f2, ?_⟩
  rcases hv2 with e | e
  · rw [e]; exact hv
  · exact .inr fun k hk => Nat.le_trans f.size (e k hk)

/-- Get, by a set that isn't right. -/
theorem rgetN_bad (w : World) (p : Nat) (v : Value) (zs : List Nat) (c : Nat) (s : DX) (ov : Nat) (a : Option Addr) (n cap : Nat) (V : Nat → Int) (b : Nat) (D S : Int) (h : RDe w p v zs c s ov) (hs : SetV w a n cap V b) (hform : a = none → n = 0 ∧ cap = 0) (hn : n ≤ 1000000) (hr : rightS V n D S c = false) :
    Calls Try.prog 27 #[.pointer (some ⟨p, 0, none⟩), .agg #[.slice a n cap, .int .i64 D, .int .i64 S]] w fun e w' => e = .returned (.int .i64 0) ∧ Fr (fun _ => False) w w' := by
  obtain ⟨W, hW⟩ : ∃ W, W = w.alloc (.cells #[.slice a n cap, .int .i64 D, .int .i64 S] 24) := ⟨_, rfl⟩
  have F0 : Fr (fun _ => False) w W := by rw [hW]; exact (Fr.refl _ w).alloc _
  have h1 := h.quiet F0
  have s1 := hs.quiet F0
  have B1 : Blk W w.heap.size #[.slice a n cap, .int .i64 D, .int .i64 S] 24 := by rw [hW]; exact Blk.new w _ _
  have k0 : W.cell? ⟨w.heap.size, 0, none⟩ = some (.slice a n cap) := by rw [B1.cell]; rfl
  have k1 : W.cell? ⟨w.heap.size, 1, none⟩ = some (.int .i64 D) := by rw [B1.cell]; rfl
  have k2 : W.cell? ⟨w.heap.size, 2, none⟩ = some (.int .i64 S) := by rw [B1.cell]; rfl
  obtain ⟨av, capv, rfl, _⟩ := ownsRow_form h.own
  have kp : W.cell? ⟨p, 0, none⟩ = some (.slice av c capv) := by rw [h1.blk.cell]; rfl
  have HW := hid hW
  have HR : Hid (Calls Try.prog 10 #[.agg #[.slice a n cap, .int .i64 D, .int .i64 S], .int .i64 (c : Int)] W.drew fun e w' => e = .returned (.bool false) ∧ Fr (fun _ => False) W w' ∧ Blk w' w.heap.size #[.slice a n cap, .int .i64 D, .int .i64 S] 24 ∧ RDe w' p (.slice av c capv) zs c s ov) := by
    have := rright_any W.drew a n cap V b D S c (s1.quiet ((Fr.refl (fun _ => False) W).drew)) hform hn
    rw [hr] at this
    refine this.mono ?_
    rintro e w2 ⟨rfl, f2⟩
    have f3 := ((Fr.refl (fun _ => False) W).drew).trans' f2
    exact ⟨rfl, f3, B1.fr f3 (fun h => h), h1.quiet f3⟩
  clear hW
  go_enter Try.func27, Try.ntmps27
  go_wp2
  rw [← HW.out]
  go_region_held3 (fun w' => w'.cell? ⟨w.heap.size, 0, none⟩ = some (.slice a n cap) ∧ w'.cell? ⟨w.heap.size, 1, none⟩ = some (.int .i64 D) ∧ w'.cell? ⟨w.heap.size, 2, none⟩ = some (.int .i64 S) ∧ w'.cell? ⟨p, 0, none⟩ = some (.slice av c capv)) (go_keep) (first
    | (go_at_call 10; refine HR.out.mono ?_; rintro e w4 ⟨rfl, F4, B4, h4⟩; have n0 : w4.cell? ⟨w.heap.size, 0, none⟩ = some (.slice a n cap) := (by rw [B4.cell]; rfl); have n1 : w4.cell? ⟨w.heap.size, 1, none⟩ = some (.int .i64 D) := (by rw [B4.cell]; rfl); have n2 : w4.cell? ⟨w.heap.size, 2, none⟩ = some (.int .i64 S) := (by rw [B4.cell]; rfl); have np : w4.cell? ⟨p, 0, none⟩ = some (.slice av c capv) := (by rw [h4.blk.cell]; rfl)))
  go_wp2
  go_ret
  exact ⟨rfl, F0.trans' F4⟩

set_option maxHeartbeats 1000000 in
theorem rgetN_go (w : World) (p : Nat) (v : Value) (zs : List Nat) (c : Nat) (s : DX) (ov : Nat) (a : Option Addr) (n cap : Nat) (V : Nat → Int) (b : Nat) (D S : Int) (h : RDe w p v zs c s ov) (hs : SetV w a n cap V b) (hform : a = none → n = 0 ∧ cap = 0) (hn : n ≤ 1000000) (hoff : 0 < n → b ≠ p) (hc : c ≤ 64) (hz : zs.length ≤ 1000000) (hN : s.N ≤ 100000) (hG : DGood c s) (hr : rightS V n D S c = true) :
    Calls Try.prog 27 #[.pointer (some ⟨p, 0, none⟩), .agg #[.slice a n cap, .int .i64 D, .int .i64 S]] w fun e w' => e = .returned (.int .i64 ((gnum (bitAt zs) c (fol V n) D 40 0 1 s).1 : Int)) ∧ RDeGets p v zs w w' c (gnum (bitAt zs) c (fol V n) D 40 0 1 s).2 := by
  obtain ⟨W, hW⟩ : ∃ W, W = w.alloc (.cells #[.slice a n cap, .int .i64 D, .int .i64 S] 24) := ⟨_, rfl⟩
  have F0 : Fr (fun _ => False) w W := by rw [hW]; exact (Fr.refl _ w).alloc _
  have h1 := h.quiet F0
  have s1 := hs.quiet F0
  have B1 : Blk W w.heap.size #[.slice a n cap, .int .i64 D, .int .i64 S] 24 := by rw [hW]; exact Blk.new w _ _
  have k0 : W.cell? ⟨w.heap.size, 0, none⟩ = some (.slice a n cap) := by rw [B1.cell]; rfl
  have k1 : W.cell? ⟨w.heap.size, 1, none⟩ = some (.int .i64 D) := by rw [B1.cell]; rfl
  have k2 : W.cell? ⟨w.heap.size, 2, none⟩ = some (.int .i64 S) := by rw [B1.cell]; rfl
  obtain ⟨av, capv, rfl, _⟩ := ownsRow_form h.own
  have kp : W.cell? ⟨p, 0, none⟩ = some (.slice av c capv) := by rw [h1.blk.cell]; rfl
  have HW := hid hW
  have HR : Hid (Calls Try.prog 10 #[.agg #[.slice a n cap, .int .i64 D, .int .i64 S], .int .i64 (c : Int)] W.drew fun e w' => e = .returned (.bool true) ∧ Fr (fun _ => False) W w' ∧ Blk w' w.heap.size #[.slice a n cap, .int .i64 D, .int .i64 S] 24 ∧ RDe w' p (.slice av c capv) zs c s ov) := by
    have := rright_any W.drew a n cap V b D S c (s1.quiet ((Fr.refl (fun _ => False) W).drew)) hform hn
    rw [hr] at this
    refine this.mono ?_
    rintro e w2 ⟨rfl, f2⟩
    have f3 := ((Fr.refl (fun _ => False) W).drew).trans' f2
    exact ⟨rfl, f3, B1.fr f3 (fun h => h), h1.quiet f3⟩
  clear hW
  go_enter Try.func27, Try.ntmps27
  go_wp2
  rw [← HW.out]
  go_region_held3 (fun w' => w'.cell? ⟨w.heap.size, 0, none⟩ = some (.slice a n cap) ∧ w'.cell? ⟨w.heap.size, 1, none⟩ = some (.int .i64 D) ∧ w'.cell? ⟨w.heap.size, 2, none⟩ = some (.int .i64 S) ∧ w'.cell? ⟨p, 0, none⟩ = some (.slice av c capv)) (go_keep) (first
    | (go_at_call 10; refine HR.out.mono ?_; rintro e w4 ⟨rfl, F4, B4, h4⟩; have n0 : w4.cell? ⟨w.heap.size, 0, none⟩ = some (.slice a n cap) := (by rw [B4.cell]; rfl); have n1 : w4.cell? ⟨w.heap.size, 1, none⟩ = some (.int .i64 D) := (by rw [B4.cell]; rfl); have n2 : w4.cell? ⟨w.heap.size, 2, none⟩ = some (.int .i64 S) := (by rw [B4.cell]; rfl); have np : w4.cell? ⟨p, 0, none⟩ = some (.slice av c capv) := (by rw [h4.blk.cell]; rfl)))
  have G4 : Fr (fun j => j = p) w w4 := (F0.trans' F4).mono (fun _ _ h => h.elim)
  clear HR k0 k1 k2 kp n0 n1 n2 np F4 h1 s1 B1 F0 HW
  have hn0 : 0 < n := (rightS_true hr).1
  have hpw : p < w.heap.size := h.blk.lt
  go_wp2
  go_loopw [5, 6] (fun x i wr => ∃ (j m : Nat) (sj : DX), j ≤ 40 ∧ 1 ≤ m ∧ m < 2 ^ (j + 1) ∧ x = .int .i64 (m : Int) ∧ i = .int .i64 (j : Int) ∧ gnum (bitAt zs) c (fol V n) D (40 - j) j m sj = gnum (bitAt zs) c (fol V n) D 40 0 1 s ∧ DGood c sj ∧ sj.N ≤ s.N + 2 * j ∧ RDeGets p (.slice av c capv) zs w wr c sj ∧ Blk wr w.heap.size #[.slice a n cap, .int .i64 D, .int .i64 S] 24) (fun _ i _ => 40 - (intOf i).toNat)
  case atStart => exact ⟨0, 1, s, by omega, by omega, by decide, rfl, rfl, rfl, hG, by omega, ⟨_, _, h4, G4, .inl rfl⟩, B4⟩
  case round =>
    clear h4 G4 B4
    obtain ⟨j, m, sj, hj, m0, m1, rfl, rfl, hg, hGj, hNj, ⟨v6, ov6, h6, G6, hv6⟩, B6⟩ := hrel
    have s6 := hs.fr G6 hoff
    have k0 : wr.cell? ⟨w.heap.size, 0, none⟩ = some (.slice a n cap) := by rw [B6.cell]; rfl
    have k1 : wr.cell? ⟨w.heap.size, 1, none⟩ = some (.int .i64 D) := by rw [B6.cell]; rfl
    have k2 : wr.cell? ⟨w.heap.size, 2, none⟩ = some (.int .i64 S) := by rw [B6.cell]; rfl
    by_cases hlt : j < 40
    · have hji : (j : Int) < 40 := by omega
      obtain ⟨f, hf⟩ : ∃ f, 40 - j = f + 1 := ⟨40 - j - 1, by omega⟩
      have hm40 : m < 1099511627776 := by
        have : 2 ^ (j + 1) ≤ 2 ^ 40 := Nat.pow_le_pow_right (by omega) (by omega)
        omega
      have M1 := hid m1
      clear m1
      rw [hf, gnum] at hg
      go_wp2_with fail
      refine (rfollow_any wr a n cap V b D S j s6 hn0).mono ?_
      rintro e w7 ⟨rfl, f7⟩
      have h7 := h6.quiet f7
      have B7 := B6.fr f7 (fun h => h)
      have G7 : Fr (fun j => j = p) w w7 := G6.trans f7 (fun _ _ h => h.elim)
      clear h6 B6 G6 s6 f7 k0 k1 k2
      go_wp2_with fail
      refine (rget5_any w7 p v6 zs c sj ov6 (fol V n j) h7 hc hz (by omega) hGj).mono ?_
      rintro e w8 ⟨rfl, g8⟩
      have g8' := RDeGets.trans G7 hv6 g8
      obtain ⟨_, _, _, f8, _⟩ := g8
      have B8 := B7.fr f8 (by omega)
      have hG8 := hGj.get (B := bitAt zs) (fol V n j)
      have hN8 := dgetX_N (bitAt zs) c sj (fol V n j)
      have k1 : w8.cell? ⟨w.heap.size, 1, none⟩ = some (.int .i64 D) := by rw [B8.cell]; rfl
      clear h7 B7 G7 f8 hGj hv6
      generalize getX (bitAt zs) c sj (fol V n j) = s8 at *
      cases hb1 : getB c sj (fol V n j) with
      | true =>
        rw [hb1, if_pos rfl] at hg
        have HG := hid hg
        clear hg
        go_wp2
        go_ret
        rw [← HG.out]
        exact ⟨ret_int (by simp only; omega), g8'⟩
      | false =>
        rw [hb1, if_neg (by decide)] at hg
        obtain ⟨v8, ov8, h8, G8, hv8⟩ := g8'
        go_wp2_with fail
        refine (rget5_any w8 p v8 zs c s8 ov8 D h8 hc hz (by omega) hG8).mono ?_
        rintro e w9 ⟨rfl, g9⟩
        have g9' := RDeGets.trans G8 hv8 g9
        obtain ⟨_, _, _, f9, _⟩ := g9
        have B9 := B8.fr f9 (by omega)
        have hG9 := hG8.get (B := bitAt zs) D
        have hN9 := dgetX_N (bitAt zs) c s8 D
        clear h8 B8 G8 f9 hG8 hv8
        generalize getX (bitAt zs) c s8 D = s9 at *
        have HG := hid hg
        clear hg
        cases hb2 : getB c s8 D with
        | true =>
          rw [hb2] at HG
          go_wp2
          go_roundw
          case rel =>
            refine ⟨j + 1, 2 * m + 1, s9, by omega, by omega, ?_, by go_num, by go_num, ?_, hG9, by omega, g9', B9⟩
            · have := M1.out; rw [Nat.pow_succ]; omega
            · rw [show 40 - (j + 1) = f by omega]; exact HG.out
          case measure => simp [intOf]; omega
        | false =>
          rw [hb2] at HG
          go_wp2
          go_roundw
          case rel =>
            refine ⟨j + 1, 2 * m, s9, by omega, by omega, ?_, by go_num, by go_num, ?_, hG9, by omega, g9', B9⟩
            · have := M1.out; rw [Nat.pow_succ]; omega
            · rw [show 40 - (j + 1) = f by omega]; exact HG.out
          case measure => simp [intOf]; omega
    · have hji : ¬ (j : Int) < 40 := by omega
      obtain rfl : j = 40 := by omega
      have hm40 : m < 2199023255552 := by simpa using m1
      rw [show 40 - 40 = 0 by omega, gnum] at hg
      have HG := hid hg
      clear hg m1
      go_wp2
      go_ret
      rw [← HG.out]
      exact ⟨ret_int (by simp only; omega), v6, ov6, h6, G6, hv6⟩

/-- Get. -/
theorem rgetN_any (w : World) (p : Nat) (v : Value) (zs : List Nat) (c : Nat) (s : DX) (ov : Nat) (a : Option Addr) (n cap : Nat) (V : Nat → Int) (b : Nat) (D S : Int) (h : RDe w p v zs c s ov) (hs : SetV w a n cap V b) (hform : a = none → n = 0 ∧ cap = 0) (hn : n ≤ 1000000) (hoff : 0 < n → b ≠ p) (hc : c ≤ 64) (hz : zs.length ≤ 1000000) (hN : s.N ≤ 100000) (hG : DGood c s) :
    Calls Try.prog 27 #[.pointer (some ⟨p, 0, none⟩), .agg #[.slice a n cap, .int .i64 D, .int .i64 S]] w fun e w' => e = .returned (.int .i64 ((getN (bitAt zs) V n D S c s).1 : Int)) ∧ RDeGets p v zs w w' c (getN (bitAt zs) V n D S c s).2 := by
  unfold getN
  cases hr : rightS V n D S c with
  | false =>
    refine (rgetN_bad w p v zs c s ov a n cap V b D S h hs hform hn hr).mono ?_
    rintro e w1 ⟨rfl, f⟩
    exact ⟨rfl, v, ov, h.quiet f, f.mono (fun _ _ h => h.elim), .inl rfl⟩
  | true => exact rgetN_go w p v zs c s ov a n cap V b D S h hs hform hn hoff hc hz hN hG hr

/-- GetSigned. -/
theorem rgetG_any (w : World) (p : Nat) (v : Value) (zs : List Nat) (c : Nat) (s : DX) (ov : Nat) (a : Option Addr) (n cap : Nat) (V : Nat → Int) (b : Nat) (D S : Int) (h : RDe w p v zs c s ov) (hs : SetV w a n cap V b) (hform : a = none → n = 0 ∧ cap = 0) (hn : n ≤ 1000000) (hoff : 0 < n → b ≠ p) (hc : c ≤ 64) (hz : zs.length ≤ 1000000) (hN : s.N ≤ 100000) (hG : DGood c s) :
    Calls Try.prog 25 #[.pointer (some ⟨p, 0, none⟩), .agg #[.slice a n cap, .int .i64 D, .int .i64 S]] w fun e w' => e = .returned (.int .i64 (getG (bitAt zs) V n D S c s).1) ∧ RDeGets p v zs w w' c (getG (bitAt zs) V n D S c s).2 := by
  obtain ⟨W, hW⟩ : ∃ W, W = w.alloc (.cells #[.slice a n cap, .int .i64 D, .int .i64 S] 24) := ⟨_, rfl⟩
  have F0 : Fr (fun _ => False) w W := by rw [hW]; exact (Fr.refl _ w).alloc _
  have h1 := h.quiet F0
  have s1 := hs.quiet F0
  have B1 : Blk W w.heap.size #[.slice a n cap, .int .i64 D, .int .i64 S] 24 := by rw [hW]; exact Blk.new w _ _
  have hpw : p < w.heap.size := h.blk.lt
  have HW := hid hW
  have HG : Hid (getG (bitAt zs) V n D S c s = if (getN (bitAt zs) V n D S c s).1 = 0 then (0, (getN (bitAt zs) V n D S c s).2) else (if getB c (getN (bitAt zs) V n D S c s).2 S then -((getN (bitAt zs) V n D S c s).1 : Int) else ((getN (bitAt zs) V n D S c s).1 : Int), getX (bitAt zs) c (getN (bitAt zs) V n D S c s).2 S)) := Eq.refl _
  have hv := getN_val (B := bitAt zs) (V := V) (n := n) (D := D) (S := S) (c := c) s
  have hG2 := getN_good (B := bitAt zs) (V := V) (n := n) (D := D) (S := S) hG
  have hN2 := getN_N (B := bitAt zs) (V := V) (n := n) (D := D) (S := S) (c := c) s
  have HP : Hid (Calls Try.prog 27 #[.pointer (some ⟨p, 0, none⟩), .agg #[.slice a n cap, .int .i64 D, .int .i64 S]] W fun e w' => e = .returned (.int .i64 ((getN (bitAt zs) V n D S c s).1 : Int)) ∧ RDeGets p v zs w w' c (getN (bitAt zs) V n D S c s).2 ∧ Blk w' w.heap.size #[.slice a n cap, .int .i64 D, .int .i64 S] 24) := by
    refine (rgetN_any W p v zs c s ov a n cap V b D S h1 s1 hform hn hoff hc hz hN hG).mono ?_
    rintro e w2 ⟨rfl, g2⟩
    have g2' := RDeGets.trans (F0.mono (fun _ _ h => h.elim)) (.inl rfl) g2
    obtain ⟨_, _, _, f2, _⟩ := g2
    exact ⟨rfl, g2', B1.fr f2 (by omega)⟩
  clear hW h1 s1 B1 F0
  generalize getG (bitAt zs) V n D S c s = res at *
  generalize (getN (bitAt zs) V n D S c s).1 = x at *
  generalize (getN (bitAt zs) V n D S c s).2 = s2 at *
  by_cases hx : x = 0
  · subst hx
    rw [if_pos rfl] at HG
    go_enter Try.func25, Try.ntmps25
    go_wp2_with fail
    rw [← HW.out]
    refine HP.out.mono ?_
    rintro e w2 ⟨rfl, g2, B2⟩
    go_wp2
    go_ret
    rw [HG.out]
    exact ⟨rfl, g2⟩
  · rw [if_neg hx] at HG
    have hx0 : (0 : Int) < (x : Int) := by omega
    go_enter Try.func25, Try.ntmps25
    go_wp2_with fail
    rw [← HW.out]
    refine HP.out.mono ?_
    rintro e w2 ⟨rfl, ⟨v2, ov2, h2, f2, hv2⟩, B2⟩
    have k2 : w2.cell? ⟨w.heap.size, 2, none⟩ = some (.int .i64 S) := by rw [B2.cell]; rfl
    go_wp2_with fail
    refine (rget5_any w2 p v2 zs c s2 ov2 S h2 hc hz (by omega) hG2).mono ?_
    rintro e w3 ⟨rfl, g3⟩
    have g3' := RDeGets.trans f2 hv2 g3
    cases hb : getB c s2 S with
    | true =>
      rw [hb, if_pos rfl] at HG
      go_wp2
      go_ret
      rw [HG.out]
      exact ⟨rfl, g3'⟩
    | false =>
      rw [hb, if_neg (by decide)] at HG
      go_wp2
      go_ret
      rw [HG.out]
      exact ⟨rfl, g3'⟩
end Go.Proofs.Ythabklgeopdlhaa
