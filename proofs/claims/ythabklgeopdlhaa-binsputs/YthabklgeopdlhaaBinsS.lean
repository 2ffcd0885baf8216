/-
  Package bins: numbers put with a sign.
-/
import Derived.Test.YthabklgeopdlhaaBinsE
namespace Go.Proofs.Ythabklgeopdlhaa
open Go.RowKit

set_option maxHeartbeats 1000000 in
/-- PutSigned. -/
theorem bputS_any (w : World) (p g : Nat) (v : Value) (zs : List Nat) (c : Nat) (s : CS) (a : Option Addr) (n cap : Nat) (V : Nat → Int) (b : Nat) (D S : Int) (z : Int) (h : En w p g v zs c s) (hs : SetV w a n cap V b) (hoff : SetOff n b p g v) (hc : c ≤ 64) (hN : s.N ≤ 10000000) (hG : Good c s) (z0 : -9223372036854775808 ≤ z) (z1 : z ≤ 9223372036854775807) :
    Calls Try.prog 14 #[.pointer (some ⟨p, 0, none⟩), .agg #[.slice a n cap, .int .i64 D, .int .i64 S], .int .i64 z] w fun e w' => e = .returned (.bool (okN (unsN z) && rightS V n D S c)) ∧ EnGets p g v w w' c (putG V n D S c s z) := by
  obtain ⟨W, hW⟩ : ∃ W, W = w.alloc (.cells #[.slice a n cap, .int .i64 D, .int .i64 S] 24) := ⟨_, rfl⟩
  have F0 : Fr (fun _ => False) w W := by rw [hW]; exact (Fr.refl _ w).alloc _
  have h1 := h.quiet F0
  have s1 := hs.quiet F0
  have B1 : Blk W w.heap.size #[.slice a n cap, .int .i64 D, .int .i64 S] 24 := by rw [hW]; exact Blk.new w _ _
  have k0 : W.cell? ⟨w.heap.size, 0, none⟩ = some (.slice a n cap) := by rw [B1.cell]; rfl
  have k1 : W.cell? ⟨w.heap.size, 1, none⟩ = some (.int .i64 D) := by rw [B1.cell]; rfl
  have k2 : W.cell? ⟨w.heap.size, 2, none⟩ = some (.int .i64 S) := by rw [B1.cell]; rfl
  have HW := hid hW
  have hpw : p < w.heap.size := h.blk.lt
  have hgw : g < p := h.gp
  have hvw : ∀ i, v.ownBlock = some i → i < w.heap.size := fun i hi => (h.vlt hi).2
  have hG2 := putN_good (V := V) (n := n) (D := D) (S := S) hG (unsN z)
  have hN2 := putN_N (V := V) (n := n) (D := D) (S := S) (c := c) s (unsN z)
  have HG := hid (putG_eq V n D S c s z)
  have HU : Hid (∀ u, Calls Try.prog 39 #[.int .i64 z] u fun e w' => e = .returned (.int .i64 (unsN z)) ∧ w' = u) := fun u => bunsigned_any z u z0 z1
  have HP : Hid (Calls Try.prog 13 #[.pointer (some ⟨p, 0, none⟩), .agg #[.slice a n cap, .int .i64 D, .int .i64 S], .int .i64 (unsN z)] W.drew fun e w' => e = .returned (.bool (okN (unsN z) && rightS V n D S c)) ∧ (∃ v' zs', En w' p g v' zs' c (putN V n D S c s (unsN z)) ∧ EnStep p g v v' w w') ∧ Blk w' w.heap.size #[.slice a n cap, .int .i64 D, .int .i64 S] 24) := by
    refine (bput_any W.drew p g v zs c s a n cap V b D S (unsN z) (h1.quiet ((Fr.refl (fun _ => False) W).drew)) (s1.quiet ((Fr.refl (fun _ => False) W).drew)) hoff hc hN hG).mono ?_
    rintro e w2 ⟨rfl, v2, zs2, h2, st2⟩
    refine ⟨rfl, ⟨v2, zs2, h2, ?_⟩, B1.drew.fr st2.fr ?_⟩
    · exact (EnStep.trans ⟨F0.drew.mono (fun _ _ h => h.elim), .inl rfl⟩ st2)
    · rintro (e | e | e)
      · omega
      · omega
      · have := hvw _ e; omega
  have HF : Hid ((okN (unsN z) && rightS V n D S c) = false → putN V n D S c s (unsN z) = s) := by
    show _ → _
    intro e
    unfold putN
    rw [e]
    rfl
  clear hW h1 s1 F0
  generalize unsN z = y at *
  generalize putN V n D S c s y = s2 at *
  cases hr : (okN y && rightS V n D S c) with
  | false =>
    rw [hr] at HP HG
    go_enter Try.func14, Try.ntmps14
    go_wp2
    rw [← HW.out]
    go_region_held3 (fun w' => w'.cell? ⟨w.heap.size, 0, none⟩ = some (.slice a n cap) ∧ w'.cell? ⟨w.heap.size, 1, none⟩ = some (.int .i64 D) ∧ w'.cell? ⟨w.heap.size, 2, none⟩ = some (.int .i64 S)) (go_keep) (first
      | (go_at_call 39; refine (HU.out _).mono ?_; rintro e w2 ⟨rfl, rfl⟩)
      | (go_at_call 13; refine HP.out.mono ?_; rintro e w3 ⟨rfl, ⟨v3, zs3, h3, st3⟩, B3⟩; have m0 : w3.cell? ⟨w.heap.size, 0, none⟩ = some (.slice a n cap) := (by rw [B3.cell]; rfl); have m1 : w3.cell? ⟨w.heap.size, 1, none⟩ = some (.int .i64 D) := (by rw [B3.cell]; rfl); have m2 : w3.cell? ⟨w.heap.size, 2, none⟩ = some (.int .i64 S) := (by rw [B3.cell]; rfl)))
    go_wp2
    go_ret
    rw [HF.out hr] at h3
    rw [HG.out]
    exact ⟨rfl, v3, zs3, h3, st3⟩
  | true =>
    rw [hr, if_pos rfl] at HG
    rw [hr] at HP
    by_cases hz : z = 0
    · subst hz
      rw [if_pos rfl] at HG
      have hz0 : ((0 : Int) != 0) = false := by decide
      go_enter Try.func14, Try.ntmps14
      go_wp2
      rw [← HW.out]
      go_region_held3 (fun w' => w'.cell? ⟨w.heap.size, 0, none⟩ = some (.slice a n cap) ∧ w'.cell? ⟨w.heap.size, 1, none⟩ = some (.int .i64 D) ∧ w'.cell? ⟨w.heap.size, 2, none⟩ = some (.int .i64 S)) (go_keep) (first
        | (go_at_call 39; refine (HU.out _).mono ?_; rintro e w2 ⟨rfl, rfl⟩)
        | (go_at_call 13; refine HP.out.mono ?_; rintro e w3 ⟨rfl, ⟨v3, zs3, h3, st3⟩, B3⟩; have m0 : w3.cell? ⟨w.heap.size, 0, none⟩ = some (.slice a n cap) := (by rw [B3.cell]; rfl); have m1 : w3.cell? ⟨w.heap.size, 1, none⟩ = some (.int .i64 D) := (by rw [B3.cell]; rfl); have m2 : w3.cell? ⟨w.heap.size, 2, none⟩ = some (.int .i64 S) := (by rw [B3.cell]; rfl)))
      go_wp2
      go_ret
      rw [HG.out]
      exact ⟨rfl, v3, zs3, h3, st3⟩
    · rw [if_neg hz] at HG
      have hz0 : (z != 0) = true := by simpa using hz
      go_enter Try.func14, Try.ntmps14
      go_wp2
      rw [← HW.out]
      go_region_held3 (fun w' => w'.cell? ⟨w.heap.size, 0, none⟩ = some (.slice a n cap) ∧ w'.cell? ⟨w.heap.size, 1, none⟩ = some (.int .i64 D) ∧ w'.cell? ⟨w.heap.size, 2, none⟩ = some (.int .i64 S)) (go_keep) (first
        | (go_at_call 39; refine (HU.out _).mono ?_; rintro e w2 ⟨rfl, rfl⟩)
        | (go_at_call 13; refine HP.out.mono ?_; rintro e w3 ⟨rfl, ⟨v3, zs3, h3, st3⟩, B3⟩; have m0 : w3.cell? ⟨w.heap.size, 0, none⟩ = some (.slice a n cap) := (by rw [B3.cell]; rfl); have m1 : w3.cell? ⟨w.heap.size, 1, none⟩ = some (.int .i64 D) := (by rw [B3.cell]; rfl); have m2 : w3.cell? ⟨w.heap.size, 2, none⟩ = some (.int .i64 S) := (by rw [B3.cell]; rfl)))
      have f3 := B3.thaw
      go_wp2_with fail
      refine (eput_any w3 p g v3 zs3 c s2 S _ h3 hc (by omega) hG2).mono ?_
      rintro e w4 ⟨rfl, v4, zs4, h4, st4⟩
      rw [← HG.out] at h4
      go_wp2
      go_ret
      exact ⟨rfl, v4, zs4, h4, st3.trans st4⟩
end Go.Proofs.Ythabklgeopdlhaa
