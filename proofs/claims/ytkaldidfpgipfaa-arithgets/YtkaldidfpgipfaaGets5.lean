/-
  Law package 5: which bits any bytes tell (ArithGets): the walk.
-/
import Derived.Test.YtkaldidfpgipfaaFirst5
import Derived.Test.YtkaldidfpgipfaaRef5D
import Derived.Test.YtkaldidfpgipfaaArgs
import Derived.Deep.RegionHeld3
namespace Go.Proofs.Ytkaldidfpgipfaa
open Go.RowKit

theorem rsame_true (w : World) (v1 v2 : Value) (A : List Int) (h1 : Reads w v1 (intRow A)) (h2 : Reads w v2 (intRow A)) (hA : A.length ≤ 1000000) :
    Calls Try.prog 14 #[v1, v2] w fun e w' => e = .returned (.bool true) ∧ Fr (fun _ => False) w w' := by
  have := rsame_any w v1 v2 A A h1 h2 hA hA
  rw [show decide (A = A) = true by simp] at this
  exact this

theorem getX_N (B : Nat → Bool) (n : Nat) (s : DX) (c : Int) : (getX B n s c).N ≤ s.N + 1 := by unfold getX; split <;> simp

set_option maxHeartbeats 4000000 in
theorem gets5_walk (a : Option Addr) (len cap : Nat) (zs : List Nat) (c : Int) (a2 : Option Addr) (len2 cap2 : Nat) (V : Nat → Int) (w : World) (hzl : zs.length = len) (hsm : ∀ z ∈ zs, z < 256) (hB : CellsIn w a len cap (fun i => .int .u8 ((zs.getD i 0 : Nat) : Int))) (h0 : CellsIn w a2 len2 cap2 (fun i => .int .i64 (V i))) (hb : ∀ i, -9223372036854775808 ≤ V i ∧ V i ≤ 9223372036854775807) :
    Calls Try.prog 4 #[.slice a len cap, .int .i64 c, .slice a2 len2 cap2] w fun e w' => e = .returned (.bool true) ∧ Below w.heap.size w w' := by
  have hlen2 : (len2 : Int) ≤ 9223372036854775807 := by have := h0.1; have := h0.2.1; unfold maxLen at *; omega
  have hlen : (len : Int) ≤ 9223372036854775807 := by have := hB.1; have := hB.2.1; unfold maxLen at *; omega
  have H0 := hid h0
  have HB := hid hB
  have HZ := hid hzl
  have HS := hid hsm
  have HV := hid hb
  clear h0 hB hzl hsm hb
  by_cases h300 : 300 < len
  · have h300' : (300 : Int) < (len : Int) := by omega
    go_enter Try.func4, Try.ntmps4
    go_wp2_with fail
    refine (first5_any _).mono ?_
    rintro e w1 ⟨rfl, F1⟩
    go_wp2
    go_ret
    exact ⟨rfl, F1.below (Nat.le_refl _) (fun _ _ h => h)⟩
  have h300' : ¬ (300 : Int) < (len : Int) := by omega
  have hz3 : zs.length ≤ 300 := by have := HZ.out; omega
  obtain ⟨n1, n2, _⟩ := ctxN_bounds c
  go_enter Try.func4, Try.ntmps4
  go_wp2_with fail
  refine (first5_any _).mono ?_
  rintro e w1 ⟨rfl, F1⟩
  go_wp2_with fail
  refine (newDec_any w1 _ zs c (Reads.of_in HZ.out (HB.out.fr F1)) (by omega) HS.out).mono ?_
  rintro e w3 ⟨pd, gd, rd, qd, rfl, d3, hr3, hq3, f3⟩
  have F3 : Fr (fun _ => False) w w3 := F1.trans' f3
  have hNew : Calls Try.prog 18 #[.slice a len cap, .int .i64 c] w3 fun e w' => ∃ p v ov, e = .returned (.pointer (some ⟨p, 0, none⟩)) ∧ RDe w' p v zs (ctxN c) (startD (bitAt zs) (ctxN c)) ov ∧ w3.heap.size ≤ p ∧ (∀ k, v.ownBlock = some k → w3.heap.size ≤ k) ∧ Fr (fun _ => False) w3 w' := by
    rw [← HZ.out]
    refine rnewDec_any w3 a cap zs c HS.out (by omega) (fun hp => ?_)
    obtain ⟨b, off, e, hc⟩ := ((HB.out.fr F3).at (show 0 < len by rw [← HZ.out]; exact hp))
    exact ⟨b, off, e, fun j hj => hc j (by rw [← HZ.out]; exact hj)⟩
  go_wp2_with fail
  refine hNew.mono ?_
  rintro e w4 ⟨px, v4, ov4, rfl, x4, hpx, hvx, f4⟩
  have d4 := d3.quiet f4
  have F4 := F3.trans' f4
  have hrw : w.heap.size ≤ rd := Nat.le_trans F1.size hr3
  have hqw : w.heap.size ≤ qd := Nat.le_trans F1.size hq3
  have hpd : pd < w3.heap.size := d3.blk.lt
  have hwx : w.heap.size ≤ w3.heap.size := F3.size
  clear hNew d3 F3 f3 f4 hr3 hq3 F1
  generalize ctxN c = n at *
  go_wp2
  go_loopw [25] (fun i wr => ∃ (k : Nat) (s : DX), k ≤ len2 ∧ k ≤ 400 ∧ i = .int .i64 (k : Int) ∧ DGood n s ∧ s.N ≤ k ∧ De wr pd gd rd qd zs n s ∧ (∃ v ov, RDe wr px v zs n s ov ∧ ∀ j, v.ownBlock = some j → w3.heap.size ≤ j) ∧ Fr (fun _ => False) w wr) (fun i _ => len2 - (intOf i).toNat)
  case atStart => exact ⟨0, _, Nat.zero_le _, Nat.zero_le _, rfl, DGood.first _ _, Nat.le_refl _, d4, ⟨v4, ov4, x4, hvx⟩, F4⟩
  case round =>
    clear d4 x4 F4 hvx
    obtain ⟨k, s, hk, hk4, rfl, hG, hN, d5, ⟨v5, ov5, x5, hv5⟩, F5⟩ := hrel
    have hgp := d5.gp
    have hrg := d5.rg
    have hqg := d5.qg
    by_cases hgo : k < len2 ∧ k < 400
    · obtain ⟨hlt, h400⟩ := hgo
      obtain ⟨b, off, rfl, hcell⟩ := (H0.out.fr F5).at hlt
      have hck := hcell k hlt
      have hki : (k : Int) < (len2 : Int) := by omega
      have h4i : ¬ (400 : Int) ≤ (k : Int) := by omega
      obtain ⟨y, hy⟩ : ∃ y, y = V k := ⟨_, rfl⟩
      have hyb := HV.out k
      rw [← hy] at hck hyb
      clear hy hcell
      go_wp2_with fail
      refine (dget_any wr pd gd rd qd zs n s y d5 (by omega) (by omega) (by omega) hG).mono ?_
      rintro e w6 ⟨rfl, d6, f6⟩
      have F6 := DeS.outer f6 d5 F5 hrw
      have x6 := x5.fr f6 (by unfold DeS; omega) (fun i hi hh => by have := hv5 i hi; unfold DeS at hh; omega)
      have hs6 := f6.size
      have hs5 := F5.size
      have hpl5 := x5.blk.lt
      clear d5 x5 F5 f6
      go_wp2_with fail
      refine (rget5_any w6 px v5 zs n s ov5 y x6 (by omega) (by omega) (by omega) hG).mono ?_
      rintro e w7 ⟨rfl, v7, ov7, x7, f7, hv7⟩
      have d7 := d6.fr f7 (by omega) (by omega) (by omega) (by omega)
      have F7 := F6.trans f7 (by intro i hi e; omega)
      have hv7' : ∀ j, v7.ownBlock = some j → w3.heap.size ≤ j := by
        intro j hj
        rcases hv7 with e | e
        · rw [e] at hj; exact hv5 j hj
        · have := e j hj; omega
      have hself : (getB n s y != getB n s y) = false := by simp
      have hG7 := hG.get (B := bitAt zs) y
      have hN7 := getX_N (bitAt zs) n s y
      generalize getX (bitAt zs) n s y = s7 at *
      generalize getB n s y = bb at *
      clear d6 x6 F6 f7 hv7 hv5
      go_wp2
      go_roundw
      case rel => exact ⟨k + 1, s7, by omega, by omega, by go_num, hG7, by omega, d7, ⟨v7, ov7, x7, hv7'⟩, F7⟩
      case measure => simp [intOf]; omega
    · have hexit : (¬ (k : Int) < (len2 : Int)) ∨ ((k : Int) < (len2 : Int) ∧ (400 : Int) ≤ (k : Int)) := by omega
      obtain ⟨a5, cap5, rfl, _⟩ := ownsRow_form x5.own
      rcases hexit with hki | ⟨hki, h4i⟩
      · clear hgo
        go_wp2
        have d6 := d5.quiet ((Fr.refl (fun _ => False) wr).drew)
        have k0 : wr.cell? ⟨px, 0, none⟩ = some (.slice a5 n cap5) := by rw [x5.blk.cell]; rfl
        have k4 : wr.cell? ⟨px, 4, none⟩ = some (.int .i64 (s.N : Int)) := by rw [x5.blk.cell]; rfl
        have hPl : s.P.length = n := d5.len
        go_region_held3 (fun w' => w'.cell? ⟨px, 0, none⟩ = some (.slice a5 n cap5) ∧ w'.cell? ⟨px, 4, none⟩ = some (.int .i64 (s.N : Int))) (go_keep) (first
          | (go_at_call_of 21 (Value.pointer (some ⟨pd, 0, none⟩)); refine (dchances_any _ pd gd rd qd zs n s d6 (by omega)).mono ?_; rintro e w7 ⟨q7, rfl, b7, hq7, f7⟩; have x7 := x5.quiet (((Fr.refl (fun _ => False) wr).drew).trans' f7); have d7 := d6.quiet f7; have m0 : w7.cell? ⟨px, 0, none⟩ = some (.slice a5 n cap5) := (by rw [x7.blk.cell]; rfl); have m4 : w7.cell? ⟨px, 4, none⟩ = some (.int .i64 (s.N : Int)) := (by rw [x7.blk.cell]; rfl); have hsame := hid (rsame_true w7 (.slice (some ⟨q7, 0, none⟩) n n) (.slice a5 n cap5) s.P (reads_blkI b7 hPl) (Reads.of_owns (by rw [intRow_length, hPl]; exact x7.own)) (by omega)))
          | (go_at_call 14; refine hsame.out.mono ?_; rintro e w8 ⟨rfl, f8⟩; have x8 := x7.quiet f8; have d8 := d7.quiet f8; have l0 : w8.cell? ⟨px, 0, none⟩ = some (.slice a5 n cap5) := (by rw [x8.blk.cell]; rfl); have l4 : w8.cell? ⟨px, 4, none⟩ = some (.int .i64 (s.N : Int)) := (by rw [x8.blk.cell]; rfl))
          | (go_at_call_of 22 (Value.pointer (some ⟨pd, 0, none⟩)); refine (dcount_any _ pd gd rd qd zs n s d8).mono ?_; rintro e w9 ⟨rfl, rfl⟩)
          | (go_at_call_of 19 (Value.pointer none); refine (dget_nil _ _).mono ?_; rintro e w9 ⟨rfl, rfl⟩)
          | (go_at_call_of 21 (Value.pointer none); refine (dchances_nil _).mono ?_; rintro e w9 ⟨rfl, rfl⟩)
          | (go_at_call_of 22 (Value.pointer none); refine (dcount_nil _).mono ?_; rintro e w9 ⟨rfl, rfl⟩))
        all_goals
          go_wp2
          go_ret
          exact ⟨rfl, (((F5.drew).trans' f7).trans' f8).below (Nat.le_refl _) (fun _ _ h => h)⟩
      · have hlt : k < len2 := by omega
        obtain ⟨b, off, rfl, hcell⟩ := (H0.out.fr F5).at hlt
        have hck := hcell k hlt
        clear hcell hgo
        go_wp2
        have d6 := d5.quiet ((Fr.refl (fun _ => False) wr).drew)
        have k0 : wr.cell? ⟨px, 0, none⟩ = some (.slice a5 n cap5) := by rw [x5.blk.cell]; rfl
        have k4 : wr.cell? ⟨px, 4, none⟩ = some (.int .i64 (s.N : Int)) := by rw [x5.blk.cell]; rfl
        have hPl : s.P.length = n := d5.len
        go_region_held3 (fun w' => w'.cell? ⟨px, 0, none⟩ = some (.slice a5 n cap5) ∧ w'.cell? ⟨px, 4, none⟩ = some (.int .i64 (s.N : Int))) (go_keep) (first
          | (go_at_call_of 21 (Value.pointer (some ⟨pd, 0, none⟩)); refine (dchances_any _ pd gd rd qd zs n s d6 (by omega)).mono ?_; rintro e w7 ⟨q7, rfl, b7, hq7, f7⟩; have x7 := x5.quiet (((Fr.refl (fun _ => False) wr).drew).trans' f7); have d7 := d6.quiet f7; have m0 : w7.cell? ⟨px, 0, none⟩ = some (.slice a5 n cap5) := (by rw [x7.blk.cell]; rfl); have m4 : w7.cell? ⟨px, 4, none⟩ = some (.int .i64 (s.N : Int)) := (by rw [x7.blk.cell]; rfl); have hsame := hid (rsame_true w7 (.slice (some ⟨q7, 0, none⟩) n n) (.slice a5 n cap5) s.P (reads_blkI b7 hPl) (Reads.of_owns (by rw [intRow_length, hPl]; exact x7.own)) (by omega)))
          | (go_at_call 14; refine hsame.out.mono ?_; rintro e w8 ⟨rfl, f8⟩; have x8 := x7.quiet f8; have d8 := d7.quiet f8; have l0 : w8.cell? ⟨px, 0, none⟩ = some (.slice a5 n cap5) := (by rw [x8.blk.cell]; rfl); have l4 : w8.cell? ⟨px, 4, none⟩ = some (.int .i64 (s.N : Int)) := (by rw [x8.blk.cell]; rfl))
          | (go_at_call_of 22 (Value.pointer (some ⟨pd, 0, none⟩)); refine (dcount_any _ pd gd rd qd zs n s d8).mono ?_; rintro e w9 ⟨rfl, rfl⟩)
          | (go_at_call_of 19 (Value.pointer none); refine (dget_nil _ _).mono ?_; rintro e w9 ⟨rfl, rfl⟩)
          | (go_at_call_of 21 (Value.pointer none); refine (dchances_nil _).mono ?_; rintro e w9 ⟨rfl, rfl⟩)
          | (go_at_call_of 22 (Value.pointer none); refine (dcount_nil _).mono ?_; rintro e w9 ⟨rfl, rfl⟩))
        all_goals
          go_wp2
          go_ret
          exact ⟨rfl, (((F5.drew).trans' f7).trans' f8).below (Nat.le_refl _) (fun _ _ h => h)⟩
end Go.Proofs.Ytkaldidfpgipfaa
