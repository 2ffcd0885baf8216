/-
  Law package 6: which numbers any bytes tell, by any set (BinsGets): the walk.
-/
import Derived.Test.YthabklgeopdlhaaFirst6
import Derived.Test.YthabklgeopdlhaaRef6D
import Derived.Deep.RegionHeld3
namespace Go.Proofs.Ythabklgeopdlhaa
open Go.RowKit

theorem rsame_true6 (w : World) (v1 v2 : Value) (A : List Int) (h1 : Reads w v1 (intRow A)) (h2 : Reads w v2 (intRow A)) (hA : A.length ≤ 1000000) :
    Calls Try.prog 20 #[v1, v2] w fun e w' => e = .returned (.bool true) ∧ Fr (fun _ => False) w w' := by
  have := rsame_any w v1 v2 A A h1 h2 hA hA
  rw [show decide (A = A) = true by simp] at this
  exact this

theorem ctx9 : ctxN 9 = 9 := by decide

set_option maxRecDepth 100000 in
set_option maxHeartbeats 4000000 in
theorem gets6_walk (a : Option Addr) (len cap : Nat) (zs : List Nat) (a2 : Option Addr) (n cap2 : Nat) (V : Nat → Int) (D S : Int) (a3 : Option Addr) (len3 cap3 : Nat) (B : Nat → Bool) (w : World) (hzl : zs.length = len) (hsm : ∀ z ∈ zs, z < 256) (hB : CellsIn w a len cap (fun i => .int .u8 ((zs.getD i 0 : Nat) : Int))) (hF : CellsIn w a2 n cap2 (fun i => .int .i64 (V i))) (h0 : CellsIn w a3 len3 cap3 (fun i => .bool (B i))) :
    Calls Try.prog 4 #[.slice a len cap, .agg #[.slice a2 n cap2, .int .i64 D, .int .i64 S], .slice a3 len3 cap3] w fun e w' => e = .returned (.bool true) ∧ Below w.heap.size w w' := by
  have hlen3 : (len3 : Int) ≤ 9223372036854775807 := by have := h0.1; have := h0.2.1; unfold maxLen at *; omega
  have hlen : (len : Int) ≤ 9223372036854775807 := by have := hB.1; have := hB.2.1; unfold maxLen at *; omega
  have hnl : (n : Int) ≤ 9223372036854775807 := by have := hF.1; have := hF.2.1; unfold maxLen at *; omega
  obtain ⟨b, sv, hbw⟩ := SetV.of_in hF
  have HF : Hid (a2 = none → n = 0 ∧ cap2 = 0) := by
    show _ → _
    intro e
    rcases hF.2.2 with ⟨_, h1, h2⟩ | ⟨_, _, _, h1, _⟩
    · exact ⟨h1, h2⟩
    · rw [e] at h1; cases h1
  obtain ⟨W, hW⟩ : ∃ W, W = w.alloc (.cells #[.slice a2 n cap2, .int .i64 D, .int .i64 S] 24) := ⟨_, rfl⟩
  have F0 : Fr (fun _ => False) w W := by rw [hW]; exact (Fr.refl _ w).alloc _
  have O0 : SetObj W w.heap.size a2 n cap2 V b D S := ⟨by rw [hW]; exact Blk.new w _ _, sv.quiet F0⟩
  have hWs : W.heap.size = w.heap.size + 1 := by rw [hW]; simp
  have HW := hid hW
  have H0 := hid h0
  have HB := hid hB
  have HZ := hid hzl
  have HS := hid hsm
  clear h0 hB hzl hsm hW hF sv
  by_cases h300 : 300 < len
  · have h300' : (300 : Int) < (len : Int) := by omega
    go_enter Try.func4, Try.ntmps4
    go_wp2_with fail
    rw [← HW.out]
    refine (first6_any _).mono ?_
    rintro e w1 ⟨rfl, F1⟩
    go_wp2
    go_ret
    exact ⟨rfl, (F0.trans' F1).below (Nat.le_refl _) (fun _ _ h => h)⟩
  have h300' : ¬ (300 : Int) < (len : Int) := by omega
  have h300d : decide ((300 : Int) < (len : Int)) = false := by simpa using h300'
  by_cases h100 : 100 < n
  · have h100' : (100 : Int) < (n : Int) := by omega
    go_enter Try.func4, Try.ntmps4
    go_wp2_with fail
    rw [← HW.out]
    refine (first6_any _).mono ?_
    rintro e w1 ⟨rfl, F1⟩
    have k0 := (O0.quiet F1).k0
    go_wp2
    go_ret
    exact ⟨rfl, (F0.trans' F1).below (Nat.le_refl _) (fun _ _ h => h)⟩
  have h100' : ¬ (100 : Int) < (n : Int) := by omega
  have hz3 : zs.length ≤ 300 := by have := HZ.out; omega
  go_enter Try.func4, Try.ntmps4
  go_wp2_with fail
  rw [← HW.out]
  refine (first6_any _).mono ?_
  rintro e w1 ⟨rfl, f1⟩
  have O1 := O0.quiet f1
  have F1 := F0.trans' f1
  clear O0 F0 f1
  have k0 := O1.k0
  go_wp2_with fail
  refine (newDec_any w1 _ zs 9 (Reads.of_in HZ.out (HB.out.fr F1)) (by omega) HS.out).mono ?_
  rintro e w3 ⟨pd, gd, rd, qd, rfl, d3, hr3, hq3, f3⟩
  rw [ctx9] at d3
  have F3 : Fr (fun _ => False) w w3 := F1.trans' f3
  have hNew : Calls Try.prog 23 #[.slice a len cap, .int .i64 9] w3 fun e w' => ∃ p v ov, e = .returned (.pointer (some ⟨p, 0, none⟩)) ∧ RDe w' p v zs 9 (startD (bitAt zs) 9) ov ∧ w3.heap.size ≤ p ∧ (∀ k, v.ownBlock = some k → w3.heap.size ≤ k) ∧ Fr (fun _ => False) w3 w' := by
    have h := rnewDec_any w3 a cap zs 9 HS.out (by omega) (fun hp => by
      obtain ⟨b, off, e, hc⟩ := ((HB.out.fr F3).at (show 0 < len by rw [← HZ.out]; exact hp))
      exact ⟨b, off, e, fun j hj => hc j (by rw [← HZ.out]; exact hj)⟩)
    rw [HZ.out, ctx9] at h
    exact h
  go_wp2_with fail
  refine hNew.mono ?_
  rintro e w4 ⟨px, v4, ov4, rfl, x4, hpx, hvx, f4⟩
  have d4 := d3.quiet f4
  have F4 := F3.trans' f4
  have O4 := (O1.quiet f3).quiet f4
  have hw1 : w.heap.size < w1.heap.size := cell_lt k0
  have hrw : w.heap.size ≤ rd := by omega
  have hqw : w.heap.size ≤ qd := by omega
  have hrw' : w.heap.size < rd := by omega
  have hpd : pd < w3.heap.size := d3.blk.lt
  have hwx : w.heap.size < w3.heap.size := by have := f3.size; omega
  clear hNew d3 F3 f3 f4 hr3 hq3 F1 O1 k0
  go_wp2
  go_loopw [30] (fun i wr => ∃ (k : Nat) (s : DX), k ≤ len3 ∧ k ≤ 40 ∧ i = .int .i64 (k : Int) ∧ DGood 9 s ∧ s.N ≤ 81 * k ∧ De wr pd gd rd qd zs 9 s ∧ (∃ v ov, RDe wr px v zs 9 s ov ∧ ∀ j, v.ownBlock = some j → w3.heap.size ≤ j) ∧ SetObj wr w.heap.size a2 n cap2 V b D S ∧ Fr (fun _ => False) w wr) (fun i _ => len3 - (intOf i).toNat)
  case atStart => exact ⟨0, _, Nat.zero_le _, Nat.zero_le _, rfl, DGood.first _ _, Nat.le_refl _, d4, ⟨v4, ov4, x4, hvx⟩, O4, F4⟩
  case round =>
    clear d4 x4 F4 hvx O4
    obtain ⟨k, s, hk, hk4, rfl, hG, hN, d5, ⟨v5, ov5, x5, hv5⟩, O5, F5⟩ := hrel
    have hgp := d5.gp
    have hrg := d5.rg
    have hqg := d5.qg
    have k0 := O5.k0
    have k1 := O5.k1
    have k2 := O5.k2
    by_cases hgo : k < len3 ∧ k < 40
    · obtain ⟨hlt, h40⟩ := hgo
      obtain ⟨b3, off, rfl, hcell⟩ := (H0.out.fr F5).at hlt
      have hck := hcell k hlt
      have hki : (k : Int) < (len3 : Int) := by omega
      have h4i : ¬ (40 : Int) ≤ (k : Int) := by omega
      clear hcell
      cases hsg : B k with
      | true =>
       rw [hsg] at hck
       have hG7 := getG_good (B := bitAt zs) (V := V) (n := n) (D := D) (S := S) hG
       have hN7 := getG_N (B := bitAt zs) (V := V) (n := n) (D := D) (S := S) (c := 9) s
       go_wp2_with fail
       refine (bgetS_any wr pd gd rd qd zs 9 s a2 n cap2 V b D S d5 O5.set (fun hn => by have := hbw hn; unfold DeS; omega) (by omega) (by omega) (by omega) hG).mono ?_
       rintro e w6 ⟨rfl, d6, f6⟩
       have F6 := DeS.outer f6 d5 F5 hrw
       have x6 := x5.fr f6 (by unfold DeS; omega) (fun i hi hh => by have := hv5 i hi; unfold DeS at hh; omega)
       have O6 := O5.fr f6 (by unfold DeS; omega) (fun hn => by have := hbw hn; unfold DeS; omega)
       have hs6 := f6.size
       have hs5 := F5.size
       have hpl5 := x5.blk.lt
       clear d5 x5 F5 f6 O5 k0 k1 k2
       have k0 := O6.k0
       have k1 := O6.k1
       have k2 := O6.k2
       go_wp2_with fail
       refine (rgetG_any w6 px v5 zs 9 s ov5 a2 n cap2 V b D S x6 O6.set HF.out (by omega) (fun hn => by have := hbw hn; omega) (by omega) (by omega) (by omega) hG).mono ?_
       rintro e w7 ⟨rfl, v7, ov7, x7, f7, hv7⟩
       have d7 := d6.fr f7 (by omega) (by omega) (by omega) (by omega)
       have F7 := F6.trans f7 (by intro i hi e; omega)
       have O7 := O6.fr f7 (by omega) (fun hn => by have := hbw hn; omega)
       have hv7' : ∀ j, v7.ownBlock = some j → w3.heap.size ≤ j := by
         intro j hj
         rcases hv7 with e | e
         · rw [e] at hj; exact hv5 j hj
         · have := e j hj; omega
       generalize (getG (bitAt zs) V n D S 9 s).2 = s7 at *
       generalize (getG (bitAt zs) V n D S 9 s).1 = r at *
       have hself : (r != r) = false := by simp
       have c4 : w7.cell? ⟨px, 4, none⟩ = some (.int .i64 (s7.N : Int)) := by rw [x7.blk.cell]; rfl
       have hselfN : ((s7.N : Int) != (s7.N : Int)) = false := by simp
       have HC : Hid (∀ m, Calls Try.prog 28 #[.pointer (some ⟨pd, 0, none⟩)] (w7.drewN m) fun e w' => e = .returned (.int .i64 (s7.N : Int)) ∧ w' = w7.drewN m) := fun m => dcount_any _ pd gd rd qd zs 9 s7 (d7.quiet ((Fr.refl (fun _ => False) w7).drewN m))
       clear d6 x6 F6 f7 hv7 hv5 O6 k0 k1 k2
       go_wp2
       go_quiet ((go_at_call 28; exact Calls.quiet_of_same (HC.out _)))
       go_wp2
       go_roundw
       case rel => exact ⟨k + 1, s7, by omega, by omega, by go_num, hG7, by omega, d7.quiet ((Fr.refl (fun _ => False) w7).drewN _), ⟨v7, ov7, x7.quiet ((Fr.refl (fun _ => False) w7).drewN _), hv7'⟩, O7.quiet ((Fr.refl (fun _ => False) w7).drewN _), F7.drewN _⟩
       case measure => simp [intOf]; omega
      | false =>
       rw [hsg] at hck
       have hG7 := getN_good (B := bitAt zs) (V := V) (n := n) (D := D) (S := S) hG
       have hN7 := getN_N (B := bitAt zs) (V := V) (n := n) (D := D) (S := S) (c := 9) s
       go_wp2_with fail
       refine (bget_any wr pd gd rd qd zs 9 s a2 n cap2 V b D S d5 O5.set (fun hn => by have := hbw hn; unfold DeS; omega) (by omega) (by omega) (by omega) hG).mono ?_
       rintro e w6 ⟨rfl, d6, f6⟩
       have F6 := DeS.outer f6 d5 F5 hrw
       have x6 := x5.fr f6 (by unfold DeS; omega) (fun i hi hh => by have := hv5 i hi; unfold DeS at hh; omega)
       have O6 := O5.fr f6 (by unfold DeS; omega) (fun hn => by have := hbw hn; unfold DeS; omega)
       have hs6 := f6.size
       have hs5 := F5.size
       have hpl5 := x5.blk.lt
       clear d5 x5 F5 f6 O5 k0 k1 k2
       have k0 := O6.k0
       have k1 := O6.k1
       have k2 := O6.k2
       go_wp2_with fail
       refine (rgetN_any w6 px v5 zs 9 s ov5 a2 n cap2 V b D S x6 O6.set HF.out (by omega) (fun hn => by have := hbw hn; omega) (by omega) (by omega) (by omega) hG).mono ?_
       rintro e w7 ⟨rfl, v7, ov7, x7, f7, hv7⟩
       have d7 := d6.fr f7 (by omega) (by omega) (by omega) (by omega)
       have F7 := F6.trans f7 (by intro i hi e; omega)
       have O7 := O6.fr f7 (by omega) (fun hn => by have := hbw hn; omega)
       have hv7' : ∀ j, v7.ownBlock = some j → w3.heap.size ≤ j := by
         intro j hj
         rcases hv7 with e | e
         · rw [e] at hj; exact hv5 j hj
         · have := e j hj; omega
       generalize (getN (bitAt zs) V n D S 9 s).2 = s7 at *
       generalize ((getN (bitAt zs) V n D S 9 s).1 : Int) = r at *
       have hself : (r != r) = false := by simp
       have c4 : w7.cell? ⟨px, 4, none⟩ = some (.int .i64 (s7.N : Int)) := by rw [x7.blk.cell]; rfl
       have hselfN : ((s7.N : Int) != (s7.N : Int)) = false := by simp
       have HC : Hid (∀ m, Calls Try.prog 28 #[.pointer (some ⟨pd, 0, none⟩)] (w7.drewN m) fun e w' => e = .returned (.int .i64 (s7.N : Int)) ∧ w' = w7.drewN m) := fun m => dcount_any _ pd gd rd qd zs 9 s7 (d7.quiet ((Fr.refl (fun _ => False) w7).drewN m))
       clear d6 x6 F6 f7 hv7 hv5 O6 k0 k1 k2
       go_wp2
       go_quiet ((go_at_call 28; exact Calls.quiet_of_same (HC.out _)))
       go_wp2
       go_roundw
       case rel => exact ⟨k + 1, s7, by omega, by omega, by go_num, hG7, by omega, d7.quiet ((Fr.refl (fun _ => False) w7).drewN _), ⟨v7, ov7, x7.quiet ((Fr.refl (fun _ => False) w7).drewN _), hv7'⟩, O7.quiet ((Fr.refl (fun _ => False) w7).drewN _), F7.drewN _⟩
       case measure => simp [intOf]; omega
    · have hexit : (¬ (k : Int) < (len3 : Int)) ∨ ((k : Int) < (len3 : Int) ∧ (40 : Int) ≤ (k : Int)) := by omega
      obtain ⟨a5, cap5, rfl, _⟩ := ownsRow_form x5.own
      rcases hexit with hki | ⟨hki, h4i⟩
      · clear hgo
        go_wp2
        have d6 := d5.quiet ((Fr.refl (fun _ => False) wr).drew)
        have O6 := O5.quiet ((Fr.refl (fun _ => False) wr).drew)
        have q0 : wr.cell? ⟨px, 0, none⟩ = some (.slice a5 9 cap5) := by rw [x5.blk.cell]; rfl
        have hPl : s.P.length = 9 := d5.len
        first | go_region_held3 (fun w' => w'.cell? ⟨px, 0, none⟩ = some (.slice a5 9 cap5) ∧ w'.cell? ⟨w.heap.size, 0, none⟩ = some (.slice a2 n cap2) ∧ w'.cell? ⟨w.heap.size, 1, none⟩ = some (.int .i64 D) ∧ w'.cell? ⟨w.heap.size, 2, none⟩ = some (.int .i64 S)) (go_keep) (first
          | (go_at_call 29; refine (dchances_any _ pd gd rd qd zs 9 s d6 (by omega)).mono ?_; rintro e w7 ⟨q7, rfl, b7, hq7, f7⟩; have x7 := x5.quiet (((Fr.refl (fun _ => False) wr).drew).trans' f7); have O7 := O6.quiet f7; have m0 : w7.cell? ⟨px, 0, none⟩ = some (.slice a5 9 cap5) := (by rw [x7.blk.cell]; rfl); have m1 := O7.k0; have m2 := O7.k1; have m3 := O7.k2; have hsame := hid (rsame_true6 w7 (.slice (some ⟨q7, 0, none⟩) 9 9) (.slice a5 9 cap5) s.P (reads_blkI b7 hPl) (Reads.of_owns (by rw [intRow_length, hPl]; exact x7.own)) (by omega)))
          | (go_at_call 20; refine hsame.out.mono ?_; rintro e w8 ⟨rfl, f8⟩; have x8 := x7.quiet f8; have O8 := O7.quiet f8; have l0 : w8.cell? ⟨px, 0, none⟩ = some (.slice a5 9 cap5) := (by rw [x8.blk.cell]; rfl); have l1 := O8.k0; have l2 := O8.k1; have l3 := O8.k2)
          | (go_at_call 26; refine (bget_nil w8 a2 n cap2 V b D S O8.set).mono ?_; rintro e w9 ⟨rfl, f9⟩; have x9 := x8.quiet f9; have O9 := O8.quiet f9; have j0 : w9.cell? ⟨px, 0, none⟩ = some (.slice a5 9 cap5) := (by rw [x9.blk.cell]; rfl); have j1 := O9.k0; have j2 := O9.k1; have j3 := O9.k2)
          | (go_at_call 24; refine (bgetS_nil w9 a2 n cap2 V b D S O9.set).mono ?_; rintro e w10 ⟨rfl, f10⟩; have x10 := x9.quiet f10; have O10 := O9.quiet f10; have i0 : w10.cell? ⟨px, 0, none⟩ = some (.slice a5 9 cap5) := (by rw [x10.blk.cell]; rfl); have i1 := O10.k0; have i2 := O10.k1; have i3 := O10.k2)) | fail
        all_goals
          go_wp2
          go_ret
          exact ⟨rfl, ((((F5.drew).trans' f7).trans' f8).trans' (f9.trans' f10)).below (Nat.le_refl _) (fun _ _ h => h)⟩
      · have hlt : k < len3 := by omega
        obtain ⟨b3, off, rfl, hcell⟩ := (H0.out.fr F5).at hlt
        have hck := hcell k hlt
        clear hcell hgo
        go_wp2
        have d6 := d5.quiet ((Fr.refl (fun _ => False) wr).drew)
        have O6 := O5.quiet ((Fr.refl (fun _ => False) wr).drew)
        have q0 : wr.cell? ⟨px, 0, none⟩ = some (.slice a5 9 cap5) := by rw [x5.blk.cell]; rfl
        have hPl : s.P.length = 9 := d5.len
        first | go_region_held3 (fun w' => w'.cell? ⟨px, 0, none⟩ = some (.slice a5 9 cap5) ∧ w'.cell? ⟨w.heap.size, 0, none⟩ = some (.slice a2 n cap2) ∧ w'.cell? ⟨w.heap.size, 1, none⟩ = some (.int .i64 D) ∧ w'.cell? ⟨w.heap.size, 2, none⟩ = some (.int .i64 S)) (go_keep) (first
          | (go_at_call 29; refine (dchances_any _ pd gd rd qd zs 9 s d6 (by omega)).mono ?_; rintro e w7 ⟨q7, rfl, b7, hq7, f7⟩; have x7 := x5.quiet (((Fr.refl (fun _ => False) wr).drew).trans' f7); have O7 := O6.quiet f7; have m0 : w7.cell? ⟨px, 0, none⟩ = some (.slice a5 9 cap5) := (by rw [x7.blk.cell]; rfl); have m1 := O7.k0; have m2 := O7.k1; have m3 := O7.k2; have hsame := hid (rsame_true6 w7 (.slice (some ⟨q7, 0, none⟩) 9 9) (.slice a5 9 cap5) s.P (reads_blkI b7 hPl) (Reads.of_owns (by rw [intRow_length, hPl]; exact x7.own)) (by omega)))
          | (go_at_call 20; refine hsame.out.mono ?_; rintro e w8 ⟨rfl, f8⟩; have x8 := x7.quiet f8; have O8 := O7.quiet f8; have l0 : w8.cell? ⟨px, 0, none⟩ = some (.slice a5 9 cap5) := (by rw [x8.blk.cell]; rfl); have l1 := O8.k0; have l2 := O8.k1; have l3 := O8.k2)
          | (go_at_call 26; refine (bget_nil w8 a2 n cap2 V b D S O8.set).mono ?_; rintro e w9 ⟨rfl, f9⟩; have x9 := x8.quiet f9; have O9 := O8.quiet f9; have j0 : w9.cell? ⟨px, 0, none⟩ = some (.slice a5 9 cap5) := (by rw [x9.blk.cell]; rfl); have j1 := O9.k0; have j2 := O9.k1; have j3 := O9.k2)
          | (go_at_call 24; refine (bgetS_nil w9 a2 n cap2 V b D S O9.set).mono ?_; rintro e w10 ⟨rfl, f10⟩; have x10 := x9.quiet f10; have O10 := O9.quiet f10; have i0 : w10.cell? ⟨px, 0, none⟩ = some (.slice a5 9 cap5) := (by rw [x10.blk.cell]; rfl); have i1 := O10.k0; have i2 := O10.k1; have i3 := O10.k2)) | fail
        all_goals
          go_wp2
          go_ret
          exact ⟨rfl, ((((F5.drew).trans' f7).trans' f8).trans' (f9.trans' f10)).below (Nat.le_refl _) (fun _ _ h => h)⟩
end Go.Proofs.Ythabklgeopdlhaa
