/-
  Law package 5: what is asked ahead of every statement.
-/
import Derived.Test.YtkaldidfpgipfaaArithS
import Derived.Test.YtkaldidfpgipfaaArithY
import Derived.Test.YtkaldidfpgipfaaArithD
import Derived.Test.YtkaldidfpgipfaaRef5
namespace Go.Proofs.Ytkaldidfpgipfaa
open Go.RowKit

/-- A block of numbers reads. -/
theorem reads_blkI {w : World} {q n : Nat} {P : List Int} (h : Blk w q (intRow P).toArray 3) (hn : P.length = n) : Reads w (.slice (some ⟨q, 0, none⟩) n n) (intRow P) := by
  subst hn
  exact ⟨_, _, by rw [intRow_length], fun _ => ⟨_, rfl, fun j u hu => World.news_of_block h j u (by simpa using hu)⟩⟩

theorem runC_len (n : Nat) (l : List (Int × Bool)) : (runC n (startC n) l).P.length = n := (runC_good n l _ (Good.first n)).fair.1

theorem ctx2 : ctxN 2 = 2 := by decide

theorem first5_any (w : World) :
    Calls Try.prog 7 #[] w fun e w' => e = .returned (.bool true) ∧ Fr (fun _ => False) w w' := by
  go_enter Try.func7, Try.ntmps7
  go_wp2_with fail
  refine (newEnc_any w 2).mono ?_
  rintro e w1 ⟨p, g, rfl, h1, hg, f1⟩
  rw [ctx2] at h1
  go_wp2_with fail
  refine (ebytes_any w1 p g _ _ 2 _ h1 (Good.first 2) (by simp [startC])).mono ?_
  rintro e w2 ⟨q2, cap2, ys2, rfl, o2, T2, f2⟩
  obtain rfl : ys2 = [] := by rw [T2.eq]; exact start_bytes 2
  have h2 := h1.quiet f2
  have F2 := f1.trans' f2
  clear h1 f1 f2 o2 T2
  go_wp2
  go_loopw [14] (fun i wr => ∃ k : Nat, k ≤ 40 ∧ i = .int .i64 (k : Int) ∧ (∃ v zs, En wr p g v zs 2 (runC 2 (startC 2) (fstL k))) ∧ Fr (fun _ => False) w wr) (fun i _ => 40 - (intOf i).toNat)
  case atStart => exact ⟨0, Nat.zero_le _, rfl, ⟨_, _, h2⟩, F2⟩
  case round =>
    clear h2 F2
    obtain ⟨k, hk, rfl, ⟨v3, zs3, h3⟩, F3⟩ := hrel
    have hg3 := runC_good 2 (fstL k) (startC 2) (Good.first 2)
    have hn3 := runC_N0 2 (fstL k)
    rw [fstL_length] at hn3
    by_cases hlt : k < 40
    · have hki : (k : Int) < 40 := by omega
      have HS : Hid (runC 2 (startC 2) (fstL (k + 1)) = putX 2 (runC 2 (startC 2) (fstL k)) (((k % 2 : Nat) : Int)) (decide (k % 3 = 0))) := by show _ = _; rw [fstL_succ, runC_snoc]; rfl
      have HD : Hid (((k : Int) % 3 == 0) = decide (k % 3 = 0)) := by show _ = _; rw [Bool.eq_iff_iff]; simp; omega
      have HM : Hid ((k : Int) % 2 = ((k % 2 : Nat) : Int)) := by show _ = _; omega
      go_wp2_with fail
      rw [HD.out, HM.out]
      refine (eput_any wr p g v3 zs3 2 _ (((k % 2 : Nat) : Int)) (decide (k % 3 = 0)) h3 (by omega) (by omega) hg3).mono ?_
      rintro e w4 ⟨rfl, v4, zs4, h4, st4⟩
      rw [← HS.out] at h4
      have F4 := st4.outer h3 F3 hg
      clear h3 F3 st4
      go_wp2
      go_roundw
      case rel => exact ⟨k + 1, by omega, by go_num, ⟨v4, zs4, h4⟩, F4⟩
      case measure => simp [intOf]; omega
    · obtain rfl : k = 40 := by omega
      have hN40 := runC_N' 2 (fstL 40) (startC 2) (fstL_has 40)
      rw [fstL_length] at hN40
      have hN40 : (runC 2 (startC 2) (fstL 40)).N = 40 := hN40
      go_wp2_with fail
      refine (ebytes_any wr p g v3 zs3 2 _ h3 hg3 (by omega)).mono ?_
      rintro e w4 ⟨q4, cap4, ys, rfl, o4, T4, f4⟩
      have h4 := h3.quiet f4
      have F4 := F3.trans' f4
      have hfol := tells_follow hg3 T4
      have hyl := T4.len
      have hfew := hg3.few
      have hsm := T4.small
      have hys : ys.length ≤ 1000 := by omega
      have hy3 : 3 < ys.length := by rw [T4.eq]; exact fst_len
      clear h3 F3 f4
      go_wp2_with fail
      refine (newDec_any w4 _ ys 2 (Reads.of_owns (by rw [rowOf_length]; exact o4)) (by omega) hsm).mono ?_
      rintro e w5 ⟨pd, gd, r, q, rfl, d5, hr, hq, f5⟩
      rw [ctx2, ← decSt_start] at d5
      have h5 := h4.quiet f5
      have F5 := F4.trans' f5
      have hpr : p < w4.heap.size := h4.blk.lt
      have hvr : ∀ k, v3.ownBlock = some k → k < w4.heap.size := fun k hk => (h4.vlt hk).2
      have hrw : w.heap.size ≤ r := Nat.le_trans F4.size hr
      clear h4 F4 f5 o4
      have HF := hid hfol
      have HT4 := hid T4
      clear hfol T4
      go_wp2
      go_loopw [30] (fun i wx => ∃ k : Nat, k ≤ 40 ∧ i = .int .i64 (k : Int) ∧ De wx pd gd r q ys 2 (decSt (bitAt ys) (runC 2 (startC 2) (fstL k))) ∧ En wx p g v3 zs3 2 (runC 2 (startC 2) (fstL 40)) ∧ Fr (fun _ => False) w wx) (fun i _ => 40 - (intOf i).toNat)
      case atStart => exact ⟨0, Nat.zero_le _, rfl, d5, h5, F5⟩
      case round =>
        clear d5 h5 F5
        obtain ⟨k, hk, rfl, d6, h6, F6⟩ := hrel
        have hgd := d6.gp
        have hrg := d6.rg
        by_cases hlt2 : k < 40
        · have hki : (k : Int) < 40 := by omega
          have hto := run_told (fstL 40) (fstL_has 40) HF.out k (by rw [fstL_length]; exact hlt2)
          have ek : (fstL 40)[k]'(by rw [fstL_length]; exact hlt2) = fstB k := by simp [fstL]
          rw [ek, fstL_take k 40 (by omega), fstL_take (k + 1) 40 (by omega)] at hto
          have HT := hid hto
          have hDG : DGood 2 (decSt (bitAt ys) (runC 2 (startC 2) (fstL k))) := decSt_good _ (runC_good 2 _ _ (Good.first 2))
          have hDN : (decSt (bitAt ys) (runC 2 (startC 2) (fstL k))).N ≤ 1000 := by
            have := runC_N0 2 (fstL k)
            rw [fstL_length] at this
            show (runC 2 (startC 2) (fstL k)).N ≤ 1000
            omega
          have HD : Hid (((k : Int) % 3 == 0) = decide (k % 3 = 0)) := by show _ = _; rw [Bool.eq_iff_iff]; simp; omega
          have HM : Hid ((k : Int) % 2 = ((k % 2 : Nat) : Int)) := by show _ = _; omega
          clear hto ek
          go_wp2_with fail
          rw [HM.out]
          refine (dget_any wr pd gd r q ys 2 _ (((k % 2 : Nat) : Int)) d6 (by omega) (by omega) (by omega) hDG).mono ?_
          rintro e w7 ⟨rfl, d7, f7⟩
          have hT1 : getB 2 (decSt (bitAt ys) (runC 2 (startC 2) (fstL k))) ((k % 2 : Nat) : Int) = decide (k % 3 = 0) := HT.out.1
          have hT2 : getX (bitAt ys) 2 (decSt (bitAt ys) (runC 2 (startC 2) (fstL k))) ((k % 2 : Nat) : Int) = decSt (bitAt ys) (runC 2 (startC 2) (fstL (k + 1))) := HT.out.2
          rw [hT1, ← HD.out]
          rw [hT2] at d7
          have F7 := DeS.outer f7 d6 F6 hrw
          have h7 := h6.fr f7 (by unfold DeS; omega) (by have := h6.gp; unfold DeS; omega) (fun i hi hh => by have := hvr i hi; unfold DeS at hh; omega)
          clear d6 F6 f7 h6 HT hT1 hT2 hDG
          have hself : (((k : Int) % 3 == 0) != ((k : Int) % 3 == 0)) = false := by simp
          go_wp2
          go_roundw
          case rel => exact ⟨k + 1, by omega, by go_num, d7, h7, F7⟩
          case measure => simp [intOf]; omega
        · obtain rfl : k = 40 := by omega
          have hput : putX 2 (runC 2 (startC 2) (fstL 40)) 2 true = runC 2 (startC 2) (fstL 40) := by unfold putX; rw [show hasX 2 2 = false by decide]; rfl
          have hNd : (decSt (bitAt ys) (runC 2 (startC 2) (fstL 40))).N = 40 := hN40
          have hPd : (decSt (bitAt ys) (runC 2 (startC 2) (fstL 40))).P = (runC 2 (startC 2) (fstL 40)).P := rfl
          have hPl := runC_len 2 (fstL 40)
          generalize runC 2 (startC 2) (fstL 40) = s40 at *
          generalize decSt (bitAt ys) s40 = dd40 at *
          go_wp2_with fail
          refine (eput_any wr p g v3 zs3 2 s40 2 true h6 (by omega) (by omega) hg3).mono ?_
          rintro e w7 ⟨rfl, v7, zs7, h7, st7⟩
          rw [hput] at h7
          have F7 := st7.outer h6 F6 hg
          have hne7 : ∀ i, (i = p ∨ i = g ∨ v3.ownBlock = some i) → i < w4.heap.size := by
            rintro i (e | e | e)
            · omega
            · have := h6.gp; omega
            · exact hvr i e
          have d7 := d6.fr st7.fr (by intro hh; have := hne7 _ hh; omega) (by intro hh; have := hne7 _ hh; omega) (by intro hh; have := hne7 _ hh; omega) (by intro hh; have := hne7 _ hh; omega)
          rw [show hasX 2 2 = false by decide]
          clear h6 F6 st7 hne7
          go_wp2_with fail
          refine (ecount_any _ p g _ _ 2 _ h7).mono ?_
          rintro e w8 ⟨rfl, rfl⟩
          rw [hN40]
          go_wp2_with fail
          refine (dcount_any _ pd gd r q ys 2 _ d7).mono ?_
          rintro e w8 ⟨rfl, rfl⟩
          rw [hNd]
          go_wp2_with fail
          refine (dchances_any _ pd gd r q ys 2 _ d7 (by omega)).mono ?_
          rintro e w9 ⟨q9, rfl, b9, hq9, f9⟩
          rw [hPd] at b9
          have h9 := h7.quiet f9
          have F9 := F7.trans' f9
          clear d7 h7 F7 f9
          go_wp2_with fail
          refine (echances_any _ p g _ _ 2 _ h9 (by omega)).mono ?_
          rintro e w10 ⟨q10, rfl, b10, hq10, f10⟩
          have b9' := b9.fr f10 (fun h => h)
          have h10 := h9.quiet f10
          have F10 := F9.trans' f10
          clear h9 F9 f10 b9
          go_wp2_with fail
          refine (rsame_any _ _ _ s40.P s40.P (reads_blkI b9' hPl) (reads_blkI b10 hPl) (by omega) (by omega)).mono ?_
          rintro e w11 ⟨rfl, f11⟩
          rw [show decide (s40.P = s40.P) = true by simp]
          have h11 := h10.quiet f11
          have F11 := F10.trans' f11
          clear h10 F10 f11 b9' b10
          go_wp2_with fail
          refine (ebytes_any _ p g _ _ 2 _ h11 hg3 (by omega)).mono ?_
          rintro e w12 ⟨q12, cap12, ys12, rfl, o12, T12, f12⟩
          obtain rfl : ys12 = ys := T12.unique HT4.out
          have hy3' : (3 : Int) < (ys12.length : Int) := by omega
          go_wp2
          go_ret
          exact ⟨rfl, F11.trans' f12⟩
end Go.Proofs.Ytkaldidfpgipfaa
