/-
  The document's answer for layer 10: Parent, in the list of six levels.
-/
import Derived.BigQuiet
import Derived.Test.YtgmainbgliejhaaRef10B
import Derived.Test.YtgmainbgliejhaaBandsP
import Derived.Test.YtgmainbgliejhaaBandsF
namespace Go.Proofs.Ytgmainbgliejhaa
open Go.RowKit

def six (i : Nat) : BandN := bandAt 6 64 64 i

set_option maxRecDepth 100000 in
set_option maxHeartbeats 2000000 in
theorem rparent_none (a : Option Addr) (cap : Nat) (b : Nat) (i : Int) (w : World) (h : Bds w a 19 cap six b) (hi : i < 0 ∨ 19 ≤ i) :
    Calls Try.prog 14 #[.slice a 19 cap, .int .i64 i] w fun e w' => e = .returned (.int .i64 (-1)) ∧ Fr (fun _ => False) w w' := by
  obtain rfl := h.addr (by omega)
  have HB := hid h
  clear h
  go_enter Try.func14, Try.ntmps14
  go_wp2
  go_loopw [9] (fun i wr => ∃ k : Nat, k ≤ 19 ∧ i = .int .i64 (k : Int) ∧ Fr (fun _ => False) w wr) (fun i _ => 19 - (intOf i).toNat)
  case atStart => exact ⟨0, Nat.zero_le _, rfl, Fr.refl _ _⟩
  case round =>
    obtain ⟨k, hk, rfl, F⟩ := hrel
    by_cases hlt : k < 19
    · have hki : (k : Int) < 19 := by omega
      obtain ⟨x0, x1, x2, x3, x4, x5⟩ := (HB.out.quiet F).cells hlt
      generalize six k = B at x0 x1 x2 x3 x4 x5
      obtain ⟨lv, o, bx, by', bw, bh⟩ := B
      dsimp only at x0 x1 x2 x3 x4 x5
      obtain ⟨W, hW⟩ : ∃ W, W = wr.alloc (.cells #[.int .i64 (lv : Int), .int .i64 (o : Int), .int .i64 (bx : Int), .int .i64 (by' : Int), .int .i64 (bw : Int), .int .i64 (bh : Int)] 31) := ⟨_, rfl⟩
      have HFW : Hid (Fr (fun _ => False) w W) := by rw [hW]; exact F.alloc _
      have HW := hid hW
      clear hW F
      rcases hi with hi | hi
      · have g0 : decide (0 ≤ i) = false := decide_eq_false (by omega)
        go_wp2
        rw [← HW.out]
        go_quiet (fail)
        go_wp2
        go_roundw
        case rel => exact ⟨k + 1, by omega, by go_num, HFW.out.drewN _⟩
        case measure => simp [intOf]; omega
      · have g0 : decide (0 ≤ i) = true := decide_eq_true (by omega)
        have g1 : decide (i < 19) = false := decide_eq_false (by omega)
        go_wp2
        rw [← HW.out]
        go_quiet (fail)
        go_wp2
        go_roundw
        case rel => exact ⟨k + 1, by omega, by go_num, HFW.out.drewN _⟩
        case measure => simp [intOf]; omega
    · have hki : ¬ (k : Int) < 19 := by omega
      have HF := hid F
      clear F
      go_wp2
      go_ret
      exact ⟨rfl, HF.out⟩

theorem six_level {i : Nat} (hi : i < 19) : (six i).level ≤ 6 := by unfold six; rw [bandAt_level]; split <;> omega
theorem six_orient {i : Nat} : (six i).orient ≤ 3 := by unfold six; rw [bandAt_orient]; split <;> omega

set_option maxRecDepth 100000 in
set_option maxHeartbeats 2000000 in
theorem rparent_low (a : Option Addr) (cap : Nat) (b : Nat) (i : Nat) (w : World) (h : Bds w a 19 cap six b) (hi : i < 4) :
    Calls Try.prog 14 #[.slice a 19 cap, .int .i64 (i : Int)] w fun e w' => e = .returned (.int .i64 (-1)) ∧ Fr (fun _ => False) w w' := by
  obtain rfl := h.addr (by omega)
  have HB := hid h
  clear h
  have hl : ¬ 2 ≤ (six i).level := by unfold six; rw [level_two]; omega
  have g0 : decide (0 ≤ (i : Int)) = true := decide_eq_true (by omega)
  have g1 : decide ((i : Int) < 19) = true := decide_eq_true (by omega)
  have h19 : i < 19 := by omega
  go_enter Try.func14, Try.ntmps14
  go_wp2
  go_loopw [9] (fun i wr => ∃ k : Nat, k ≤ 19 ∧ i = .int .i64 (k : Int) ∧ Fr (fun _ => False) w wr) (fun i _ => 19 - (intOf i).toNat)
  case atStart => exact ⟨0, Nat.zero_le _, rfl, Fr.refl _ _⟩
  case round =>
    obtain ⟨k, hk, rfl, F⟩ := hrel
    by_cases hlt : k < 19
    · have hki : (k : Int) < 19 := by omega
      obtain ⟨x0, x1, x2, x3, x4, x5⟩ := (HB.out.quiet F).cells hlt
      generalize six k = B at x0 x1 x2 x3 x4 x5
      obtain ⟨lv, o, bx, by', bw, bh⟩ := B
      dsimp only at x0 x1 x2 x3 x4 x5
      obtain ⟨W, hW⟩ : ∃ W, W = wr.alloc (.cells #[.int .i64 (lv : Int), .int .i64 (o : Int), .int .i64 (bx : Int), .int .i64 (by' : Int), .int .i64 (bw : Int), .int .i64 (bh : Int)] 31) := ⟨_, rfl⟩
      have FW : Fr (fun _ => False) w W := by rw [hW]; exact F.alloc _
      obtain ⟨y0, _⟩ := (HB.out.quiet FW).cells h19
      have g2 : decide (2 ≤ ((six i).level : Int)) = false := decide_eq_false (by omega)
      generalize (six i).level = li at y0 g2
      have HFW := hid FW
      have HW := hid hW
      clear hW F FW
      go_wp2
      rw [← HW.out]
      go_quiet (fail)
      go_wp2
      go_roundw
      case rel => exact ⟨k + 1, by omega, by go_num, HFW.out.drewN _⟩
      case measure => simp [intOf]; omega
    · have hki : ¬ (k : Int) < 19 := by omega
      have HF := hid F
      clear F
      go_wp2
      go_ret
      exact ⟨rfl, HF.out⟩

set_option maxRecDepth 100000 in
set_option maxHeartbeats 2000000 in
theorem rparent_go (a : Option Addr) (cap : Nat) (b : Nat) (i : Nat) (w : World) (h : Bds w a 19 cap six b) (hi : 4 ≤ i) (h19 : i < 19) :
    Calls Try.prog 14 #[.slice a 19 cap, .int .i64 (i : Int)] w fun e w' => e = .returned (.int .i64 ((i - 3 : Nat) : Int)) ∧ Fr (fun _ => False) w w' := by
  obtain rfl := h.addr (by omega)
  have HB := hid h
  clear h
  have hl : 2 ≤ (six i).level := by unfold six; rw [level_two]; omega
  have hl6 := six_level h19
  have ho3 := six_orient (i := i)
  have HI : Hid (∀ k, ((six k).level = (six i).level - 1 ∧ (six k).orient = (six i).orient) ↔ k = i - 3) := fun k => parent_iff hi
  obtain ⟨li, hli⟩ : ∃ li, (six i).level = li := ⟨_, rfl⟩
  obtain ⟨oi, hoi⟩ : ∃ oi, (six i).orient = oi := ⟨_, rfl⟩
  have HY : Hid (∀ wr, Fr (fun _ => False) w wr → wr.cell? ⟨b, i * 6, none⟩ = some (.int .i64 (li : Int)) ∧ wr.cell? ⟨b, i * 6 + 1, none⟩ = some (.int .i64 (oi : Int))) := fun wr f => by
    have := (HB.out.quiet f).cells h19
    rw [hli, hoi] at this
    exact ⟨this.1, this.2.1⟩
  rw [hli] at hl hl6
  rw [hoi] at ho3
  rw [hli, hoi] at HI
  have g0 : decide (0 ≤ (i : Int)) = true := decide_eq_true (by omega)
  have g1 : decide ((i : Int) < 19) = true := decide_eq_true (by omega)
  have g2 : decide (2 ≤ (li : Int)) = true := decide_eq_true (by omega)
  have hiI : (i : Int) < 19 := by omega
  have hi0 : (0 : Int) ≤ (i : Int) := by omega
  obtain ⟨l1, hl1⟩ : ∃ l1, li - 1 = l1 := ⟨_, rfl⟩
  have hl1I : (li : Int) - 1 = (l1 : Int) := by omega
  rw [hl1] at HI
  have hw1 : IntKind.i64.wrap (l1 : Int) = (l1 : Int) := by rw [IntKind.wrap_i64]; omega
  clear hli hoi hl1
  go_enter Try.func14, Try.ntmps14
  go_wp2
  go_loopw [9] (fun iv wr => ∃ k : Nat, k ≤ i - 3 ∧ iv = .int .i64 (k : Int) ∧ Fr (fun _ => False) w wr) (fun iv _ => 19 - (intOf iv).toNat)
  case atStart => exact ⟨0, Nat.zero_le _, rfl, Fr.refl _ _⟩
  case round =>
    obtain ⟨k, hk, rfl, F⟩ := hrel
    have hlt : k < 19 := by omega
    have hki : (k : Int) < 19 := by omega
    obtain ⟨x0, x1, x2, x3, x4, x5⟩ := (HB.out.quiet F).cells hlt
    have HIk := hid (HI.out k)
    have hlk := six_level hlt
    have hok := six_orient (i := k)
    generalize six k = B at x0 x1 x2 x3 x4 x5 HIk hlk hok
    obtain ⟨lv, o, bx, by', bw, bh⟩ := B
    dsimp only at x0 x1 x2 x3 x4 x5 HIk hlk hok
    obtain ⟨W, hW⟩ : ∃ W, W = wr.alloc (.cells #[.int .i64 (lv : Int), .int .i64 (o : Int), .int .i64 (bx : Int), .int .i64 (by' : Int), .int .i64 (bw : Int), .int .i64 (bh : Int)] 31) := ⟨_, rfl⟩
    have FW : Fr (fun _ => False) w W := by rw [hW]; exact F.alloc _
    have BW : Blk W wr.heap.size #[.int .i64 (lv : Int), .int .i64 (o : Int), .int .i64 (bx : Int), .int .i64 (by' : Int), .int .i64 (bw : Int), .int .i64 (bh : Int)] 31 := by
      rw [hW]; exact Blk.new _ _ _
    have z0 : W.cell? ⟨wr.heap.size, 0, none⟩ = some (.int .i64 (lv : Int)) := by rw [BW.cell]; rfl
    have z1 : W.cell? ⟨wr.heap.size, 1, none⟩ = some (.int .i64 (o : Int)) := by rw [BW.cell]; rfl
    obtain ⟨y0, y1⟩ := HY.out W FW
    obtain ⟨bq, hbq⟩ : ∃ bq, bq = wr.heap.size := ⟨_, rfl⟩
    rw [← hbq] at z0 z1
    have HFW := hid FW
    have HW := hid hW
    have HQ := hid hbq
    clear hW F FW BW hbq
    by_cases e1 : lv = l1
    · have g3 : ((lv : Int) == (l1 : Int)) = true := beq_iff_eq.2 (by omega)
      by_cases e2 : o = oi
      · have g4 : ((o : Int) == (oi : Int)) = true := beq_iff_eq.2 (by omega)
        obtain rfl : k = i - 3 := HIk.out.1 ⟨e1, e2⟩
        have HE1 := hid e1
        have HE2 := hid e2
        clear e1 e2 HIk
        go_wp2
        rw [← HW.out, ← HQ.out]
        go_quiet (fail)
        go_wp2
        go_ret
        exact ⟨rfl, HFW.out.drewN _⟩
      · have g4 : ((o : Int) == (oi : Int)) = false := beq_eq_false_iff_ne.2 (by omega)
        have hne : k ≠ i - 3 := fun e => e2 (HIk.out.2 e).2
        have HE1 := hid e1
        clear e1 e2 HIk
        go_wp2
        rw [← HW.out, ← HQ.out]
        go_quiet (fail)
        go_wp2
        go_roundw
        case rel => exact ⟨k + 1, by omega, by go_num, HFW.out.drewN _⟩
        case measure => simp [intOf]; omega
    · have g3 : ((lv : Int) == (l1 : Int)) = false := beq_eq_false_iff_ne.2 (by omega)
      have hne : k ≠ i - 3 := fun e => e1 (HIk.out.2 e).1
      clear e1 HIk
      go_wp2
      rw [← HW.out, ← HQ.out]
      go_quiet (fail)
      go_wp2
      go_roundw
      case rel => exact ⟨k + 1, by omega, by go_num, HFW.out.drewN _⟩
      case measure => simp [intOf]; omega

/-- Parent, of any number. -/
theorem rparent_any (a : Option Addr) (cap : Nat) (b : Nat) (i : Int) (w : World) (h : Bds w a 19 cap six b) :
    Calls Try.prog 14 #[.slice a 19 cap, .int .i64 i] w fun e w' => e = .returned (.int .i64 (parentZ i)) ∧ Fr (fun _ => False) w w' := by
  by_cases h0 : i < 0 ∨ 19 ≤ i
  · rw [show parentZ i = -1 from if_pos (by omega)]
    exact rparent_none a cap b i w h h0
  · obtain ⟨n, rfl⟩ : ∃ n : Nat, i = (n : Int) := ⟨i.toNat, by omega⟩
    by_cases h1 : n < 4
    · rw [show parentZ (n : Int) = -1 from if_pos (by omega)]
      exact rparent_low a cap b n w h h1
    · rw [show parentZ (n : Int) = ((n - 3 : Nat) : Int) by unfold parentZ; rw [if_neg (by omega)]; omega]
      exact rparent_go a cap b n w h (by omega) (by omega)
end Go.Proofs.Ytgmainbgliejhaa
