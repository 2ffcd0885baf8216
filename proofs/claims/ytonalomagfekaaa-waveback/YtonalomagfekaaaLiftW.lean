/-
  Package lift: a line parted, and woven (Part, Weave).
-/
import Derived.Test.YtonalomagfekaaaLiftF
namespace Go.Proofs.Ytonalomagfekaaa
open Go.RowKit

set_option maxHeartbeats 1000000 in
theorem lpart_go (w : World) (a : Option Addr) (n cap : Nat) (V : Nat → Int) (b : Nat) (h : Nums w a n cap V b) (hl : lineB n = true) (hn : n ≤ 1048576) :
    Calls Try.prog 42 #[.slice a n cap] w fun e w' => ∃ g g', e = .returned (.tuple #[.slice (some ⟨g, 0, none⟩) (n / 2) (n / 2), .slice (some ⟨g', 0, none⟩) (n / 2) (n / 2)]) ∧ Row w' g (n / 2) (fun j => V (2 * j)) ∧ Row w' g' (n / 2) (fun j => V (2 * j + 1)) ∧ w.heap.size ≤ g ∧ w.heap.size ≤ g' ∧ g ≠ g' ∧ Fr (fun _ => False) w w' := by
  have h2 : 2 ≤ n := by have := lineB_iff.1 hl; omega
  have he : n % 2 = 0 := (lineB_iff.1 hl).2
  obtain ⟨m, hm⟩ : ∃ m, m = n / 2 := ⟨_, rfl⟩
  have hnm : n = 2 * m := by omega
  rw [← hm]
  clear hm
  have hm2 : m ≤ 1048576 := by omega
  have hq : (n : Int).tdiv 2 = (m : Int) := by rw [Int.tdiv_eq_ediv_of_nonneg (by omega)]; omega
  have hq2 : (n : Int) / 2 = (m : Int) := by omega
  have hmk : ∀ w : World, (Instr.makeSlice 23 (.int .i64 (m : Int)) (.int .i64 (m : Int))).run Try.prog w = .ok (.slice (some ⟨w.heap.size, 0, none⟩) m m) (w.alloc (.cells (madeCells #[.int .i64 0] m) 3)) := run_make_row' (P := Try.prog) 23 3 (.int .i64 0) 8 Try.underlying23 Try.info_int rfl .i64 .i64 m (by omega) (by omega)
  obtain ⟨off, rfl, hc⟩ := h.at' (by omega)
  obtain ⟨W, hW⟩ : ∃ W, W = (w.alloc (.cells (madeCells #[.int .i64 0] m) 3)).alloc (.cells (madeCells #[.int .i64 0] m) 3) := ⟨_, rfl⟩
  have F0 : Fr (fun _ => False) w W := by rw [hW]; exact ((Fr.refl _ w).alloc _).alloc _
  have R0 : Row W w.heap.size m (fun _ => 0) := by rw [hW]; exact (Row.made w m).quiet ((Fr.refl _ _).alloc _)
  have R1 : Row W (w.heap.size + 1) m (fun _ => 0) := by
    rw [hW]
    have := Row.made (w.alloc (.cells (madeCells #[.int .i64 0] m) 3)) m
    simpa using this
  have HW := hid hW
  have HC : Hid (∀ j, j < n → W.cell? ⟨b, off + j, none⟩ = some (.int .i64 (V j))) := fun j hj => (F0.cell (p := ⟨b, off + j, none⟩) (cell_lt (hc j hj)) (fun h => h)).trans (hc j hj)
  have hbl : b < w.heap.size := h.lt (by omega)
  have HN := hid hnm
  clear hW hc h hnm
  go_enter Try.func42, Try.ntmps42
  go_wp2_with fail
  refine (lline_any _ n cap (by omega) _).mono ?_
  rintro e w0 ⟨rfl, rfl⟩
  rw [hl]
  go_wp2
  rw [← HW.out]
  go_loopw [20] (fun i wr => ∃ k : Nat, k ≤ m ∧ i = .int .i64 (k : Int) ∧ Row wr w0.heap.size m (fun j => if j < k then V (2 * j) else 0) ∧ Row wr (w0.heap.size + 1) m (fun j => if j < k then V (2 * j + 1) else 0) ∧ Fr (fun j => j = w0.heap.size ∨ j = w0.heap.size + 1) W wr) (fun i _ => m - (intOf i).toNat)
  case atStart => exact ⟨0, Nat.zero_le _, rfl, R0.congr (fun j _ => by simp), R1.congr (fun j _ => by simp), Fr.refl _ _⟩
  case round =>
    obtain ⟨k, hk, rfl, hr, hr', F⟩ := hrel
    by_cases hlt : k < m
    · have hki : (k : Int) < (m : Int) := by omega
      obtain ⟨s, hs⟩ : ∃ s, s = 2 * k := ⟨_, rfl⟩
      have hk2 : s + 1 < n := by have := HN.out; omega
      have hi0 : (2 : Int) * (k : Int) = (s : Int) := by omega
      have e0 := HC.out s (by omega)
      have e1 := HC.out (s + 1) hk2
      have c0 := (F.cell (p := ⟨b, off + s, none⟩) (cell_lt e0) (by show ¬ (b = _ ∨ b = _); omega)).trans e0
      have c1 := (F.cell (p := ⟨b, off + (s + 1), none⟩) (cell_lt e1) (by show ¬ (b = _ ∨ b = _); omega)).trans e1
      have ck := hr.cell hlt
      have cf := hr.thaw k
      have ck' := hr'.cell hlt
      have cf' := hr'.thaw k
      rw [if_neg (Nat.lt_irrefl k)] at ck ck'
      have HR := hid hr
      have HR' := hid hr'
      clear hr hr' e0 e1
      have hsi : (s : Int) < (n : Int) := by omega
      have hsi1 : (s : Int) + 1 < (n : Int) := by omega
      generalize hv0 : V s = v0 at c0
      generalize hv1 : V (s + 1) = v1 at c1
      have HV0 := hid hv0
      have HV1 := hid hv1
      have HSS := hid hs
      clear hv0 hv1 hs
      go_wp2
      go_region
      go_wp2
      go_roundw
      case rel =>
        refine ⟨k + 1, by omega, by go_num, ?_, ?_, ((F.setCell (p := ⟨w0.heap.size, k, none⟩) (fun _ => .inl rfl) _).setCell (p := ⟨w0.heap.size + 1, k, none⟩) (fun _ => .inr rfl) _).drew⟩
        · refine (((HR.out.set k v0).congr fun j hj => ?_).fr ((Fr.refl (fun j => j = w0.heap.size + 1) _).setCell (p := ⟨w0.heap.size + 1, k, none⟩) (fun _ => rfl) _) (by omega)).fr (Fr.refl (fun _ => False) _).drew (fun h => h)
          by_cases ejk : j = k
          · subst ejk; rw [if_pos rfl, if_pos (by omega), ← HV0.out, HSS.out]
          · rw [if_neg ejk]
            by_cases hjk : j < k
            · rw [if_pos hjk, if_pos (by omega)]
            · rw [if_neg hjk, if_neg (by omega)]
        · refine (((HR'.out.fr ((Fr.refl (fun j => j = w0.heap.size) _).setCell (p := ⟨w0.heap.size, k, none⟩) (fun _ => rfl) _) (by omega)).set k v1).congr fun j hj => ?_).fr (Fr.refl (fun _ => False) _).drew (fun h => h)
          by_cases ejk : j = k
          · subst ejk; rw [if_pos rfl, if_pos (by omega), ← HV1.out, HSS.out]
          · rw [if_neg ejk]
            by_cases hjk : j < k
            · rw [if_pos hjk, if_pos (by omega)]
            · rw [if_neg hjk, if_neg (by omega)]
      case measure => simp [intOf]; omega
    · have hki : ¬ (k : Int) < (m : Int) := by omega
      have HR := hid (hr.congr (V' := fun j => V (2 * j)) fun j hj => if_pos (by omega))
      have HR' := hid (hr'.congr (V' := fun j => V (2 * j + 1)) fun j hj => if_pos (by omega))
      have HF := hid (F0.trans F (fun j hj e => by omega))
      clear hr hr' F
      go_wp2
      go_ret2
      exact ⟨_, _, rfl, HR.out, HR'.out, by omega, by omega, by omega, HF.out⟩

theorem lpart_bad (w : World) (a : Option Addr) (n cap : Nat) (hl : lineB n = false) (hn : (n : Int) ≤ 9223372036854775807) :
    Calls Try.prog 42 #[.slice a n cap] w fun e w' => e = .returned (.tuple #[.slice none 0 0, .slice none 0 0]) ∧ w' = w := by
  go_enter Try.func42, Try.ntmps42
  go_wp2_with fail
  refine (lline_any _ n cap hn _).mono ?_
  rintro e w0 ⟨rfl, rfl⟩
  rw [hl]
  go_wp2
  go_ret2
  exact ⟨rfl, rfl⟩

/-- The line of two lists. -/
def weaveV (A B : Nat → Int) : Nat → Int := fun j => if j % 2 = 0 then A (j / 2) else B (j / 2)
theorem weaveV_even (A B : Nat → Int) (j : Nat) : weaveV A B (2 * j) = A j := by unfold weaveV; rw [if_pos (by omega)]; congr 1; omega
theorem weaveV_odd (A B : Nat → Int) (j : Nat) : weaveV A B (2 * j + 1) = B j := by unfold weaveV; rw [if_neg (by omega)]; congr 1; omega

set_option maxHeartbeats 1000000 in
theorem lweave_go (w : World) (a : Option Addr) (n cap : Nat) (A : Nat → Int) (b : Nat) (a' : Option Addr) (cap' : Nat) (B : Nat → Int) (b' : Nat) (h : Nums w a n cap A b) (h' : Nums w a' n cap' B b') (h0 : 0 < n) (hn : n ≤ 1048576) :
    Calls Try.prog 51 #[.slice a n cap, .slice a' n cap'] w fun e w' => ∃ g, e = .returned (.slice (some ⟨g, 0, none⟩) (2 * n) (2 * n)) ∧ Row w' g (2 * n) (weaveV A B) ∧ w.heap.size ≤ g ∧ Fr (fun _ => False) w w' := by
  obtain ⟨m, hm⟩ : ∃ m, m = 2 * n := ⟨_, rfl⟩
  rw [← hm]
  have hm2 : m ≤ 2097152 := by omega
  have hq : (2 : Int) * (n : Int) = (m : Int) := by omega
  have hn0 : ((n : Int) == 0) = false := by simp; omega
  have HM := hid hm
  clear hm
  have hmk : ∀ w : World, (Instr.makeSlice 23 (.int .i64 (m : Int)) (.int .i64 (m : Int))).run Try.prog w = .ok (.slice (some ⟨w.heap.size, 0, none⟩) m m) (w.alloc (.cells (madeCells #[.int .i64 0] m) 3)) := run_make_row' (P := Try.prog) 23 3 (.int .i64 0) 8 Try.underlying23 Try.info_int rfl .i64 .i64 m (by omega) (by omega)
  have hbl : b < w.heap.size := h.lt h0
  have hbl' : b' < w.heap.size := h'.lt h0
  obtain ⟨off, rfl, hc⟩ := h.at' h0
  obtain ⟨off', rfl, hc'⟩ := h'.at' h0
  obtain ⟨W, hW⟩ : ∃ W, W = w.alloc (.cells (madeCells #[.int .i64 0] m) 3) := ⟨_, rfl⟩
  have F0 : Fr (fun _ => False) w W := by rw [hW]; exact (Fr.refl _ w).alloc _
  have R0 : Row W w.heap.size m (fun _ => 0) := by rw [hW]; exact Row.made w m
  have HW := hid hW
  have HC : Hid (∀ j, j < n → W.cell? ⟨b, off + j, none⟩ = some (.int .i64 (A j))) := fun j hj => (F0.cell (p := ⟨b, off + j, none⟩) (cell_lt (hc j hj)) (fun h => h)).trans (hc j hj)
  have HC' : Hid (∀ j, j < n → W.cell? ⟨b', off' + j, none⟩ = some (.int .i64 (B j))) := fun j hj => (F0.cell (p := ⟨b', off' + j, none⟩) (cell_lt (hc' j hj)) (fun h => h)).trans (hc' j hj)
  clear hW hc hc' h h'
  go_enter Try.func51, Try.ntmps51
  go_wp2
  rw [← HW.out]
  go_loopw [23] (fun i wr => ∃ k : Nat, k ≤ n ∧ i = .int .i64 (k : Int) ∧ Row wr w.heap.size m (fun j => if j < 2 * k then weaveV A B j else 0) ∧ Fr (fun j => j = w.heap.size) W wr) (fun i _ => n - (intOf i).toNat)
  case atStart => exact ⟨0, Nat.zero_le _, rfl, R0.congr (fun j _ => by simp), Fr.refl _ _⟩
  case round =>
    obtain ⟨k, hk, rfl, hr, F⟩ := hrel
    by_cases hlt : k < n
    · have hki : (k : Int) < (n : Int) := by omega
      obtain ⟨s, hs⟩ : ∃ s, s = 2 * k := ⟨_, rfl⟩
      have hk2 : s + 1 < m := by have := HM.out; omega
      have hi0 : (2 : Int) * (k : Int) = (s : Int) := by omega
      have e0 := HC.out k hlt
      have e1 := HC'.out k hlt
      have c0 := (F.cell (p := ⟨b, off + k, none⟩) (cell_lt e0) (by show ¬ b = _; omega)).trans e0
      have c1 := (F.cell (p := ⟨b', off' + k, none⟩) (cell_lt e1) (by show ¬ b' = _; omega)).trans e1
      have ck := hr.cell (show s < m by omega)
      have cf := hr.thaw s
      have ck' := hr.cell hk2
      have cf' := hr.thaw (s + 1)
      rw [if_neg (by omega)] at ck ck'
      have HR := hid hr
      clear hr e0 e1
      have hsi : (s : Int) < (m : Int) := by omega
      have hsi1 : (s : Int) + 1 < (m : Int) := by omega
      generalize hv0 : A k = v0 at c0
      generalize hv1 : B k = v1 at c1
      have HV0 := hid hv0
      have HV1 := hid hv1
      have HSS := hid hs
      clear hv0 hv1 hs
      go_wp2
      go_region
      go_wp2
      go_roundw
      case rel =>
        refine ⟨k + 1, by omega, by go_num, ?_, ((F.setCell (p := ⟨w.heap.size, s, none⟩) (fun _ => rfl) _).setCell (p := ⟨w.heap.size, s + 1, none⟩) (fun _ => rfl) _).drew⟩
        refine (((HR.out.set s v0).set (s + 1) v1).congr fun j hj => ?_).fr (Fr.refl (fun _ => False) _).drew (fun h => h)
        have hss := HSS.out
        by_cases e1 : j = s + 1
        · rw [if_pos e1, if_pos (by omega), e1, hss, weaveV_odd, HV1.out]
        · rw [if_neg e1]
          by_cases e0 : j = s
          · rw [if_pos e0, if_pos (by omega), e0, hss, weaveV_even, HV0.out]
          · rw [if_neg e0]
            by_cases hjk : j < 2 * k
            · rw [if_pos hjk, if_pos (by omega)]
            · rw [if_neg hjk, if_neg (by omega)]
      case measure => simp [intOf]; omega
    · have hki : ¬ (k : Int) < (n : Int) := by omega
      have HR := hid (hr.congr (V' := weaveV A B) fun j hj => if_pos (by have := HM.out; omega))
      have HF := hid (F0.trans F (fun j hj e => by omega))
      clear hr F
      go_wp2
      go_ret
      exact ⟨_, rfl, HR.out, by omega, HF.out⟩

theorem lweave_bad (w : World) (a : Option Addr) (n cap : Nat) (a' : Option Addr) (n' cap' : Nat) (hb : n ≠ n' ∨ n = 0) :
    Calls Try.prog 51 #[.slice a n cap, .slice a' n' cap'] w fun e w' => e = .returned (.slice none 0 0) ∧ w' = w := by
  by_cases e : n = n'
  · obtain rfl : n = 0 := by omega
    subst e
    go_enter Try.func51, Try.ntmps51
    go_wp2
    go_ret
    exact ⟨rfl, rfl⟩
  · have hne : ((n : Int) == (n' : Int)) = false := by simp; omega
    have hne' : ((n : Int) != (n' : Int)) = true := by simp; omega
    clear e hb
    go_enter Try.func51, Try.ntmps51
    go_wp2
    go_ret
    exact ⟨rfl, rfl⟩

/-- How many a line of two lists has. -/
def weaveN (n n' : Nat) : Nat := if n = n' then 2 * n else 0
theorem lweave_any (w : World) (a : Option Addr) (n cap : Nat) (A : Nat → Int) (b : Nat) (a' : Option Addr) (n' cap' : Nat) (B : Nat → Int) (b' : Nat) (h : Nums w a n cap A b) (h' : Nums w a' n' cap' B b') (hn : n ≤ 1048576) :
    Calls Try.prog 51 #[.slice a n cap, .slice a' n' cap'] w fun e w' => MadeL w w' e (weaveN n n') (weaveV A B) := by
  by_cases hb : n ≠ n' ∨ n = 0
  · have e0 : weaveN n n' = 0 := by unfold weaveN; split <;> omega
    rw [e0]
    refine (lweave_bad w a n cap a' n' cap' hb).mono ?_
    rintro e w' ⟨rfl, rfl⟩
    exact MadeL.nil (Fr.refl _ _) _
  · obtain rfl : n = n' := by omega
    have e0 : weaveN n n = 2 * n := if_pos rfl
    rw [e0]
    refine (lweave_go w a n cap A b a' cap' B b' h h' (by omega) hn).mono ?_
    rintro e w' ⟨g, rfl, hr, hg, fr⟩
    exact MadeL.row hr (by unfold maxLen; omega) hg fr

end Go.Proofs.Ytonalomagfekaaa
