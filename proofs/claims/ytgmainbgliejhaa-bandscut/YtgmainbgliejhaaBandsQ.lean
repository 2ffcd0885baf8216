/-
  Package bands: where a band lies.
-/
import Derived.BigQuiet
import Derived.Test.YtgmainbgliejhaaBandsP
namespace Go.Proofs.Ytgmainbgliejhaa
open Go.RowKit

theorem Try.size_band : (Try.prog.info? 31).map (fun i => i.size) = some 6 := by kernel_rfl

/-- A struct of six cells, stored. -/
def stored6 (w : World) (r : Nat) (x0 x1 x2 x3 x4 x5 : Value) : World := (((((w.setCell ⟨r, 0, none⟩ x0).setCell ⟨r, 1, none⟩ x1).setCell ⟨r, 2, none⟩ x2).setCell ⟨r, 3, none⟩ x3).setCell ⟨r, 4, none⟩ x4).setCell ⟨r, 5, none⟩ x5
theorem Blk.put6 {w : World} {r : Nat} {a0 a1 a2 a3 a4 a5 : Value} {t : TypeId} (h : Blk w r #[a0, a1, a2, a3, a4, a5] t) (x0 x1 x2 x3 x4 x5 : Value) : Blk (stored6 w r x0 x1 x2 x3 x4 x5) r #[x0, x1, x2, x3, x4, x5] t := by
  unfold stored6
  simpa using (((((h.set 0 x0).set 1 x1).set 2 x2).set 3 x3).set 4 x4).set 5 x5
theorem Fr.put6 {S : Nat → Prop} {a w : World} (h : Fr S a w) {r : Nat} (hr : r < a.heap.size → S r) (x0 x1 x2 x3 x4 x5 : Value) : Fr S a (stored6 w r x0 x1 x2 x3 x4 x5) :=
  (((((h.setCell (p := ⟨r, 0, none⟩) hr _).setCell (p := ⟨r, 1, none⟩) hr _).setCell (p := ⟨r, 2, none⟩) hr _).setCell (p := ⟨r, 3, none⟩) hr _).setCell (p := ⟨r, 4, none⟩) hr _).setCell (p := ⟨r, 5, none⟩) hr _
theorem Fr.put6New {a w : World} (h : Fr (fun _ => False) a w) {r : Nat} (hr : a.heap.size ≤ r) (x0 x1 x2 x3 x4 x5 : Value) : Fr (fun _ => False) a (stored6 w r x0 x1 x2 x3 x4 x5) := h.put6 (fun hl => absurd (show r < a.heap.size from hl) (by omega)) x0 x1 x2 x3 x4 x5

set_option maxHeartbeats 1000000 in
theorem blies_go (d x y l o : Nat) (w : World) (hx : x ≤ 1024) (hy : y ≤ 1024) (hd : d ≤ 6) (ho : o ≤ 3) (t : Nat) (ht : t + max l 1 = d + 1) (U V : Nat) (hU : x / 2 ^ t = U) (hV : y / 2 ^ t = V) :
    Calls Try.prog 27 #[.int .i64 (x : Int), .int .i64 (y : Int), .int .i64 (d : Int), .int .i64 (l : Int), .int .i64 (o : Int)] w fun e w' => e = .returned (.agg #[.int .i64 (l : Int), .int .i64 (o : Int), .int .i64 ((U * (o % 2) : Nat) : Int), .int .i64 ((V * (o / 2) : Nat) : Int), .int .i64 (U : Int), .int .i64 (V : Int)]) ∧ Fr (fun _ => False) w w' := by
  have hU' : U ≤ 1024 := by rw [← hU]; exact Nat.le_trans (Nat.div_le_self _ _) hx
  have hV' : V ≤ 1024 := by rw [← hV]; exact Nat.le_trans (Nat.div_le_self _ _) hy
  have e1 : (x : Int) / 2 ^ t = (U : Int) := by rw [← hU]; simp
  have e2 : (y : Int) / 2 ^ t = (V : Int) := by rw [← hV]; simp
  obtain ⟨m, hm⟩ : ∃ m, max l 1 = m := ⟨_, rfl⟩
  have hmI : max (l : Int) 1 = (m : Int) := by omega
  rw [hm] at ht
  have htd : (d : Int) - (m : Int) + 1 = (t : Int) := by omega
  have hmd : m ≤ d + 1 := by omega
  obtain ⟨W, hW⟩ : ∃ W, W = w.alloc (.cells #[.int .i64 0, .int .i64 0, .int .i64 0, .int .i64 0, .int .i64 0, .int .i64 0] 31) := ⟨_, rfl⟩
  have F0 : Fr (fun _ => False) w W := by rw [hW]; exact (Fr.refl _ w).alloc _
  have O0 : Blk W w.heap.size #[.int .i64 0, .int .i64 0, .int .i64 0, .int .i64 0, .int .i64 0, .int .i64 0] 31 := by rw [hW]; exact Blk.new _ _ _
  have HW := hid hW
  clear hU hV hm hW
  obtain ⟨p, hp⟩ : ∃ p, U * (o % 2) = p := ⟨_, rfl⟩
  obtain ⟨q, hq⟩ : ∃ q, V * (o / 2) = q := ⟨_, rfl⟩
  have b1 : Go.bits .and .i64 (o : Int) 1 = ((o % 2 : Nat) : Int) := by
    have : o = 0 ∨ o = 1 ∨ o = 2 ∨ o = 3 := by omega
    rcases this with rfl | rfl | rfl | rfl <;> decide
  have b2 : (o : Int) / 2 = ((o / 2 : Nat) : Int) := by omega
  have b3 : (U : Int) * ((o % 2 : Nat) : Int) = (p : Int) := by rw [← hp, Int.natCast_mul]
  have b4 : (V : Int) * ((o / 2 : Nat) : Int) = (q : Int) := by rw [← hq, Int.natCast_mul]
  have hp' : p ≤ 1024 := by
    rw [← hp]
    exact Nat.le_trans (Nat.mul_le_mul hU' (show o % 2 ≤ 1 by omega)) (by omega)
  have hq' : q ≤ 1024 := by
    rw [← hq]
    exact Nat.le_trans (Nat.mul_le_mul hV' (show o / 2 ≤ 1 by omega)) (by omega)
  rw [hp, hq]
  obtain ⟨o1, ho1⟩ : ∃ o1, o % 2 = o1 := ⟨_, rfl⟩
  obtain ⟨o2, ho2⟩ : ∃ o2, o / 2 = o2 := ⟨_, rfl⟩
  rw [ho1] at b1 b3
  rw [ho2] at b2 b4
  have l1 : o1 ≤ 1 := by omega
  have l2 : o2 ≤ 1 := by omega
  clear hp hq ho1 ho2
  go_enter Try.func27, Try.ntmps27
  go_wp2
  rw [← HW.out]
  go_quiet (fail)
  obtain ⟨W2, hW2⟩ : ∃ W2, W2 = W.drewN nq := ⟨_, rfl⟩
  have F2 : Fr (fun _ => False) w W2 := by rw [hW2]; exact F0.drewN _
  have O2 : Blk W2 w.heap.size #[.int .i64 0, .int .i64 0, .int .i64 0, .int .i64 0, .int .i64 0, .int .i64 0] 31 := by rw [hW2]; exact O0.drewN _
  rw [← hW2]
  have z0 : W2.cell? ⟨w.heap.size, 0, none⟩ = some (.int .i64 0) := by rw [O2.cell]; rfl
  have z1 : W2.cell? ⟨w.heap.size, 1, none⟩ = some (.int .i64 0) := by rw [O2.cell]; rfl
  have z2 : W2.cell? ⟨w.heap.size, 2, none⟩ = some (.int .i64 0) := by rw [O2.cell]; rfl
  have z3 : W2.cell? ⟨w.heap.size, 3, none⟩ = some (.int .i64 0) := by rw [O2.cell]; rfl
  have z4 : W2.cell? ⟨w.heap.size, 4, none⟩ = some (.int .i64 0) := by rw [O2.cell]; rfl
  have z5 : W2.cell? ⟨w.heap.size, 5, none⟩ = some (.int .i64 0) := by rw [O2.cell]; rfl
  have zf := O2.thaw
  have HO2 := hid O2
  have HF2 := hid F2
  clear hW2 F2 O2 F0 O0 HW
  go_wp2
  refine bodyPost_ret (v := .agg #[.int .i64 (l : Int), .int .i64 (o : Int), .int .i64 (p : Int), .int .i64 (q : Int), .int .i64 (U : Int), .int .i64 (V : Int)]) ?_ rfl ⟨rfl, ?_⟩
  · exact results_cell_row rfl _ _ w.heap.size 31 _ (0, 0) _ rfl (show Blk _ _ _ _ from HO2.out.put6 _ _ _ _ _ _) Try.underlying31 rfl Try.size_band
  · exact HF2.out.put6New (Nat.le_refl _) _ _ _ _ _ _
end Go.Proofs.Ytgmainbgliejhaa
