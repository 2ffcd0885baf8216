/-
  Law 10, BandsLie: the closure that is told bands, and All that tells them.
-/
import Derived.BigQuiet
import Derived.Test.YtgmainbgliejhaaBandsR
import Derived.Test.YtgmainbgliejhaaBandsS
import Derived.Test.YtgmainbgliejhaaWeave
namespace Go.Proofs.Ytgmainbgliejhaa
open Go.RowKit

set_option maxRecDepth 100000 in
set_option maxHeartbeats 2000000 in
/-- The closure that is told bands: band N of a list. -/
theorem lie1_go (N m : Nat) (a : Option Addr) (cap : Nat) (L : Nat → BandN) (b : Nat) (stop : Int) (bo bn bl bs : Nat) (w : World) (hN : N < m) (hm : m ≤ 19)
    (h : Bds w a m cap L b) (hBo : Blk w bo #[.bool true] 4) (hBn : Blk w bn #[.int .i64 (N : Int)] 3) (hBl : Blk w bl #[.slice a m cap] 24) (hBs : Blk w bs #[.int .i64 stop] 3)
    (h1 : bo ≠ bn) (h2 : bo ≠ bl) (h3 : bo ≠ bs) (h4 : bn ≠ bl) (h5 : bn ≠ bs) :
    Calls Try.prog 12 #[.int .i64 (N : Int), bandV (L N), .pointer (some ⟨bo, 0, none⟩), .pointer (some ⟨bn, 0, none⟩), .pointer (some ⟨bl, 0, none⟩), .pointer (some ⟨bs, 0, none⟩)] w fun e w' =>
      e = .returned (.bool (!decide (((N + 1 : Nat) : Int) = stop))) ∧ Blk w' bo #[.bool true] 4 ∧ Blk w' bn #[.int .i64 ((N + 1 : Nat) : Int)] 3 ∧ Fr (fun j => j = bo ∨ j = bn) w w' := by
  obtain rfl := h.addr (by omega)
  have hcl := h.cells hN
  unfold bandV
  generalize L N = B at hcl
  obtain ⟨lv, o, bx, by', bw, bh⟩ := B
  dsimp only at hcl ⊢
  obtain ⟨W, hW⟩ : ∃ W, W = w.alloc (.cells #[.int .i64 (lv : Int), .int .i64 (o : Int), .int .i64 (bx : Int), .int .i64 (by' : Int), .int .i64 (bw : Int), .int .i64 (bh : Int)] 31) := ⟨_, rfl⟩
  have F0 : Fr (fun _ => False) w W := by rw [hW]; exact (Fr.refl _ w).alloc _
  have O0 : Blk W w.heap.size #[.int .i64 (lv : Int), .int .i64 (o : Int), .int .i64 (bx : Int), .int .i64 (by' : Int), .int .i64 (bw : Int), .int .i64 (bh : Int)] 31 := by rw [hW]; exact Blk.new _ _ _
  have Bo := hBo.fr F0 (fun h => h)
  have Bn := hBn.fr F0 (fun h => h)
  have Bl := hBl.fr F0 (fun h => h)
  have Bs := hBs.fr F0 (fun h => h)
  have HQ : Hid (∀ wq, Fr (fun _ => False) W.drew wq → (wq.cell? ⟨bo, 0, none⟩ = some (.bool true) ∧ wq.cell? ⟨bn, 0, none⟩ = some (.int .i64 (N : Int)) ∧ wq.cell? ⟨bl, 0, none⟩ = some (.slice (some ⟨b, 0, none⟩) m cap)) ∧ (wq.cell? ⟨w.heap.size, 0, none⟩ = some (.int .i64 (lv : Int)) ∧ wq.cell? ⟨w.heap.size, 1, none⟩ = some (.int .i64 (o : Int)) ∧ wq.cell? ⟨w.heap.size, 2, none⟩ = some (.int .i64 (bx : Int)) ∧ wq.cell? ⟨w.heap.size, 3, none⟩ = some (.int .i64 (by' : Int)) ∧ wq.cell? ⟨w.heap.size, 4, none⟩ = some (.int .i64 (bw : Int)) ∧ wq.cell? ⟨w.heap.size, 5, none⟩ = some (.int .i64 (bh : Int))) ∧ (wq.cell? ⟨b, N * 6, none⟩ = some (.int .i64 (lv : Int)) ∧ wq.cell? ⟨b, N * 6 + 1, none⟩ = some (.int .i64 (o : Int)) ∧ wq.cell? ⟨b, N * 6 + 2, none⟩ = some (.int .i64 (bx : Int)) ∧ wq.cell? ⟨b, N * 6 + 3, none⟩ = some (.int .i64 (by' : Int)) ∧ wq.cell? ⟨b, N * 6 + 4, none⟩ = some (.int .i64 (bw : Int)) ∧ wq.cell? ⟨b, N * 6 + 5, none⟩ = some (.int .i64 (bh : Int)))) := by
    intro wq f
    have f' := (Fr.refl _ W).drew.trans' f
    have f2 := F0.trans' f'
    have P0 := O0.fr f' (fun h => h)
    have up : ∀ {k : Nat} {v : Value}, w.cell? ⟨b, k, none⟩ = some v → wq.cell? ⟨b, k, none⟩ = some v := fun {k v} h => (f2.cell (p := ⟨b, k, none⟩) (cell_lt h) (fun h => h)).trans h
    obtain ⟨p0, p1, p2, p3, p4, p5⟩ := hcl
    exact ⟨⟨by rw [(Bo.fr f' (fun h => h)).cell]; rfl, by rw [(Bn.fr f' (fun h => h)).cell]; rfl, by rw [(Bl.fr f' (fun h => h)).cell]; rfl⟩, ⟨by rw [P0.cell]; rfl, by rw [P0.cell]; rfl, by rw [P0.cell]; rfl, by rw [P0.cell]; rfl, by rw [P0.cell]; rfl, by rw [P0.cell]; rfl⟩, ⟨up p0, up p1, up p2, up p3, up p4, up p5⟩⟩
  have HBo := hid Bo
  have HBn := hid Bn
  have HBs := hid Bs
  have HF0 := hid F0
  have HW := hid hW
  have hNI : (N : Int) < (m : Int) := by omega
  clear hW F0 O0 Bo Bn Bl Bs hcl h hBo hBn hBl hBs
  go_enter Try.func12, Try.ntmps12
  go_wp2
  rw [← HW.out]
  refine weaveS 20 [.eq (Value.bool true), .eq (Value.bool true), .eq (Value.int .i64 (N : Int)), .eq (Value.int .i64 (N : Int)), .eq (Value.bool true), .eq (Value.bool true), .eq (Value.bool true), .eq (Value.int .i64 (N : Int)), .eq (Value.slice (some ⟨b, 0, none⟩) m cap), .eq (Value.int .i64 (m : Int)), .eq (Value.bool true), .eq (Value.bool true), .eq (Value.bool true), .eq (Value.agg #[.int .i64 (lv : Int), .int .i64 (o : Int), .int .i64 (bx : Int), .int .i64 (by' : Int), .int .i64 (bw : Int), .int .i64 (bh : Int)]), .eq (Value.slice (some ⟨b, 0, none⟩) m cap), .eq (Value.int .i64 (N : Int)), .eq (Value.pointer (some ⟨b, N * 6, none⟩)), .eq (Value.agg #[.int .i64 (lv : Int), .int .i64 (o : Int), .int .i64 (bx : Int), .int .i64 (by' : Int), .int .i64 (bw : Int), .int .i64 (bh : Int)]), .eq (Value.bool true), .eq (Value.bool true)] (by kernel_rfl) (by kernel_rfl) ?obls ?tail
  case obls =>
    simp only [List.take_succ_cons, List.take_zero]
    refine ⟨?_, ?_, ?_, ?_, ?_, ?_, ?_, ?_, ?_, ?_, ?_, ?_, ?_, ?_, ?_, ?_, ?_, ?_, ?_, ?_, trivial⟩
    · intro vals wq f h
      simp only [fillA, fillT, List.setIfInBounds_toArray, List.set_cons_succ, List.set_cons_zero, Option.getD_some, Nat.zero_add, Nat.reduceAdd]
      obtain ⟨⟨c0, c1, c2⟩, ⟨x0, x1, x2, x3, x4, x5⟩, ⟨y0, y1, y2, y3, y4, y5⟩⟩ := HQ.out wq f
      clear h
      go_wp2
      exact ⟨rfl, rfl, _, rfl, Fr.refl _ _, rfl⟩
    · intro vals wq f h
      simp only [fillA, fillT, List.setIfInBounds_toArray, List.set_cons_succ, List.set_cons_zero, Option.getD_some, Nat.zero_add, Nat.reduceAdd]
      have h0 : vals 0 = Value.bool true := h 0 (by kernel_rfl)
      rw [h0]
      obtain ⟨⟨c0, c1, c2⟩, ⟨x0, x1, x2, x3, x4, x5⟩, ⟨y0, y1, y2, y3, y4, y5⟩⟩ := HQ.out wq f
      clear h
      go_wp2
      exact ⟨rfl, rfl, _, rfl, Fr.refl _ _, rfl⟩
    · intro vals wq f h
      simp only [fillA, fillT, List.setIfInBounds_toArray, List.set_cons_succ, List.set_cons_zero, Option.getD_some, Nat.zero_add, Nat.reduceAdd]
      have h1 : vals 1 = Value.bool true := h 1 (by kernel_rfl)
      rw [h1]
      obtain ⟨⟨c0, c1, c2⟩, ⟨x0, x1, x2, x3, x4, x5⟩, ⟨y0, y1, y2, y3, y4, y5⟩⟩ := HQ.out wq f
      clear h
      go_wp2
      exact ⟨rfl, rfl, _, rfl, Fr.refl _ _, rfl⟩
    · intro vals wq f h
      simp only [fillA, fillT, List.setIfInBounds_toArray, List.set_cons_succ, List.set_cons_zero, Option.getD_some, Nat.zero_add, Nat.reduceAdd]
      have h1 : vals 1 = Value.bool true := h 1 (by kernel_rfl)
      rw [h1]
      obtain ⟨⟨c0, c1, c2⟩, ⟨x0, x1, x2, x3, x4, x5⟩, ⟨y0, y1, y2, y3, y4, y5⟩⟩ := HQ.out wq f
      clear h
      go_wp2
      exact ⟨rfl, rfl, _, rfl, Fr.refl _ _, rfl⟩
    · intro vals wq f h
      simp only [fillA, fillT, List.setIfInBounds_toArray, List.set_cons_succ, List.set_cons_zero, Option.getD_some, Nat.zero_add, Nat.reduceAdd]
      have h2 : vals 2 = Value.int .i64 (N : Int) := h 2 (by kernel_rfl)
      rw [h2]
      have h3 : vals 3 = Value.int .i64 (N : Int) := h 3 (by kernel_rfl)
      rw [h3]
      have h1 : vals 1 = Value.bool true := h 1 (by kernel_rfl)
      rw [h1]
      obtain ⟨⟨c0, c1, c2⟩, ⟨x0, x1, x2, x3, x4, x5⟩, ⟨y0, y1, y2, y3, y4, y5⟩⟩ := HQ.out wq f
      clear h
      go_wp2
      exact ⟨rfl, rfl, _, rfl, Fr.refl _ _, rfl⟩
    · intro vals wq f h
      simp only [fillA, fillT, List.setIfInBounds_toArray, List.set_cons_succ, List.set_cons_zero, Option.getD_some, Nat.zero_add, Nat.reduceAdd]
      have h1 : vals 1 = Value.bool true := h 1 (by kernel_rfl)
      rw [h1]
      have h4 : vals 4 = Value.bool true := h 4 (by kernel_rfl)
      rw [h4]
      obtain ⟨⟨c0, c1, c2⟩, ⟨x0, x1, x2, x3, x4, x5⟩, ⟨y0, y1, y2, y3, y4, y5⟩⟩ := HQ.out wq f
      clear h
      go_wp2
      exact ⟨rfl, rfl, _, rfl, Fr.refl _ _, rfl⟩
    · intro vals wq f h
      simp only [fillA, fillT, List.setIfInBounds_toArray, List.set_cons_succ, List.set_cons_zero, Option.getD_some, Nat.zero_add, Nat.reduceAdd]
      have h5 : vals 5 = Value.bool true := h 5 (by kernel_rfl)
      rw [h5]
      obtain ⟨⟨c0, c1, c2⟩, ⟨x0, x1, x2, x3, x4, x5⟩, ⟨y0, y1, y2, y3, y4, y5⟩⟩ := HQ.out wq f
      clear h
      go_wp2
      exact ⟨rfl, rfl, _, rfl, Fr.refl _ _, rfl⟩
    · intro vals wq f h
      simp only [fillA, fillT, List.setIfInBounds_toArray, List.set_cons_succ, List.set_cons_zero, Option.getD_some, Nat.zero_add, Nat.reduceAdd]
      have h6 : vals 6 = Value.bool true := h 6 (by kernel_rfl)
      rw [h6]
      obtain ⟨⟨c0, c1, c2⟩, ⟨x0, x1, x2, x3, x4, x5⟩, ⟨y0, y1, y2, y3, y4, y5⟩⟩ := HQ.out wq f
      clear h
      go_wp2
      exact ⟨rfl, rfl, _, rfl, Fr.refl _ _, rfl⟩
    · intro vals wq f h
      simp only [fillA, fillT, List.setIfInBounds_toArray, List.set_cons_succ, List.set_cons_zero, Option.getD_some, Nat.zero_add, Nat.reduceAdd]
      have h6 : vals 6 = Value.bool true := h 6 (by kernel_rfl)
      rw [h6]
      obtain ⟨⟨c0, c1, c2⟩, ⟨x0, x1, x2, x3, x4, x5⟩, ⟨y0, y1, y2, y3, y4, y5⟩⟩ := HQ.out wq f
      clear h
      go_wp2
      exact ⟨rfl, rfl, _, rfl, Fr.refl _ _, rfl⟩
    · intro vals wq f h
      simp only [fillA, fillT, List.setIfInBounds_toArray, List.set_cons_succ, List.set_cons_zero, Option.getD_some, Nat.zero_add, Nat.reduceAdd]
      have h8 : vals 8 = Value.slice (some ⟨b, 0, none⟩) m cap := h 8 (by kernel_rfl)
      rw [h8]
      have h6 : vals 6 = Value.bool true := h 6 (by kernel_rfl)
      rw [h6]
      obtain ⟨⟨c0, c1, c2⟩, ⟨x0, x1, x2, x3, x4, x5⟩, ⟨y0, y1, y2, y3, y4, y5⟩⟩ := HQ.out wq f
      clear h
      go_wp2
      exact ⟨rfl, rfl, _, rfl, Fr.refl _ _, rfl⟩
    · intro vals wq f h
      simp only [fillA, fillT, List.setIfInBounds_toArray, List.set_cons_succ, List.set_cons_zero, Option.getD_some, Nat.zero_add, Nat.reduceAdd]
      have h7 : vals 7 = Value.int .i64 (N : Int) := h 7 (by kernel_rfl)
      rw [h7]
      have h9 : vals 9 = Value.int .i64 (m : Int) := h 9 (by kernel_rfl)
      rw [h9]
      have h6 : vals 6 = Value.bool true := h 6 (by kernel_rfl)
      rw [h6]
      obtain ⟨⟨c0, c1, c2⟩, ⟨x0, x1, x2, x3, x4, x5⟩, ⟨y0, y1, y2, y3, y4, y5⟩⟩ := HQ.out wq f
      clear h
      go_wp2
      exact ⟨rfl, rfl, _, rfl, Fr.refl _ _, rfl⟩
    · intro vals wq f h
      simp only [fillA, fillT, List.setIfInBounds_toArray, List.set_cons_succ, List.set_cons_zero, Option.getD_some, Nat.zero_add, Nat.reduceAdd]
      have h6 : vals 6 = Value.bool true := h 6 (by kernel_rfl)
      rw [h6]
      have h10 : vals 10 = Value.bool true := h 10 (by kernel_rfl)
      rw [h10]
      obtain ⟨⟨c0, c1, c2⟩, ⟨x0, x1, x2, x3, x4, x5⟩, ⟨y0, y1, y2, y3, y4, y5⟩⟩ := HQ.out wq f
      clear h
      go_wp2
      exact ⟨rfl, rfl, _, rfl, Fr.refl _ _, rfl⟩
    · intro vals wq f h
      simp only [fillA, fillT, List.setIfInBounds_toArray, List.set_cons_succ, List.set_cons_zero, Option.getD_some, Nat.zero_add, Nat.reduceAdd]
      have h11 : vals 11 = Value.bool true := h 11 (by kernel_rfl)
      rw [h11]
      obtain ⟨⟨c0, c1, c2⟩, ⟨x0, x1, x2, x3, x4, x5⟩, ⟨y0, y1, y2, y3, y4, y5⟩⟩ := HQ.out wq f
      clear h
      go_wp2
      exact ⟨rfl, rfl, _, rfl, Fr.refl _ _, rfl⟩
    · intro vals wq f h
      simp only [fillA, fillT, List.setIfInBounds_toArray, List.set_cons_succ, List.set_cons_zero, Option.getD_some, Nat.zero_add, Nat.reduceAdd]
      have h12 : vals 12 = Value.bool true := h 12 (by kernel_rfl)
      rw [h12]
      obtain ⟨⟨c0, c1, c2⟩, ⟨x0, x1, x2, x3, x4, x5⟩, ⟨y0, y1, y2, y3, y4, y5⟩⟩ := HQ.out wq f
      clear h
      go_wp2
      exact ⟨rfl, rfl, _, rfl, Fr.refl _ _, rfl⟩
    · intro vals wq f h
      simp only [fillA, fillT, List.setIfInBounds_toArray, List.set_cons_succ, List.set_cons_zero, Option.getD_some, Nat.zero_add, Nat.reduceAdd]
      have h12 : vals 12 = Value.bool true := h 12 (by kernel_rfl)
      rw [h12]
      obtain ⟨⟨c0, c1, c2⟩, ⟨x0, x1, x2, x3, x4, x5⟩, ⟨y0, y1, y2, y3, y4, y5⟩⟩ := HQ.out wq f
      clear h
      go_wp2
      exact ⟨rfl, rfl, _, rfl, Fr.refl _ _, rfl⟩
    · intro vals wq f h
      simp only [fillA, fillT, List.setIfInBounds_toArray, List.set_cons_succ, List.set_cons_zero, Option.getD_some, Nat.zero_add, Nat.reduceAdd]
      have h12 : vals 12 = Value.bool true := h 12 (by kernel_rfl)
      rw [h12]
      obtain ⟨⟨c0, c1, c2⟩, ⟨x0, x1, x2, x3, x4, x5⟩, ⟨y0, y1, y2, y3, y4, y5⟩⟩ := HQ.out wq f
      clear h
      go_wp2
      exact ⟨rfl, rfl, _, rfl, Fr.refl _ _, rfl⟩
    · intro vals wq f h
      simp only [fillA, fillT, List.setIfInBounds_toArray, List.set_cons_succ, List.set_cons_zero, Option.getD_some, Nat.zero_add, Nat.reduceAdd]
      have h14 : vals 14 = Value.slice (some ⟨b, 0, none⟩) m cap := h 14 (by kernel_rfl)
      rw [h14]
      have h15 : vals 15 = Value.int .i64 (N : Int) := h 15 (by kernel_rfl)
      rw [h15]
      have h12 : vals 12 = Value.bool true := h 12 (by kernel_rfl)
      rw [h12]
      obtain ⟨⟨c0, c1, c2⟩, ⟨x0, x1, x2, x3, x4, x5⟩, ⟨y0, y1, y2, y3, y4, y5⟩⟩ := HQ.out wq f
      clear h
      go_wp2
      exact ⟨rfl, rfl, _, rfl, Fr.refl _ _, rfl⟩
    · intro vals wq f h
      simp only [fillA, fillT, List.setIfInBounds_toArray, List.set_cons_succ, List.set_cons_zero, Option.getD_some, Nat.zero_add, Nat.reduceAdd]
      have h16 : vals 16 = Value.pointer (some ⟨b, N * 6, none⟩) := h 16 (by kernel_rfl)
      rw [h16]
      have h12 : vals 12 = Value.bool true := h 12 (by kernel_rfl)
      rw [h12]
      obtain ⟨⟨c0, c1, c2⟩, ⟨x0, x1, x2, x3, x4, x5⟩, ⟨y0, y1, y2, y3, y4, y5⟩⟩ := HQ.out wq f
      clear h
      go_wp2
      exact ⟨rfl, rfl, _, rfl, Fr.refl _ _, rfl⟩
    · intro vals wq f h
      simp only [fillA, fillT, List.setIfInBounds_toArray, List.set_cons_succ, List.set_cons_zero, Option.getD_some, Nat.zero_add, Nat.reduceAdd]
      have h13 : vals 13 = Value.agg #[.int .i64 (lv : Int), .int .i64 (o : Int), .int .i64 (bx : Int), .int .i64 (by' : Int), .int .i64 (bw : Int), .int .i64 (bh : Int)] := h 13 (by kernel_rfl)
      rw [h13]
      have h17 : vals 17 = Value.agg #[.int .i64 (lv : Int), .int .i64 (o : Int), .int .i64 (bx : Int), .int .i64 (by' : Int), .int .i64 (bw : Int), .int .i64 (bh : Int)] := h 17 (by kernel_rfl)
      rw [h17]
      have h12 : vals 12 = Value.bool true := h 12 (by kernel_rfl)
      rw [h12]
      obtain ⟨⟨c0, c1, c2⟩, ⟨x0, x1, x2, x3, x4, x5⟩, ⟨y0, y1, y2, y3, y4, y5⟩⟩ := HQ.out wq f
      clear h
      go_wp2
      exact ⟨rfl, rfl, _, rfl, Fr.refl _ _, rfl⟩
    · intro vals wq f h
      simp only [fillA, fillT, List.setIfInBounds_toArray, List.set_cons_succ, List.set_cons_zero, Option.getD_some, Nat.zero_add, Nat.reduceAdd]
      have h12 : vals 12 = Value.bool true := h 12 (by kernel_rfl)
      rw [h12]
      have h18 : vals 18 = Value.bool true := h 18 (by kernel_rfl)
      rw [h18]
      obtain ⟨⟨c0, c1, c2⟩, ⟨x0, x1, x2, x3, x4, x5⟩, ⟨y0, y1, y2, y3, y4, y5⟩⟩ := HQ.out wq f
      clear h
      go_wp2
      exact ⟨rfl, rfl, _, rfl, Fr.refl _ _, rfl⟩
  case tail =>
    intro vals wq f h
    simp only [List.take_succ_cons, List.take_zero, fillA, fillT, List.setIfInBounds_toArray, List.set_cons_succ, List.set_cons_zero, List.drop_succ_cons, List.drop_zero, Nat.zero_add, Nat.reduceAdd]
    have h19 : vals 19 = Value.bool true := h 19 (by omega)
    rw [h19]
    have f7 : Fr (fun _ => False) W wq := (Fr.refl _ W).drew.trans' f
    have Bo := HBo.out.fr f7 (fun h => h)
    have Bn := HBn.out.fr f7 (fun h => h)
    have Bs := HBs.out.fr f7 (fun h => h)
    have c0 : wq.cell? ⟨bo, 0, none⟩ = some (.bool true) := by rw [Bo.cell]; rfl
    have c1 : wq.cell? ⟨bn, 0, none⟩ = some (.int .i64 (N : Int)) := by rw [Bn.cell]; rfl
    have c3 : wq.cell? ⟨bs, 0, none⟩ = some (.int .i64 stop) := by rw [Bs.cell]; rfl
    have t0 := Bo.thaw
    have t1 := Bn.thaw
    have HO := hid Bo
    have HN := hid Bn
    have HF := hid (HF0.out.trans' f7)
    clear h h19 f f7 Bo Bn Bs
    gi_wp2
    go_wp2
    go_ret
    refine ⟨?_, ?_, ?_, ?_⟩
    · exact ret_bool (by rw [Int.natCast_add]; rfl)
    · simpa using (HO.out.set 0 (.bool true)).setOther (a := ⟨bn, 0, none⟩) h1 (.int .i64 ((N : Int) + 1))
    · simpa using (HN.out.setOther (a := ⟨bo, 0, none⟩) (fun e => h1 e.symm) (.bool true)).set 0 (.int .i64 ((N : Int) + 1))
    · exact ((HF.out.mono (S' := fun j => j = bo ∨ j = bn) (fun _ _ h => h.elim)).setCell (p := ⟨bo, 0, none⟩) (fun _ => .inl rfl) _).setCell (p := ⟨bn, 0, none⟩) (fun _ => .inr rfl) _

/-- What All tells, as the law asks it. -/
def AllTold (X Y D : Int) (stop : Int) (N : Nat) : Prop := N = bandsN X Y D ∨ ((N : Int) = stop ∧ N ≤ bandsN X Y D)

set_option maxRecDepth 100000 in
set_option maxHeartbeats 2000000 in
theorem lieall_go (c k x y m : Nat) (X Y D : Int) (hx' : x ≤ 1024) (hy' : y ≤ 1024) (hk' : k ≤ 6) (hc : c ≤ k + 1) (hm : startI c = m) (hX : 0 < c → X = (x : Int) ∧ Y = (y : Int) ∧ D = (k : Int)) (bc bw bh bd : Nat) (a : Option Addr) (cap : Nat) (b : Nat) (stop : Int) (bo bn bl bs : Nat) (w : World)
    (h : Bds w a m cap (bandAt k x y) b) (hBc : Blk w bc #[.int .i64 (c : Int)] 3) (hB : Boxes3 w bw bh bd X Y D)
    (hBo : Blk w bo #[.bool true] 4) (hBn : Blk w bn #[.int .i64 0] 3) (hBl : Blk w bl #[.slice a m cap] 24) (hBs : Blk w bs #[.int .i64 stop] 3)
    (h1 : bo ≠ bn) (h2 : bo ≠ bl) (h3 : bo ≠ bs) (h4 : bn ≠ bl) (h5 : bn ≠ bs) (h6 : bw ≠ bo ∧ bw ≠ bn) (h7 : bh ≠ bo ∧ bh ≠ bn) (h8 : bd ≠ bo ∧ bd ≠ bn) (h9 : 0 < m → b ≠ bo ∧ b ≠ bn) :
    Calls Try.prog 25 #[.func (.func 12) #[] #[.pointer (some ⟨bo, 0, none⟩), .pointer (some ⟨bn, 0, none⟩), .pointer (some ⟨bl, 0, none⟩), .pointer (some ⟨bs, 0, none⟩)], .pointer (some ⟨bc, 0, none⟩), .pointer (some ⟨bw, 0, none⟩), .pointer (some ⟨bh, 0, none⟩), .pointer (some ⟨bd, 0, none⟩)] w fun e w' =>
      e = .returned (.tuple #[]) ∧ (∃ N : Nat, (N = m ∨ ((N : Int) = stop ∧ N ≤ m)) ∧ Blk w' bn #[.int .i64 (N : Int)] 3) ∧ Blk w' bo #[.bool true] 4 ∧ Fr (fun j => j = bo ∨ j = bn) w w' := by
  have hc0 : w.cell? ⟨bc, 0, none⟩ = some (.int .i64 (c : Int)) := by rw [hBc.cell]; rfl
  have hm19 : m ≤ 19 := by
    rw [← hm]; unfold startI; split <;> omega
  have HK : Hid (∀ wr N, N < m → Fr (fun j => j = bo ∨ j = bn) w wr → Blk wr bo #[.bool true] 4 → Blk wr bn #[.int .i64 ((N : Nat) : Int)] 3 → ∀ w2, Fr (fun _ => False) wr w2 → Calls Try.prog 12 #[.int .i64 (N : Int), bandV (bandAt k x y N), .pointer (some ⟨bo, 0, none⟩), .pointer (some ⟨bn, 0, none⟩), .pointer (some ⟨bl, 0, none⟩), .pointer (some ⟨bs, 0, none⟩)] w2 fun e w' =>
      e = .returned (.bool (!decide (((N + 1 : Nat) : Int) = stop))) ∧ Blk w' bo #[.bool true] 4 ∧ Blk w' bn #[.int .i64 ((N + 1 : Nat) : Int)] 3 ∧ Fr (fun j => j = bo ∨ j = bn) w w') := by
    intro wr N hN f b1 b2 w2 f2
    have f3 := f.trans f2 (fun _ _ h => h.elim)
    exact (lie1_go N m a cap (bandAt k x y) b stop bo bn bl bs w2 hN hm19 (h.fr f3 (fun hp e => by have := h9 hp; omega)) (b1.fr f2 (fun h => h)) (b2.fr f2 (fun h => h)) (hBl.fr f3 (by omega)) (hBs.fr f3 (by omega)) h1 h2 h3 h4 h5).mono (fun e w' ⟨q1, q2, q3, q4⟩ => ⟨q1, q2, q3, f3.trans' q4⟩)
  have HB : Hid (∀ wr, Fr (fun j => j = bo ∨ j = bn) w wr → Boxes3 wr bw bh bd X Y D) := fun wr f => hB.fr f (by omega) (by omega) (by omega)
  have HX := hid hX
  have HM := hid hm
  have HO := hid hBo
  have HN := hid hBn
  clear h hX hBc hB hm hBo hBn hBl hBs h1 h2 h3 h4 h5 h6 h7 h8 h9
  go_enter Try.func25, Try.ntmps25
  go_wp2
  go_step3
  go_wp2
  go_step3
  go_wp2
  go_loopw [6, 12] (fun i lv wr => ∃ q : Nat, q ≤ c ∧ lv = .int .i64 (q : Int) ∧ i = .int .i64 ((startI q : Nat) : Int) ∧ Blk wr bo #[.bool true] 4 ∧ Blk wr bn #[.int .i64 ((startI q : Nat) : Int)] 3 ∧ Fr (fun j => j = bo ∨ j = bn) w wr) (fun _ lv _ => c - (intOf lv).toNat)
  case atStart => exact ⟨0, Nat.zero_le _, rfl, rfl, HO.out, HN.out, Fr.refl _ _⟩
  case round =>
    obtain ⟨q, hq, rfl, rfl, b1, b2, F⟩ := hrel
    have HB1 := hid b1
    have HB2 := hid b2
    have HF := hid F
    clear b1 b2 F
    by_cases hlt : q < c
    · have hki : (q : Int) < (c : Int) := by omega
      obtain ⟨rfl, rfl, rfl⟩ := HX.out (by omega)
      obtain ⟨w0, hw0⟩ : ∃ w0, w0 = wr := ⟨_, rfl⟩
      go_wp2_with fail
      refine (borients_any q wr (by omega)).mono ?_
      rintro e w1 ⟨rfl, rfl⟩
      obtain ⟨of, hof⟩ : ∃ of, fstO q = of := ⟨_, rfl⟩
      obtain ⟨ol, hol⟩ : ∃ ol, lstO q = ol := ⟨_, rfl⟩
      obtain ⟨si, hsi⟩ : ∃ si, startI q = si := ⟨_, rfl⟩
      have hol3 : ol ≤ 3 ∧ of ≤ ol + 1 ∧ si ≤ 19 := by
        rw [← hol, ← hof, ← hsi]
        unfold lstO fstO startI
        by_cases hz : q = 0
        · rw [if_pos hz, if_pos hz, if_pos hz]; omega
        · rw [if_neg hz, if_neg hz, if_neg hz]; omega
      have hol4 := hol3.1
      have hsi4 := hol3.2.2
      have HOF := hid (And.intro hof (And.intro hol (And.intro hsi hol3.2.1)))
      rw [hof, hol, hsi]
      rw [hsi] at HB2
      clear hof hol hol3 hsi
      go_wp2
      go_loopw [6, 10] (fun i ov wr => ∃ o : Nat, of ≤ o ∧ o ≤ ol + 1 ∧ ov = .int .i64 (o : Int) ∧ i = .int .i64 ((si + (o - of) : Nat) : Int) ∧ Blk wr bo #[.bool true] 4 ∧ Blk wr bn #[.int .i64 ((si + (o - of) : Nat) : Int)] 3 ∧ Fr (fun j => j = bo ∨ j = bn) w wr) (fun _ ov _ => 4 - (intOf ov).toNat)
      case atStart => exact ⟨of, Nat.le_refl _, HOF.out.2.2.2, rfl, by rw [Nat.sub_self, Nat.add_zero], HB1.out, by rw [Nat.sub_self, Nat.add_zero]; exact HB2.out, HF.out⟩
      case round =>
        obtain ⟨o, ho1, ho2, rfl, rfl, b1, b2, F⟩ := hrel
        have HC1 := hid b1
        have HC2 := hid b2
        have HG := hid F
        clear b1 b2 F
        by_cases hql : o ≤ ol
        · have hqi : (o : Int) ≤ (ol : Int) := by omega
          obtain ⟨eof, eol, esi, _⟩ := HOF.out
          obtain ⟨t, ht⟩ : ∃ t, t + max q 1 = k + 1 := ⟨k + 1 - max q 1, by omega⟩
          have hat := lies_at (k := k) (x := x) (y := y) (l := q) (o := o) (by omega) (by omega) (by omega) t ht
          rw [esi, eof] at hat
          obtain ⟨ix, hix⟩ : ∃ ix, si + (o - of) = ix := ⟨_, rfl⟩
          rw [hix] at hat
          have hmc : m = 3 * (c - 1) + 1 := by
            rw [← HM.out]
            have := startI_succ (c - 1)
            rwa [show c - 1 + 1 = c by omega] at this
          have hmm : startI (q + 1) = 3 * q + 1 := startI_succ q
          have hnx := startI_next q
          have hxm : ix < m := by rw [eol, eof, esi] at hnx; omega
          have HIX : Hid (si + (o + 1 - of) = ix + 1) := (show si + (o + 1 - of) = ix + 1 by omega)
          have HXM : Hid (ix < m) := hxm
          have HLi := hid (fun w => blies_go k x y q o w hx' hy' hk' (by omega) t ht _ _ rfl rfl)
          rw [hix] at HC2 ⊢
          have HFC := hid (HK.out wr ix hxm HG.out HC1.out HC2.out)
          unfold bandV at HFC
          rw [hat] at HFC
          dsimp only at HFC
          have hB3 := HB.out wr HG.out
          have e0 : wr.cell? ⟨bw, 0, none⟩ = some (.int .i64 (x : Int)) := by rw [hB3.b0.cell]; rfl
          have e1 : wr.cell? ⟨bh, 0, none⟩ = some (.int .i64 (y : Int)) := by rw [hB3.b1.cell]; rfl
          have e2 : wr.cell? ⟨bd, 0, none⟩ = some (.int .i64 (k : Int)) := by rw [hB3.b2.cell]; rfl
          generalize x / 2 ^ t * (o % 2) = A1 at HLi HFC
          generalize y / 2 ^ t * (o / 2) = A2 at HLi HFC
          generalize x / 2 ^ t = A3 at HLi HFC
          generalize y / 2 ^ t = A4 at HLi HFC
          have hixl : ix ≤ 19 := by omega
          clear hB3 hat hnx hmm hmc ht eof eol esi hix hxm
          by_cases hst : ((ix + 1 : Nat) : Int) = stop
          · rw [decide_eq_true hst] at HFC
            have HST := hid hst
            clear hst
            go_wp2_with fail
            refine (HLi.out wr).mono ?_
            rintro e w2 ⟨rfl, f2⟩
            have HFD := hid (HFC.out w2 f2)
            clear f2 e0 e1 e2
            go_wp2_with fail
            refine HFD.out.mono ?_
            rintro e w3 ⟨rfl, b1, b2, F⟩
            have HD1 := hid b1
            have HD2 := hid b2
            have HD := hid F
            clear b1 b2 F
            go_wp2
            rw [Exit.noGoto_normal]
            go_end0
            exact ⟨rfl, ⟨_, .inr ⟨HST.out, HXM.out⟩, HD2.out⟩, HD1.out, HD.out⟩
          · rw [decide_eq_false hst] at HFC
            clear hst
            go_wp2_with fail
            refine (HLi.out wr).mono ?_
            rintro e w2 ⟨rfl, f2⟩
            have HFD := hid (HFC.out w2 f2)
            clear f2 e0 e1 e2
            go_wp2_with fail
            refine HFD.out.mono ?_
            rintro e w3 ⟨rfl, b1, b2, F⟩
            have HD1 := hid b1
            have HD2 := hid b2
            have HD := hid F
            clear b1 b2 F
            go_wp2
            go_roundw
            case rel => exact ⟨o + 1, by omega, by omega, by go_num, by rw [HIX.out]; go_num, HD1.out, by rw [HIX.out]; exact HD2.out, HD.out⟩
            case measure => simp [intOf]; omega
        · have hqi : ¬ (o : Int) ≤ (ol : Int) := by omega
          obtain ⟨eof, eol, esi, _⟩ := HOF.out
          have hnx := startI_next q
          have hoe : o = ol + 1 := by omega
          rw [eol, eof, esi, ← hoe] at hnx
          rw [hnx] at HC2 ⊢
          clear eof eol esi hnx hoe
          go_wp2
          go_roundw
          case rel => exact ⟨q + 1, by omega, by go_num, rfl, HC1.out, HC2.out, HG.out⟩
          case measure => simp [intOf]; omega
    · have hki : ¬ (q : Int) < (c : Int) := by omega
      obtain rfl : q = c := by omega
      rw [HM.out] at HB2
      go_wp2
      go_end0
      exact ⟨rfl, ⟨_, .inl rfl, HB2.out⟩, HB1.out, HF.out⟩
end Go.Proofs.Ytgmainbgliejhaa
