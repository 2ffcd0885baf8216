/-
  Law 12, SplitStops: the closures that are told places and parts.
-/
import Derived.BigQuiet
import Derived.Test.YtfnacnelmkemeaaSplitM
import Derived.Test.YtfnacnelmkemeaaWeaveT
namespace Go.Proofs.Ytfnacnelmkemeaa
open Go.RowKit

theorem wrap64_back (X : Int) (c : Nat) (hc : c ≤ 1048576) : wrap64 (wrap64 (X + (c : Int)) - X) = (c : Int) := by
  unfold wrap64; omega

set_option maxRecDepth 100000 in
set_option maxHeartbeats 2000000 in
/-- The closure that is told places: place N of a part x wide. -/
theorem stops1_go (x N m : Nat) (X Y H : Int) (stop : Int) (bo bn ba br bs : Nat) (w : World) (hx : 1 ≤ x) (hx' : x ≤ 1024) (hN : N < m) (hm : m ≤ 1048576)
    (hBo : Blk w bo #[.bool true] 4) (hBn : Blk w bn #[.int .i64 (N : Int)] 3) (hBa : Blk w ba #[.int .i64 (m : Int)] 3) (hBr : Blk w br #[.int .i64 X, .int .i64 Y, .int .i64 (x : Int), .int .i64 H] 28) (hBs : Blk w bs #[.int .i64 stop] 3)
    (h1 : bo ≠ bn) (h2 : bo ≠ bs) (h3 : bn ≠ bs) :
    Calls Try.prog 14 #[.int .i64 (wrap64 (X + ((N % x : Nat) : Int))), .int .i64 (wrap64 (Y + ((N / x : Nat) : Int))), .pointer (some ⟨bo, 0, none⟩), .pointer (some ⟨bn, 0, none⟩), .pointer (some ⟨ba, 0, none⟩), .pointer (some ⟨br, 0, none⟩), .pointer (some ⟨bs, 0, none⟩)] w fun e w' =>
      e = .returned (.bool (!decide (((N + 1 : Nat) : Int) = stop))) ∧ Blk w' bo #[.bool true] 4 ∧ Blk w' bn #[.int .i64 ((N + 1 : Nat) : Int)] 3 ∧ Fr (fun j => j = bo ∨ j = bn) w w' := by
  obtain ⟨c, hc⟩ : ∃ c, c = N % x := ⟨_, rfl⟩
  obtain ⟨r, hr⟩ : ∃ r, r = N / x := ⟨_, rfl⟩
  rw [← hc, ← hr]
  have e1 : (N : Int) % (x : Int) = (c : Int) := by rw [hc]; exact (Int.natCast_emod N x).symm
  have e2 : (N : Int) / (x : Int) = (r : Int) := by rw [hr]; exact (Int.natCast_ediv N x).symm
  have hrl : r ≤ 1048576 := by rw [hr]; exact Nat.le_trans (Nat.div_le_self _ _) (by omega)
  have hcl : c ≤ 1024 := by rw [hc]; exact Nat.le_trans (Nat.le_of_lt (Nat.mod_lt _ (by omega))) hx'
  obtain ⟨PX, hPX⟩ : ∃ P, wrap64 (X + (c : Int)) = P := ⟨_, rfl⟩
  obtain ⟨PY, hPY⟩ : ∃ P, wrap64 (Y + (r : Int)) = P := ⟨_, rfl⟩
  have HPX : Hid (wrap64 (PX - X) = (c : Int)) := by rw [← hPX]; exact wrap64_back X c (by omega)
  have HPY : Hid (wrap64 (PY - Y) = (r : Int)) := by rw [← hPY]; exact wrap64_back Y r (by omega)
  rw [hPX, hPY]
  have hne0 : (x : Int) ≠ 0 := by omega
  have HC : Hid ((N : Int) % (x : Int) = (c : Int) ∧ wrap64 ((N : Int) / (x : Int)) = (r : Int)) := ⟨e1, by rw [e2]; unfold wrap64; omega⟩
  have HQ : Hid (∀ wq, Fr (fun _ => False) w.drew wq → (wq.cell? ⟨bo, 0, none⟩ = some (.bool true) ∧ wq.cell? ⟨bn, 0, none⟩ = some (.int .i64 (N : Int)) ∧ wq.cell? ⟨ba, 0, none⟩ = some (.int .i64 (m : Int))) ∧ wq.cell? ⟨br, 0, none⟩ = some (.int .i64 X) ∧ wq.cell? ⟨br, 1, none⟩ = some (.int .i64 Y) ∧ wq.cell? ⟨br, 2, none⟩ = some (.int .i64 (x : Int))) := by
    intro wq f
    have f' := (Fr.refl _ w).drew.trans' f
    exact ⟨⟨by rw [(hBo.fr f' (fun h => h)).cell]; rfl, by rw [(hBn.fr f' (fun h => h)).cell]; rfl, by rw [(hBa.fr f' (fun h => h)).cell]; rfl⟩, by rw [(hBr.fr f' (fun h => h)).cell]; rfl, by rw [(hBr.fr f' (fun h => h)).cell]; rfl, by rw [(hBr.fr f' (fun h => h)).cell]; rfl⟩
  have HBo := hid hBo
  have HBn := hid hBn
  have HBs := hid hBs
  have hNI : (N : Int) < (m : Int) := by omega
  clear e1 e2 hc hr hPX hPY hBo hBn hBa hBr hBs
  go_enter Try.func14, Try.ntmps14
  go_wp2
  refine weaveST 28 [.eq (Value.bool true), .eq (Value.bool true), .eq (Value.int .i64 (N : Int)), .eq (Value.int .i64 (m : Int)), .eq (Value.bool true), .eq (Value.bool true), .eq (Value.bool true), .eq (Value.int .i64 PX), .eq (Value.pointer (some ⟨br, 0, none⟩)), .eq (Value.int .i64 X), .eq (Value.int .i64 (c : Int)), .eq (Value.int .i64 (N : Int)), .eq (Value.pointer (some ⟨br, 2, none⟩)), .eq (Value.int .i64 (x : Int)), .eq (Value.int .i64 (c : Int)), .eq (Value.bool true), .eq (Value.bool true), .eq (Value.bool true), .eq (Value.int .i64 PY), .eq (Value.pointer (some ⟨br, 1, none⟩)), .eq (Value.int .i64 Y), .eq (Value.int .i64 (r : Int)), .eq (Value.int .i64 (N : Int)), .eq (Value.pointer (some ⟨br, 2, none⟩)), .eq (Value.int .i64 (x : Int)), .eq (Value.int .i64 (r : Int)), .eq (Value.bool true), .eq (Value.bool true)] (by kernel_rfl) (by kernel_rfl) ?obls ?tail
  case obls =>
    simp only [List.take_succ_cons, List.take_zero]
    refine ⟨?_, ?_, ?_, ?_, ?_, ?_, ?_, ?_, ?_, ?_, ?_, ?_, ?_, ?_, ?_, ?_, ?_, ?_, ?_, ?_, ?_, ?_, ?_, ?_, ?_, ?_, ?_, ?_, trivial⟩
    · intro vals wq f h
      simp only [fillA, fillT, List.setIfInBounds_toArray, List.set_cons_succ, List.set_cons_zero, Option.getD_some, Nat.zero_add, Nat.reduceAdd]
      obtain ⟨⟨c0, c1, c2⟩, x0, x1, x2⟩ := HQ.out wq f
      clear h
      go_wp2
      exact ⟨rfl, rfl, _, rfl, Fr.refl _ _, rfl⟩
    · intro vals wq f h
      simp only [fillA, fillT, List.setIfInBounds_toArray, List.set_cons_succ, List.set_cons_zero, Option.getD_some, Nat.zero_add, Nat.reduceAdd]
      have h0 : vals 0 = Value.bool true := h 0 (by kernel_rfl)
      rw [h0]
      obtain ⟨⟨c0, c1, c2⟩, x0, x1, x2⟩ := HQ.out wq f
      clear h
      go_wp2
      exact ⟨rfl, rfl, _, rfl, Fr.refl _ _, rfl⟩
    · intro vals wq f h
      simp only [fillA, fillT, List.setIfInBounds_toArray, List.set_cons_succ, List.set_cons_zero, Option.getD_some, Nat.zero_add, Nat.reduceAdd]
      have h1 : vals 1 = Value.bool true := h 1 (by kernel_rfl)
      rw [h1]
      obtain ⟨⟨c0, c1, c2⟩, x0, x1, x2⟩ := HQ.out wq f
      clear h
      go_wp2
      exact ⟨rfl, rfl, _, rfl, Fr.refl _ _, rfl⟩
    · intro vals wq f h
      simp only [fillA, fillT, List.setIfInBounds_toArray, List.set_cons_succ, List.set_cons_zero, Option.getD_some, Nat.zero_add, Nat.reduceAdd]
      have h1 : vals 1 = Value.bool true := h 1 (by kernel_rfl)
      rw [h1]
      obtain ⟨⟨c0, c1, c2⟩, x0, x1, x2⟩ := HQ.out wq f
      clear h
      go_wp2
      exact ⟨rfl, rfl, _, rfl, Fr.refl _ _, rfl⟩
    · intro vals wq f h
      simp only [fillA, fillT, List.setIfInBounds_toArray, List.set_cons_succ, List.set_cons_zero, Option.getD_some, Nat.zero_add, Nat.reduceAdd]
      have h2 : vals 2 = Value.int .i64 (N : Int) := h 2 (by kernel_rfl)
      rw [h2]
      have h3 : vals 3 = Value.int .i64 (m : Int) := h 3 (by kernel_rfl)
      rw [h3]
      have h1 : vals 1 = Value.bool true := h 1 (by kernel_rfl)
      rw [h1]
      obtain ⟨⟨c0, c1, c2⟩, x0, x1, x2⟩ := HQ.out wq f
      clear h
      go_wp2
      exact ⟨rfl, rfl, _, rfl, Fr.refl _ _, rfl⟩
    · intro vals wq f h
      simp only [fillA, fillT, List.setIfInBounds_toArray, List.set_cons_succ, List.set_cons_zero, Option.getD_some, Nat.zero_add, Nat.reduceAdd]
      have h1 : vals 1 = Value.bool true := h 1 (by kernel_rfl)
      rw [h1]
      have h4 : vals 4 = Value.bool true := h 4 (by kernel_rfl)
      rw [h4]
      obtain ⟨⟨c0, c1, c2⟩, x0, x1, x2⟩ := HQ.out wq f
      clear h
      go_wp2
      exact ⟨rfl, rfl, _, rfl, Fr.refl _ _, rfl⟩
    · intro vals wq f h
      simp only [fillA, fillT, List.setIfInBounds_toArray, List.set_cons_succ, List.set_cons_zero, Option.getD_some, Nat.zero_add, Nat.reduceAdd]
      have h5 : vals 5 = Value.bool true := h 5 (by kernel_rfl)
      rw [h5]
      obtain ⟨⟨c0, c1, c2⟩, x0, x1, x2⟩ := HQ.out wq f
      clear h
      go_wp2
      exact ⟨rfl, rfl, _, rfl, Fr.refl _ _, rfl⟩
    · intro vals wq f h
      simp only [fillA, fillT, List.setIfInBounds_toArray, List.set_cons_succ, List.set_cons_zero, Option.getD_some, Nat.zero_add, Nat.reduceAdd]
      have h6 : vals 6 = Value.bool true := h 6 (by kernel_rfl)
      rw [h6]
      obtain ⟨⟨c0, c1, c2⟩, x0, x1, x2⟩ := HQ.out wq f
      clear h
      go_wp2
      exact ⟨rfl, rfl, _, rfl, Fr.refl _ _, rfl⟩
    · intro vals wq f h
      simp only [fillA, fillT, List.setIfInBounds_toArray, List.set_cons_succ, List.set_cons_zero, Option.getD_some, Nat.zero_add, Nat.reduceAdd]
      have h6 : vals 6 = Value.bool true := h 6 (by kernel_rfl)
      rw [h6]
      obtain ⟨⟨c0, c1, c2⟩, x0, x1, x2⟩ := HQ.out wq f
      clear h
      go_wp2
      exact ⟨rfl, rfl, _, rfl, Fr.refl _ _, rfl⟩
    · intro vals wq f h
      simp only [fillA, fillT, List.setIfInBounds_toArray, List.set_cons_succ, List.set_cons_zero, Option.getD_some, Nat.zero_add, Nat.reduceAdd]
      have h8 : vals 8 = Value.pointer (some ⟨br, 0, none⟩) := h 8 (by kernel_rfl)
      rw [h8]
      have h6 : vals 6 = Value.bool true := h 6 (by kernel_rfl)
      rw [h6]
      obtain ⟨⟨c0, c1, c2⟩, x0, x1, x2⟩ := HQ.out wq f
      clear h
      go_wp2
      exact ⟨rfl, rfl, _, rfl, Fr.refl _ _, rfl⟩
    · intro vals wq f h
      simp only [fillA, fillT, List.setIfInBounds_toArray, List.set_cons_succ, List.set_cons_zero, Option.getD_some, Nat.zero_add, Nat.reduceAdd]
      have h7 : vals 7 = Value.int .i64 PX := h 7 (by kernel_rfl)
      rw [h7]
      have h9 : vals 9 = Value.int .i64 X := h 9 (by kernel_rfl)
      rw [h9]
      have h6 : vals 6 = Value.bool true := h 6 (by kernel_rfl)
      rw [h6]
      obtain ⟨⟨c0, c1, c2⟩, x0, x1, x2⟩ := HQ.out wq f
      clear h
      go_wp2
      exact ⟨rfl, rfl, _, rfl, Fr.refl _ _, congrArg (Value.int .i64) HPX.out⟩
    · intro vals wq f h
      simp only [fillA, fillT, List.setIfInBounds_toArray, List.set_cons_succ, List.set_cons_zero, Option.getD_some, Nat.zero_add, Nat.reduceAdd]
      have h6 : vals 6 = Value.bool true := h 6 (by kernel_rfl)
      rw [h6]
      obtain ⟨⟨c0, c1, c2⟩, x0, x1, x2⟩ := HQ.out wq f
      clear h
      go_wp2
      exact ⟨rfl, rfl, _, rfl, Fr.refl _ _, rfl⟩
    · intro vals wq f h
      simp only [fillA, fillT, List.setIfInBounds_toArray, List.set_cons_succ, List.set_cons_zero, Option.getD_some, Nat.zero_add, Nat.reduceAdd]
      have h6 : vals 6 = Value.bool true := h 6 (by kernel_rfl)
      rw [h6]
      obtain ⟨⟨c0, c1, c2⟩, x0, x1, x2⟩ := HQ.out wq f
      clear h
      go_wp2
      exact ⟨rfl, rfl, _, rfl, Fr.refl _ _, rfl⟩
    · intro vals wq f h
      simp only [fillA, fillT, List.setIfInBounds_toArray, List.set_cons_succ, List.set_cons_zero, Option.getD_some, Nat.zero_add, Nat.reduceAdd]
      have h12 : vals 12 = Value.pointer (some ⟨br, 2, none⟩) := h 12 (by kernel_rfl)
      rw [h12]
      have h6 : vals 6 = Value.bool true := h 6 (by kernel_rfl)
      rw [h6]
      obtain ⟨⟨c0, c1, c2⟩, x0, x1, x2⟩ := HQ.out wq f
      clear h
      go_wp2
      exact ⟨rfl, rfl, _, rfl, Fr.refl _ _, rfl⟩
    · intro vals wq f h
      simp only [fillA, fillT, List.setIfInBounds_toArray, List.set_cons_succ, List.set_cons_zero, Option.getD_some, Nat.zero_add, Nat.reduceAdd]
      have h11 : vals 11 = Value.int .i64 (N : Int) := h 11 (by kernel_rfl)
      rw [h11]
      have h13 : vals 13 = Value.int .i64 (x : Int) := h 13 (by kernel_rfl)
      rw [h13]
      have h6 : vals 6 = Value.bool true := h 6 (by kernel_rfl)
      rw [h6]
      obtain ⟨⟨c0, c1, c2⟩, x0, x1, x2⟩ := HQ.out wq f
      clear h
      go_wp2
      exact ⟨rfl, rfl, _, rfl, Fr.refl _ _, congrArg (Value.int .i64) HC.out.1⟩
    · intro vals wq f h
      simp only [fillA, fillT, List.setIfInBounds_toArray, List.set_cons_succ, List.set_cons_zero, Option.getD_some, Nat.zero_add, Nat.reduceAdd]
      have h10 : vals 10 = Value.int .i64 (c : Int) := h 10 (by kernel_rfl)
      rw [h10]
      have h14 : vals 14 = Value.int .i64 (c : Int) := h 14 (by kernel_rfl)
      rw [h14]
      have h6 : vals 6 = Value.bool true := h 6 (by kernel_rfl)
      rw [h6]
      obtain ⟨⟨c0, c1, c2⟩, x0, x1, x2⟩ := HQ.out wq f
      clear h
      go_wp2
      exact ⟨rfl, rfl, _, rfl, Fr.refl _ _, rfl⟩
    · intro vals wq f h
      simp only [fillA, fillT, List.setIfInBounds_toArray, List.set_cons_succ, List.set_cons_zero, Option.getD_some, Nat.zero_add, Nat.reduceAdd]
      have h6 : vals 6 = Value.bool true := h 6 (by kernel_rfl)
      rw [h6]
      have h15 : vals 15 = Value.bool true := h 15 (by kernel_rfl)
      rw [h15]
      obtain ⟨⟨c0, c1, c2⟩, x0, x1, x2⟩ := HQ.out wq f
      clear h
      go_wp2
      exact ⟨rfl, rfl, _, rfl, Fr.refl _ _, rfl⟩
    · intro vals wq f h
      simp only [fillA, fillT, List.setIfInBounds_toArray, List.set_cons_succ, List.set_cons_zero, Option.getD_some, Nat.zero_add, Nat.reduceAdd]
      have h16 : vals 16 = Value.bool true := h 16 (by kernel_rfl)
      rw [h16]
      obtain ⟨⟨c0, c1, c2⟩, x0, x1, x2⟩ := HQ.out wq f
      clear h
      go_wp2
      exact ⟨rfl, rfl, _, rfl, Fr.refl _ _, rfl⟩
    · intro vals wq f h
      simp only [fillA, fillT, List.setIfInBounds_toArray, List.set_cons_succ, List.set_cons_zero, Option.getD_some, Nat.zero_add, Nat.reduceAdd]
      have h17 : vals 17 = Value.bool true := h 17 (by kernel_rfl)
      rw [h17]
      obtain ⟨⟨c0, c1, c2⟩, x0, x1, x2⟩ := HQ.out wq f
      clear h
      go_wp2
      exact ⟨rfl, rfl, _, rfl, Fr.refl _ _, rfl⟩
    · intro vals wq f h
      simp only [fillA, fillT, List.setIfInBounds_toArray, List.set_cons_succ, List.set_cons_zero, Option.getD_some, Nat.zero_add, Nat.reduceAdd]
      have h17 : vals 17 = Value.bool true := h 17 (by kernel_rfl)
      rw [h17]
      obtain ⟨⟨c0, c1, c2⟩, x0, x1, x2⟩ := HQ.out wq f
      clear h
      go_wp2
      exact ⟨rfl, rfl, _, rfl, Fr.refl _ _, rfl⟩
    · intro vals wq f h
      simp only [fillA, fillT, List.setIfInBounds_toArray, List.set_cons_succ, List.set_cons_zero, Option.getD_some, Nat.zero_add, Nat.reduceAdd]
      have h19 : vals 19 = Value.pointer (some ⟨br, 1, none⟩) := h 19 (by kernel_rfl)
      rw [h19]
      have h17 : vals 17 = Value.bool true := h 17 (by kernel_rfl)
      rw [h17]
      obtain ⟨⟨c0, c1, c2⟩, x0, x1, x2⟩ := HQ.out wq f
      clear h
      go_wp2
      exact ⟨rfl, rfl, _, rfl, Fr.refl _ _, rfl⟩
    · intro vals wq f h
      simp only [fillA, fillT, List.setIfInBounds_toArray, List.set_cons_succ, List.set_cons_zero, Option.getD_some, Nat.zero_add, Nat.reduceAdd]
      have h18 : vals 18 = Value.int .i64 PY := h 18 (by kernel_rfl)
      rw [h18]
      have h20 : vals 20 = Value.int .i64 Y := h 20 (by kernel_rfl)
      rw [h20]
      have h17 : vals 17 = Value.bool true := h 17 (by kernel_rfl)
      rw [h17]
      obtain ⟨⟨c0, c1, c2⟩, x0, x1, x2⟩ := HQ.out wq f
      clear h
      go_wp2
      exact ⟨rfl, rfl, _, rfl, Fr.refl _ _, congrArg (Value.int .i64) HPY.out⟩
    · intro vals wq f h
      simp only [fillA, fillT, List.setIfInBounds_toArray, List.set_cons_succ, List.set_cons_zero, Option.getD_some, Nat.zero_add, Nat.reduceAdd]
      have h17 : vals 17 = Value.bool true := h 17 (by kernel_rfl)
      rw [h17]
      obtain ⟨⟨c0, c1, c2⟩, x0, x1, x2⟩ := HQ.out wq f
      clear h
      go_wp2
      exact ⟨rfl, rfl, _, rfl, Fr.refl _ _, rfl⟩
    · intro vals wq f h
      simp only [fillA, fillT, List.setIfInBounds_toArray, List.set_cons_succ, List.set_cons_zero, Option.getD_some, Nat.zero_add, Nat.reduceAdd]
      have h17 : vals 17 = Value.bool true := h 17 (by kernel_rfl)
      rw [h17]
      obtain ⟨⟨c0, c1, c2⟩, x0, x1, x2⟩ := HQ.out wq f
      clear h
      go_wp2
      exact ⟨rfl, rfl, _, rfl, Fr.refl _ _, rfl⟩
    · intro vals wq f h
      simp only [fillA, fillT, List.setIfInBounds_toArray, List.set_cons_succ, List.set_cons_zero, Option.getD_some, Nat.zero_add, Nat.reduceAdd]
      have h23 : vals 23 = Value.pointer (some ⟨br, 2, none⟩) := h 23 (by kernel_rfl)
      rw [h23]
      have h17 : vals 17 = Value.bool true := h 17 (by kernel_rfl)
      rw [h17]
      obtain ⟨⟨c0, c1, c2⟩, x0, x1, x2⟩ := HQ.out wq f
      clear h
      go_wp2
      exact ⟨rfl, rfl, _, rfl, Fr.refl _ _, rfl⟩
    · intro vals wq f h
      simp only [fillA, fillT, List.setIfInBounds_toArray, List.set_cons_succ, List.set_cons_zero, Option.getD_some, Nat.zero_add, Nat.reduceAdd]
      have h22 : vals 22 = Value.int .i64 (N : Int) := h 22 (by kernel_rfl)
      rw [h22]
      have h24 : vals 24 = Value.int .i64 (x : Int) := h 24 (by kernel_rfl)
      rw [h24]
      have h17 : vals 17 = Value.bool true := h 17 (by kernel_rfl)
      rw [h17]
      obtain ⟨⟨c0, c1, c2⟩, x0, x1, x2⟩ := HQ.out wq f
      clear h
      go_wp2
      exact ⟨rfl, rfl, _, rfl, Fr.refl _ _, congrArg (Value.int .i64) HC.out.2⟩
    · intro vals wq f h
      simp only [fillA, fillT, List.setIfInBounds_toArray, List.set_cons_succ, List.set_cons_zero, Option.getD_some, Nat.zero_add, Nat.reduceAdd]
      have h21 : vals 21 = Value.int .i64 (r : Int) := h 21 (by kernel_rfl)
      rw [h21]
      have h25 : vals 25 = Value.int .i64 (r : Int) := h 25 (by kernel_rfl)
      rw [h25]
      have h17 : vals 17 = Value.bool true := h 17 (by kernel_rfl)
      rw [h17]
      obtain ⟨⟨c0, c1, c2⟩, x0, x1, x2⟩ := HQ.out wq f
      clear h
      go_wp2
      exact ⟨rfl, rfl, _, rfl, Fr.refl _ _, rfl⟩
    · intro vals wq f h
      simp only [fillA, fillT, List.setIfInBounds_toArray, List.set_cons_succ, List.set_cons_zero, Option.getD_some, Nat.zero_add, Nat.reduceAdd]
      have h17 : vals 17 = Value.bool true := h 17 (by kernel_rfl)
      rw [h17]
      have h26 : vals 26 = Value.bool true := h 26 (by kernel_rfl)
      rw [h26]
      obtain ⟨⟨c0, c1, c2⟩, x0, x1, x2⟩ := HQ.out wq f
      clear h
      go_wp2
      exact ⟨rfl, rfl, _, rfl, Fr.refl _ _, rfl⟩
  case tail =>
    intro vals wq f h
    simp only [List.take_succ_cons, List.take_zero, fillA, fillT, List.setIfInBounds_toArray, List.set_cons_succ, List.set_cons_zero, List.drop_succ_cons, List.drop_zero, Nat.zero_add, Nat.reduceAdd]
    have h27 : vals 27 = Value.bool true := h 27 (by omega)
    rw [h27]
    have f7 : Fr (fun _ => False) w wq := (Fr.refl _ w).drew.trans' f
    have Bo := HBo.out.fr f7 (fun h => h)
    have Bn := HBn.out.fr f7 (fun h => h)
    have Bs := HBs.out.fr f7 (fun h => h)
    have c0 : wq.cell? ⟨bo, 0, none⟩ = some (.bool true) := by rw [Bo.cell]; rfl
    have c1 : wq.cell? ⟨bn, 0, none⟩ = some (.int .i64 (N : Int)) := by rw [Bn.cell]; rfl
    have c3 : wq.cell? ⟨bs, 0, none⟩ = some (.int .i64 stop) := by rw [Bs.cell]; rfl
    have t0 := Bo.thaw
    have t1 := Bn.thaw
    have HO := hid Bo
    have HN := hid Bn
    have HF := hid (f7)
    clear h h27 f f7 Bo Bn Bs
    gi_wp2
    go_wp2
    go_ret
    refine ⟨?_, ?_, ?_, ?_⟩
    · exact ret_bool (by rw [Int.natCast_add]; rfl)
    · simpa using (HO.out.set 0 (.bool true)).setOther (a := ⟨bn, 0, none⟩) h1 (.int .i64 ((N : Int) + 1))
    · simpa using (HN.out.setOther (a := ⟨bo, 0, none⟩) (fun e => h1 e.symm) (.bool true)).set 0 (.int .i64 ((N : Int) + 1))
    · exact ((HF.out.mono (S' := fun j => j = bo ∨ j = bn) (fun _ _ h => h.elim)).setCell (p := ⟨bo, 0, none⟩) (fun _ => .inl rfl) _).setCell (p := ⟨bn, 0, none⟩) (fun _ => .inr rfl) _

set_option maxRecDepth 100000 in
set_option maxHeartbeats 2000000 in
/-- The closure that is told parts: part N of a list. -/
theorem stops2_go (N m : Nat) (a : Option Addr) (cap : Nat) (L : Nat → RectN) (b : Nat) (stop : Int) (bo bn bl bs : Nat) (w : World) (hN : N < m) (hm : m ≤ 4096)
    (h : Rcs w a m cap L b) (hBo : Blk w bo #[.bool true] 4) (hBn : Blk w bn #[.int .i64 (N : Int)] 3) (hBl : Blk w bl #[.slice a m cap] 24) (hBs : Blk w bs #[.int .i64 stop] 3)
    (h1 : bo ≠ bn) (h2 : bo ≠ bs) (h3 : bn ≠ bs) :
    Calls Try.prog 16 #[.int .i64 (N : Int), rectV (L N), .pointer (some ⟨bo, 0, none⟩), .pointer (some ⟨bn, 0, none⟩), .pointer (some ⟨bl, 0, none⟩), .pointer (some ⟨bs, 0, none⟩)] w fun e w' =>
      e = .returned (.bool (!decide (((N + 1 : Nat) : Int) = stop))) ∧ Blk w' bo #[.bool true] 4 ∧ Blk w' bn #[.int .i64 ((N + 1 : Nat) : Int)] 3 ∧ Fr (fun j => j = bo ∨ j = bn) w w' := by
  obtain rfl := h.addr (by omega)
  have hcl := h.cells hN
  unfold rectV
  generalize L N = B at hcl
  obtain ⟨rx, ry, rw, rh⟩ := B
  dsimp only at hcl ⊢
  obtain ⟨W, hW⟩ : ∃ W, W = w.alloc (.cells #[.int .i64 (rx : Int), .int .i64 (ry : Int), .int .i64 (rw : Int), .int .i64 (rh : Int)] 28) := ⟨_, rfl⟩
  have F0 : Fr (fun _ => False) w W := by rw [hW]; exact (Fr.refl _ w).alloc _
  have O0 : Blk W w.heap.size #[.int .i64 (rx : Int), .int .i64 (ry : Int), .int .i64 (rw : Int), .int .i64 (rh : Int)] 28 := by rw [hW]; exact Blk.new _ _ _
  have Bo := hBo.fr F0 (fun h => h)
  have Bn := hBn.fr F0 (fun h => h)
  have Bl := hBl.fr F0 (fun h => h)
  have Bs := hBs.fr F0 (fun h => h)
  have HQ : Hid (∀ wq, Fr (fun _ => False) W.drew wq → (wq.cell? ⟨bo, 0, none⟩ = some (.bool true) ∧ wq.cell? ⟨bn, 0, none⟩ = some (.int .i64 (N : Int)) ∧ wq.cell? ⟨bl, 0, none⟩ = some (.slice (some ⟨b, 0, none⟩) m cap)) ∧ (wq.cell? ⟨w.heap.size, 0, none⟩ = some (.int .i64 (rx : Int)) ∧ wq.cell? ⟨w.heap.size, 1, none⟩ = some (.int .i64 (ry : Int)) ∧ wq.cell? ⟨w.heap.size, 2, none⟩ = some (.int .i64 (rw : Int)) ∧ wq.cell? ⟨w.heap.size, 3, none⟩ = some (.int .i64 (rh : Int))) ∧ (wq.cell? ⟨b, N * 4, none⟩ = some (.int .i64 (rx : Int)) ∧ wq.cell? ⟨b, N * 4 + 1, none⟩ = some (.int .i64 (ry : Int)) ∧ wq.cell? ⟨b, N * 4 + 2, none⟩ = some (.int .i64 (rw : Int)) ∧ wq.cell? ⟨b, N * 4 + 3, none⟩ = some (.int .i64 (rh : Int)))) := by
    intro wq f
    have f' := (Fr.refl _ W).drew.trans' f
    have f2 := F0.trans' f'
    have P0 := O0.fr f' (fun h => h)
    have up : ∀ {k : Nat} {v : Value}, w.cell? ⟨b, k, none⟩ = some v → wq.cell? ⟨b, k, none⟩ = some v := fun {k v} h => (f2.cell (p := ⟨b, k, none⟩) (cell_lt h) (fun h => h)).trans h
    obtain ⟨p0, p1, p2, p3⟩ := hcl
    exact ⟨⟨by rw [(Bo.fr f' (fun h => h)).cell]; rfl, by rw [(Bn.fr f' (fun h => h)).cell]; rfl, by rw [(Bl.fr f' (fun h => h)).cell]; rfl⟩, ⟨by rw [P0.cell]; rfl, by rw [P0.cell]; rfl, by rw [P0.cell]; rfl, by rw [P0.cell]; rfl⟩, ⟨up p0, up p1, up p2, up p3⟩⟩
  have HBo := hid Bo
  have HBn := hid Bn
  have HBs := hid Bs
  have HF0 := hid F0
  have HW := hid hW
  have hNI : (N : Int) < (m : Int) := by omega
  clear hW F0 O0 Bo Bn Bl Bs hcl h hBo hBn hBl hBs
  go_enter Try.func16, Try.ntmps16
  go_wp2
  rw [← HW.out]
  refine weaveST 20 [.eq (Value.bool true), .eq (Value.bool true), .eq (Value.int .i64 (N : Int)), .eq (Value.int .i64 (N : Int)), .eq (Value.bool true), .eq (Value.bool true), .eq (Value.bool true), .eq (Value.int .i64 (N : Int)), .eq (Value.slice (some ⟨b, 0, none⟩) m cap), .eq (Value.int .i64 (m : Int)), .eq (Value.bool true), .eq (Value.bool true), .eq (Value.bool true), .eq (Value.agg #[.int .i64 (rx : Int), .int .i64 (ry : Int), .int .i64 (rw : Int), .int .i64 (rh : Int)]), .eq (Value.slice (some ⟨b, 0, none⟩) m cap), .eq (Value.int .i64 (N : Int)), .eq (Value.pointer (some ⟨b, N * 4, none⟩)), .eq (Value.agg #[.int .i64 (rx : Int), .int .i64 (ry : Int), .int .i64 (rw : Int), .int .i64 (rh : Int)]), .eq (Value.bool true), .eq (Value.bool true)] (by kernel_rfl) (by kernel_rfl) ?obls ?tail
  case obls =>
    simp only [List.take_succ_cons, List.take_zero]
    refine ⟨?_, ?_, ?_, ?_, ?_, ?_, ?_, ?_, ?_, ?_, ?_, ?_, ?_, ?_, ?_, ?_, ?_, ?_, ?_, ?_, trivial⟩
    · intro vals wq f h
      simp only [fillA, fillT, List.setIfInBounds_toArray, List.set_cons_succ, List.set_cons_zero, Option.getD_some, Nat.zero_add, Nat.reduceAdd]
      obtain ⟨⟨c0, c1, c2⟩, ⟨x0, x1, x2, x3⟩, ⟨y0, y1, y2, y3⟩⟩ := HQ.out wq f
      clear h
      go_wp2
      exact ⟨rfl, rfl, _, rfl, Fr.refl _ _, rfl⟩
    · intro vals wq f h
      simp only [fillA, fillT, List.setIfInBounds_toArray, List.set_cons_succ, List.set_cons_zero, Option.getD_some, Nat.zero_add, Nat.reduceAdd]
      have h0 : vals 0 = Value.bool true := h 0 (by kernel_rfl)
      rw [h0]
      obtain ⟨⟨c0, c1, c2⟩, ⟨x0, x1, x2, x3⟩, ⟨y0, y1, y2, y3⟩⟩ := HQ.out wq f
      clear h
      go_wp2
      exact ⟨rfl, rfl, _, rfl, Fr.refl _ _, rfl⟩
    · intro vals wq f h
      simp only [fillA, fillT, List.setIfInBounds_toArray, List.set_cons_succ, List.set_cons_zero, Option.getD_some, Nat.zero_add, Nat.reduceAdd]
      have h1 : vals 1 = Value.bool true := h 1 (by kernel_rfl)
      rw [h1]
      obtain ⟨⟨c0, c1, c2⟩, ⟨x0, x1, x2, x3⟩, ⟨y0, y1, y2, y3⟩⟩ := HQ.out wq f
      clear h
      go_wp2
      exact ⟨rfl, rfl, _, rfl, Fr.refl _ _, rfl⟩
    · intro vals wq f h
      simp only [fillA, fillT, List.setIfInBounds_toArray, List.set_cons_succ, List.set_cons_zero, Option.getD_some, Nat.zero_add, Nat.reduceAdd]
      have h1 : vals 1 = Value.bool true := h 1 (by kernel_rfl)
      rw [h1]
      obtain ⟨⟨c0, c1, c2⟩, ⟨x0, x1, x2, x3⟩, ⟨y0, y1, y2, y3⟩⟩ := HQ.out wq f
      clear h
      go_wp2
      exact ⟨rfl, rfl, _, rfl, Fr.refl _ _, rfl⟩
    · intro vals wq f h
      simp only [fillA, fillT, List.setIfInBounds_toArray, List.set_cons_succ, List.set_cons_zero, Option.getD_some, Nat.zero_add, Nat.reduceAdd]
      have h2 : vals 2 = Value.int .i64 (N : Int) := h 2 (by kernel_rfl)
      rw [h2]
      have h3 : vals 3 = Value.int .i64 (N : Int) := h 3 (by kernel_rfl)
      rw [h3]
      have h1 : vals 1 = Value.bool true := h 1 (by kernel_rfl)
      rw [h1]
      obtain ⟨⟨c0, c1, c2⟩, ⟨x0, x1, x2, x3⟩, ⟨y0, y1, y2, y3⟩⟩ := HQ.out wq f
      clear h
      go_wp2
      exact ⟨rfl, rfl, _, rfl, Fr.refl _ _, rfl⟩
    · intro vals wq f h
      simp only [fillA, fillT, List.setIfInBounds_toArray, List.set_cons_succ, List.set_cons_zero, Option.getD_some, Nat.zero_add, Nat.reduceAdd]
      have h1 : vals 1 = Value.bool true := h 1 (by kernel_rfl)
      rw [h1]
      have h4 : vals 4 = Value.bool true := h 4 (by kernel_rfl)
      rw [h4]
      obtain ⟨⟨c0, c1, c2⟩, ⟨x0, x1, x2, x3⟩, ⟨y0, y1, y2, y3⟩⟩ := HQ.out wq f
      clear h
      go_wp2
      exact ⟨rfl, rfl, _, rfl, Fr.refl _ _, rfl⟩
    · intro vals wq f h
      simp only [fillA, fillT, List.setIfInBounds_toArray, List.set_cons_succ, List.set_cons_zero, Option.getD_some, Nat.zero_add, Nat.reduceAdd]
      have h5 : vals 5 = Value.bool true := h 5 (by kernel_rfl)
      rw [h5]
      obtain ⟨⟨c0, c1, c2⟩, ⟨x0, x1, x2, x3⟩, ⟨y0, y1, y2, y3⟩⟩ := HQ.out wq f
      clear h
      go_wp2
      exact ⟨rfl, rfl, _, rfl, Fr.refl _ _, rfl⟩
    · intro vals wq f h
      simp only [fillA, fillT, List.setIfInBounds_toArray, List.set_cons_succ, List.set_cons_zero, Option.getD_some, Nat.zero_add, Nat.reduceAdd]
      have h6 : vals 6 = Value.bool true := h 6 (by kernel_rfl)
      rw [h6]
      obtain ⟨⟨c0, c1, c2⟩, ⟨x0, x1, x2, x3⟩, ⟨y0, y1, y2, y3⟩⟩ := HQ.out wq f
      clear h
      go_wp2
      exact ⟨rfl, rfl, _, rfl, Fr.refl _ _, rfl⟩
    · intro vals wq f h
      simp only [fillA, fillT, List.setIfInBounds_toArray, List.set_cons_succ, List.set_cons_zero, Option.getD_some, Nat.zero_add, Nat.reduceAdd]
      have h6 : vals 6 = Value.bool true := h 6 (by kernel_rfl)
      rw [h6]
      obtain ⟨⟨c0, c1, c2⟩, ⟨x0, x1, x2, x3⟩, ⟨y0, y1, y2, y3⟩⟩ := HQ.out wq f
      clear h
      go_wp2
      exact ⟨rfl, rfl, _, rfl, Fr.refl _ _, rfl⟩
    · intro vals wq f h
      simp only [fillA, fillT, List.setIfInBounds_toArray, List.set_cons_succ, List.set_cons_zero, Option.getD_some, Nat.zero_add, Nat.reduceAdd]
      have h8 : vals 8 = Value.slice (some ⟨b, 0, none⟩) m cap := h 8 (by kernel_rfl)
      rw [h8]
      have h6 : vals 6 = Value.bool true := h 6 (by kernel_rfl)
      rw [h6]
      obtain ⟨⟨c0, c1, c2⟩, ⟨x0, x1, x2, x3⟩, ⟨y0, y1, y2, y3⟩⟩ := HQ.out wq f
      clear h
      go_wp2
      exact ⟨rfl, rfl, _, rfl, Fr.refl _ _, rfl⟩
    · intro vals wq f h
      simp only [fillA, fillT, List.setIfInBounds_toArray, List.set_cons_succ, List.set_cons_zero, Option.getD_some, Nat.zero_add, Nat.reduceAdd]
      have h7 : vals 7 = Value.int .i64 (N : Int) := h 7 (by kernel_rfl)
      rw [h7]
      have h9 : vals 9 = Value.int .i64 (m : Int) := h 9 (by kernel_rfl)
      rw [h9]
      have h6 : vals 6 = Value.bool true := h 6 (by kernel_rfl)
      rw [h6]
      obtain ⟨⟨c0, c1, c2⟩, ⟨x0, x1, x2, x3⟩, ⟨y0, y1, y2, y3⟩⟩ := HQ.out wq f
      clear h
      go_wp2
      exact ⟨rfl, rfl, _, rfl, Fr.refl _ _, rfl⟩
    · intro vals wq f h
      simp only [fillA, fillT, List.setIfInBounds_toArray, List.set_cons_succ, List.set_cons_zero, Option.getD_some, Nat.zero_add, Nat.reduceAdd]
      have h6 : vals 6 = Value.bool true := h 6 (by kernel_rfl)
      rw [h6]
      have h10 : vals 10 = Value.bool true := h 10 (by kernel_rfl)
      rw [h10]
      obtain ⟨⟨c0, c1, c2⟩, ⟨x0, x1, x2, x3⟩, ⟨y0, y1, y2, y3⟩⟩ := HQ.out wq f
      clear h
      go_wp2
      exact ⟨rfl, rfl, _, rfl, Fr.refl _ _, rfl⟩
    · intro vals wq f h
      simp only [fillA, fillT, List.setIfInBounds_toArray, List.set_cons_succ, List.set_cons_zero, Option.getD_some, Nat.zero_add, Nat.reduceAdd]
      have h11 : vals 11 = Value.bool true := h 11 (by kernel_rfl)
      rw [h11]
      obtain ⟨⟨c0, c1, c2⟩, ⟨x0, x1, x2, x3⟩, ⟨y0, y1, y2, y3⟩⟩ := HQ.out wq f
      clear h
      go_wp2
      exact ⟨rfl, rfl, _, rfl, Fr.refl _ _, rfl⟩
    · intro vals wq f h
      simp only [fillA, fillT, List.setIfInBounds_toArray, List.set_cons_succ, List.set_cons_zero, Option.getD_some, Nat.zero_add, Nat.reduceAdd]
      have h12 : vals 12 = Value.bool true := h 12 (by kernel_rfl)
      rw [h12]
      obtain ⟨⟨c0, c1, c2⟩, ⟨x0, x1, x2, x3⟩, ⟨y0, y1, y2, y3⟩⟩ := HQ.out wq f
      clear h
      go_wp2
      exact ⟨rfl, rfl, _, rfl, Fr.refl _ _, rfl⟩
    · intro vals wq f h
      simp only [fillA, fillT, List.setIfInBounds_toArray, List.set_cons_succ, List.set_cons_zero, Option.getD_some, Nat.zero_add, Nat.reduceAdd]
      have h12 : vals 12 = Value.bool true := h 12 (by kernel_rfl)
      rw [h12]
      obtain ⟨⟨c0, c1, c2⟩, ⟨x0, x1, x2, x3⟩, ⟨y0, y1, y2, y3⟩⟩ := HQ.out wq f
      clear h
      go_wp2
      exact ⟨rfl, rfl, _, rfl, Fr.refl _ _, rfl⟩
    · intro vals wq f h
      simp only [fillA, fillT, List.setIfInBounds_toArray, List.set_cons_succ, List.set_cons_zero, Option.getD_some, Nat.zero_add, Nat.reduceAdd]
      have h12 : vals 12 = Value.bool true := h 12 (by kernel_rfl)
      rw [h12]
      obtain ⟨⟨c0, c1, c2⟩, ⟨x0, x1, x2, x3⟩, ⟨y0, y1, y2, y3⟩⟩ := HQ.out wq f
      clear h
      go_wp2
      exact ⟨rfl, rfl, _, rfl, Fr.refl _ _, rfl⟩
    · intro vals wq f h
      simp only [fillA, fillT, List.setIfInBounds_toArray, List.set_cons_succ, List.set_cons_zero, Option.getD_some, Nat.zero_add, Nat.reduceAdd]
      have h14 : vals 14 = Value.slice (some ⟨b, 0, none⟩) m cap := h 14 (by kernel_rfl)
      rw [h14]
      have h15 : vals 15 = Value.int .i64 (N : Int) := h 15 (by kernel_rfl)
      rw [h15]
      have h12 : vals 12 = Value.bool true := h 12 (by kernel_rfl)
      rw [h12]
      obtain ⟨⟨c0, c1, c2⟩, ⟨x0, x1, x2, x3⟩, ⟨y0, y1, y2, y3⟩⟩ := HQ.out wq f
      clear h
      go_wp2
      exact ⟨rfl, rfl, _, rfl, Fr.refl _ _, rfl⟩
    · intro vals wq f h
      simp only [fillA, fillT, List.setIfInBounds_toArray, List.set_cons_succ, List.set_cons_zero, Option.getD_some, Nat.zero_add, Nat.reduceAdd]
      have h16 : vals 16 = Value.pointer (some ⟨b, N * 4, none⟩) := h 16 (by kernel_rfl)
      rw [h16]
      have h12 : vals 12 = Value.bool true := h 12 (by kernel_rfl)
      rw [h12]
      obtain ⟨⟨c0, c1, c2⟩, ⟨x0, x1, x2, x3⟩, ⟨y0, y1, y2, y3⟩⟩ := HQ.out wq f
      clear h
      go_wp2
      exact ⟨rfl, rfl, _, rfl, Fr.refl _ _, rfl⟩
    · intro vals wq f h
      simp only [fillA, fillT, List.setIfInBounds_toArray, List.set_cons_succ, List.set_cons_zero, Option.getD_some, Nat.zero_add, Nat.reduceAdd]
      have h13 : vals 13 = Value.agg #[.int .i64 (rx : Int), .int .i64 (ry : Int), .int .i64 (rw : Int), .int .i64 (rh : Int)] := h 13 (by kernel_rfl)
      rw [h13]
      have h17 : vals 17 = Value.agg #[.int .i64 (rx : Int), .int .i64 (ry : Int), .int .i64 (rw : Int), .int .i64 (rh : Int)] := h 17 (by kernel_rfl)
      rw [h17]
      have h12 : vals 12 = Value.bool true := h 12 (by kernel_rfl)
      rw [h12]
      obtain ⟨⟨c0, c1, c2⟩, ⟨x0, x1, x2, x3⟩, ⟨y0, y1, y2, y3⟩⟩ := HQ.out wq f
      clear h
      go_wp2
      exact ⟨rfl, rfl, _, rfl, Fr.refl _ _, rfl⟩
    · intro vals wq f h
      simp only [fillA, fillT, List.setIfInBounds_toArray, List.set_cons_succ, List.set_cons_zero, Option.getD_some, Nat.zero_add, Nat.reduceAdd]
      have h12 : vals 12 = Value.bool true := h 12 (by kernel_rfl)
      rw [h12]
      have h18 : vals 18 = Value.bool true := h 18 (by kernel_rfl)
      rw [h18]
      obtain ⟨⟨c0, c1, c2⟩, ⟨x0, x1, x2, x3⟩, ⟨y0, y1, y2, y3⟩⟩ := HQ.out wq f
      clear h
      go_wp2
      exact ⟨rfl, rfl, _, rfl, Fr.refl _ _, rfl⟩
  case tail =>
    intro vals wq f h
    simp only [List.take_succ_cons, List.take_zero, fillA, fillT, List.setIfInBounds_toArray, List.set_cons_succ, List.set_cons_zero, List.drop_succ_cons, List.drop_zero, Nat.zero_add, Nat.reduceAdd]
    have h19 : vals 19 = Value.bool true := h 19 (by omega)
    rw [h19]
    have f7 : Fr (fun _ => False) W wq := (Fr.refl _ W).drew.trans' f
    have Bo := HBo.out.fr f7 (fun h => h)
    have Bn := HBn.out.fr f7 (fun h => h)
    have Bs := HBs.out.fr f7 (fun h => h)
    have c0 : wq.cell? ⟨bo, 0, none⟩ = some (.bool true) := by rw [Bo.cell]; rfl
    have c1 : wq.cell? ⟨bn, 0, none⟩ = some (.int .i64 (N : Int)) := by rw [Bn.cell]; rfl
    have c3 : wq.cell? ⟨bs, 0, none⟩ = some (.int .i64 stop) := by rw [Bs.cell]; rfl
    have t0 := Bo.thaw
    have t1 := Bn.thaw
    have HO := hid Bo
    have HN := hid Bn
    have HF := hid (HF0.out.trans' f7)
    clear h h19 f f7 Bo Bn Bs
    gi_wp2
    go_wp2
    go_ret
    refine ⟨?_, ?_, ?_, ?_⟩
    · exact ret_bool (by rw [Int.natCast_add]; rfl)
    · simpa using (HO.out.set 0 (.bool true)).setOther (a := ⟨bn, 0, none⟩) h1 (.int .i64 ((N : Int) + 1))
    · simpa using (HN.out.setOther (a := ⟨bo, 0, none⟩) (fun e => h1 e.symm) (.bool true)).set 0 (.int .i64 ((N : Int) + 1))
    · exact ((HF.out.mono (S' := fun j => j = bo ∨ j = bn) (fun _ _ h => h.elim)).setCell (p := ⟨bo, 0, none⟩) (fun _ => .inl rfl) _).setCell (p := ⟨bn, 0, none⟩) (fun _ => .inr rfl) _
end Go.Proofs.Ytfnacnelmkemeaa
