/-
  Law package 1: what must be answered ahead of everything else.
-/
import Derived.Test.YtadpbeofeocfiaaBitsR
import Derived.Laws.BytesArg
namespace Go.Proofs.Ytadpbeofeocfiaa
open Go.RowKit

theorem WrStep.outer {w w0 w' : World} {p : Nat} {v v' : Value} (st : WrStep p v v' w0 w') (f : Fr (fun _ => False) w w0) (hp : w.heap.size ≤ p) (hv : ∀ k, v.ownBlock = some k → w.heap.size ≤ k) :
    Fr (fun _ => False) w w' ∧ ∀ k, v'.ownBlock = some k → w.heap.size ≤ k := by
  constructor
  · refine f.trans st.fr ?_
    intro i hi hk
    rcases hk with rfl | hk
    · omega
    · have := hv i hk; omega
  · rcases st.at' with e | e
    · rw [e]; exact hv
    · intro k hk; exact Nat.le_trans f.size (e k hk)

theorem Reads.new (w : World) (zs : List Nat) (t : TypeId) (n : Nat) (hn : n = zs.length) : Reads (w.alloc (.cells (rowOf zs).toArray t)) (.slice (some ⟨w.heap.size, 0, none⟩) n n) (rowOf zs) := by
  subst hn
  refine ⟨_, _, by rw [rowOf_length], fun _ => ⟨_, rfl, fun j u hu => ?_⟩⟩
  exact World.news_of_block (heap_alloc_new w _) j u hu

/-- Bytes as a string. -/
def strOf (zs : List Nat) : ByteArray := strOfNums (zs.map fun (z : Nat) => (z : Int))

theorem conv_bytes (w : World) (q : Nat) (zs : List Nat) (cap : Nat) (t : TypeId) (h : Blk w q (rowOf zs).toArray t) :
    (convert 25 9 (.slice (some ⟨q, 0, none⟩) zs.length cap)).run Try.prog w = .ok (.string (strOf zs)) w := by
  refine run_convert_bytes_arg (P := Try.prog) w 25 5 Try.underlying25 Try.underlying5 q 0 zs.length cap (zs.map fun (z : Nat) => (z : Int)) (by simp) ?_ 9 Try.underlying9
  intro i hi
  rw [Nat.zero_add, h.cell i, List.getElem?_toArray, rowOf_get zs i hi]
  simp [List.getD, hi]

set_option maxHeartbeats 1000000 in
theorem first_any (w : World) :
    Calls Try.prog 6 #[] w fun e w' => e = .returned (.bool true) ∧ Fr (fun _ => False) w w' := by
  go_enter Try.func6, Try.ntmps6
  go_wp2_with fail
  refine (put_any _ w.heap.size _ [] [] 5 3 (Wr.new w) (by simp) (by omega) (by omega)).mono ?_
  rintro e w1 ⟨rfl, v1, zs1, h1, st1⟩
  have e1 : ([] ++ bitsOf (Int.toNat 5) (max 0 (min (3 : Int) 64)).toNat) = [true, false, true] := by decide
  rw [e1] at h1
  obtain ⟨F1, O1⟩ := st1.outer ((Fr.refl _ w).alloc _) (Nat.le_refl _) (by intro k hk; cases hk)
  clear st1 e1
  go_wp2_with fail
  refine (put_any _ w.heap.size _ _ _ 1 2 h1 (by decide) (by omega) (by omega)).mono ?_
  rintro e w2 ⟨rfl, v2, zs2, h2, st2⟩
  have e2 : ([true, false, true] ++ bitsOf (Int.toNat 1) (max 0 (min (2 : Int) 64)).toNat) = [true, false, true, false, true] := by decide
  rw [e2] at h2
  obtain ⟨F2, O2⟩ := st2.outer F1 (Nat.le_refl _) O1
  obtain rfl : zs2 = [168] := h2.packs.unique ⟨by decide, by decide, by
    intro p
    by_cases hp : p < 8
    · revert p; decide
    · rw [bitAt_far _ _ (by simp; omega)]; simp [List.getD, List.getElem?_eq_none (show [true, false, true, false, true].length ≤ p by simp; omega)]⟩
  clear st2 e2 h1 F1 O1
  go_wp2_with fail
  refine (new_any _ _ [168, 255] (Reads.new w2 [168, 255] 5 2 rfl) (by simp) (by decide)).mono ?_
  rintro e w3 ⟨p3, q3, rfl, r3, hp3, hq3, f3⟩
  have F3 : Fr (fun _ => False) w w3 := (F2.alloc _).trans' f3
  have h3 : Wr w3 w.heap.size v2 [168] [true, false, true, false, true] := (h2.fr ((Fr.refl (fun _ => False) w2).alloc _) (fun h => h) (fun _ _ h => h)).fr f3 (fun h => h) (fun _ _ h => h)
  have n1 : w.heap.size < p3 := by have := h2.blk.lt; simp at hp3; omega
  have n2 : ∀ k, v2.ownBlock = some k → k < p3 := by intro k hk; have := h2.own.lt k hk; simp at hp3; omega
  clear h2 F2 f3 hp3 hq3
  go_wp2_with fail
  refine (rget_any _ p3 q3 _ _ _ 3 r3 (by decide) (by decide) (by decide)).mono ?_
  rintro e w4 ⟨rfl, r4, f4⟩
  have e4 : valOf (readsOf (bitAt [168, 255]) 0 (max 0 (min (3 : Int) 64)).toNat) = 5 := by decide
  have e4' : (max 0 (min (3 : Int) 64)).toNat = 3 := by decide
  have e4'' : past 0 3 (8 * [168, 255].length) = 0 := by decide
  rw [e4]
  rw [e4', e4''] at r4
  clear e4 e4' e4''
  have h4 := h3.fr f4 (by omega) (fun k hk h => by have := n2 k hk; omega)
  have F4 := F3.trans f4 (by intro i hi e; omega)
  clear h3 F3 f4 r3
  go_wp2_with fail
  refine (rget_any _ p3 q3 _ _ _ 2 r4 (by decide) (by decide) (by decide)).mono ?_
  rintro e w5 ⟨rfl, r5, f5⟩
  have e4 : valOf (readsOf (bitAt [168, 255]) (0 + 3) (max 0 (min (2 : Int) 64)).toNat) = 1 := by decide
  have e4' : (max 0 (min (2 : Int) 64)).toNat = 2 := by decide
  have e4'' : past (0 + 3) 2 (8 * [168, 255].length) = 0 := by decide
  rw [e4]
  rw [e4', e4''] at r5
  clear e4 e4' e4''
  have h5 := h4.fr f5 (by omega) (fun k hk h => by have := n2 k hk; omega)
  have F5 := F4.trans f5 (by intro i hi e; omega)
  clear h4 F4 f5 r4
  go_wp2_with fail
  refine (ralign_any _ p3 q3 _ _ _ r5 (by decide)).mono ?_
  rintro e w6 ⟨rfl, r6, f6⟩
  have e6 : 0 + 3 + 2 + gap (0 + 3 + 2) = 8 := by decide
  rw [e6] at r6
  have h6 := h5.fr f6 (by omega) (fun k hk h => by have := n2 k hk; omega)
  have F6 := F5.trans f6 (by intro i hi e; omega)
  clear h5 F5 f6 r5 e6
  go_wp2_with fail
  refine (bytes_any _ _ _ _ _ h6 (by decide)).mono ?_
  rintro e w7 ⟨q7, rfl, b7, hq7, f7⟩
  have h7 := h6.fr f7 (fun h => h) (fun _ _ h => h)
  have F7 := F6.trans f7 (by intro i hi e; exact e)
  have r7 := r6.fr f7 (fun h => h) (fun h => h)
  have es : strOf [168] = ⟨#[168]⟩ := by decide
  have hcv : (convert 25 9 (.slice (some ⟨q7, 0, none⟩) 1 1)).run Try.prog w7 = .ok (.string ⟨#[168]⟩) w7 := by rw [← es]; exact conv_bytes w7 q7 [168] 1 5 b7
  clear h6 F6 f7 r6 es
  go_wp2_with fail
  refine (len_any _ _ _ _ _ h7).mono ?_
  rintro e w8 ⟨rfl, rfl⟩
  go_wp2_with fail
  refine (rat_any _ _ _ _ _ _ r7).mono ?_
  rintro e w8 ⟨rfl, rfl⟩
  go_wp2_with fail
  refine (rbit_any _ p3 q3 _ _ _ r7 (by decide) (by decide) (by decide)).mono ?_
  rintro e w9 ⟨rfl, r9, f9⟩
  have e9 : bitAt [168, 255] 8 = true := by decide
  rw [e9]
  have F9 := F7.trans f9 (by intro i hi e; omega)
  clear F7 f9 e9
  go_wp2_with fail
  refine (rleft_any _ p3 q3 _ _ _ r9 (by decide) (by decide)).mono ?_
  rintro e w10 ⟨rfl, n10, rfl⟩
  go_wp2
  go_ret
  exact ⟨rfl, F9.drewN _⟩
end Go.Proofs.Ytadpbeofeocfiaa
