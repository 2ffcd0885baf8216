/-
  Law package 2: what must be answered ahead of everything else.
-/
import Derived.Test.YtjjcekmmdngekaaOuter
import Derived.Test.YtjjcekmmdngekaaGolombG
namespace Go.Proofs.Ytjjcekmmdngekaa
open Go.RowKit

set_option maxHeartbeats 1000000 in
theorem first_any (w : World) :
    Calls Try.prog 6 #[] w fun e w' => e = .returned (.bool true) ∧ Fr (fun _ => False) w w' := by
  go_enter Try.func6, Try.ntmps6
  go_wp2_with fail
  refine (gput_any _ w.heap.size _ [] [] 3 (Wr.new w) (by simp)).mono ?_
  rintro e w1 ⟨rfl, v1, zs1, h1, st1⟩
  have e1 : ([] ++ codeC 3) = [false, false, false, false, true] := by decide
  have e1' : hasC 3 = true := by decide
  rw [e1] at h1
  rw [e1']
  obtain ⟨F1, O1⟩ := st1.outer ((Fr.refl _ w).alloc _) (Nat.le_refl _) (by intro k hk; cases hk)
  clear st1 e1 e1'
  go_wp2_with fail
  refine (gputs_any _ w.heap.size _ _ _ (-1) h1 (by decide) (by decide) (by decide)).mono ?_
  rintro e w2 ⟨rfl, v2, zs2, h2, st2⟩
  have e2 : ([false, false, false, false, true] ++ codeS (-1)) = [false, false, false, false, true, false, false, true, true] := by decide
  have e2' : hasS (-1) = true := by decide
  rw [e2] at h2
  rw [e2']
  obtain ⟨F2, O2⟩ := st2.outer F1 (Nat.le_refl _) O1
  obtain rfl : zs2 = [9, 128] := h2.packs.unique ⟨by decide, by decide, by
    intro p
    by_cases hp : p < 16
    · revert p; decide
    · rw [bitAt_far _ _ (by simp; omega)]; simp [List.getD, List.getElem?_eq_none (show [false, false, false, false, true, false, false, true, true].length ≤ p by simp; omega)]⟩
  clear st2 e2 e2' h1 F1 O1
  go_wp2_with fail
  refine (new_any _ _ [9, 128] (Reads.new w2 [9, 128] 5 2 rfl) (by simp) (by decide)).mono ?_
  rintro e w3 ⟨p3, q3, rfl, r3, hp3, hq3, f3⟩
  have F3 : Fr (fun _ => False) w w3 := (F2.alloc _).trans' f3
  have h3 : Wr w3 w.heap.size v2 [9, 128] [false, false, false, false, true, false, false, true, true] := (h2.fr ((Fr.refl (fun _ => False) w2).alloc _) (fun h => h) (fun _ _ h => h)).fr f3 (fun h => h) (fun _ _ h => h)
  have n1 : w.heap.size < p3 := by have := h2.blk.lt; simp at hp3; omega
  have n2 : ∀ k, v2.ownBlock = some k → k < p3 := by intro k hk; have := h2.own.lt k hk; simp at hp3; omega
  clear h2 F2 f3 hp3 hq3
  go_wp2_with fail
  refine (gget_any _ p3 q3 _ _ _ r3 (by decide) (by decide) (by decide)).mono ?_
  rintro e w4 ⟨v, ok, rfl, n, hg, r4, f4⟩
  have e4 : gget (bitAt [9, 128]) 31 1 0 = (3, true, 5) := by decide
  rw [e4] at hg
  simp only [Prod.mk.injEq] at hg
  obtain ⟨rfl, rfl, hn⟩ := hg
  obtain rfl : n = 5 := by omega
  have e5 : past 0 5 (8 * [9, 128].length) = 0 := by decide
  rw [e5] at r4
  have h4 := h3.fr f4 (by omega) (fun k hk h => by have := n2 k hk; omega)
  have F4 := F3.trans f4 (by intro i hi e; omega)
  clear h3 F3 f4 r3 e4 e5 hn
  go_wp2_with fail
  refine (sget_any _ p3 q3 _ _ _ r4 (by decide) (by decide) (by decide)).mono ?_
  rintro e w5 ⟨z, ok, rfl, n, hg, r5, f5⟩
  have e4 : sget (bitAt [9, 128]) (0 + 5) = (-1, true, 9) := by decide
  rw [e4] at hg
  simp only [Prod.mk.injEq] at hg
  obtain ⟨rfl, rfl, hn⟩ := hg
  have h5 := h4.fr f5 (by omega) (fun k hk h => by have := n2 k hk; omega)
  have F5 := F4.trans f5 (by intro i hi e; omega)
  clear h4 F4 f5 r4 e4 hn r5
  go_wp2_with fail
  refine (bytes_any _ _ _ _ _ h5 (by decide)).mono ?_
  rintro e w7 ⟨q7, rfl, b7, hq7, f7⟩
  have h7 := h5.fr f7 (fun h => h) (fun _ _ h => h)
  have F7 := F5.trans f7 (by intro i hi e; exact e)
  have es : strOf [9, 128] = ⟨#[9, 128]⟩ := by decide
  have hcv : (convert 24 9 (.slice (some ⟨q7, 0, none⟩) 2 2)).run Try.prog w7 = .ok (.string ⟨#[9, 128]⟩) w7 := by rw [← es]; exact conv_bytes w7 q7 [9, 128] 2 5 b7
  clear h5 F5 f7 es
  go_wp2_with fail
  refine (len_any _ _ _ _ _ h7).mono ?_
  rintro e w8 ⟨rfl, rfl⟩
  go_wp2_with fail
  refine (gput_no _ _ _ (by decide)).mono ?_
  rintro e w8 ⟨rfl, rfl⟩
  go_wp2_with fail
  refine (gsize_any _ _).mono ?_
  rintro e w9 ⟨rfl, rfl⟩
  rw [show ((codeC 3).length : Int) = 5 by decide]
  go_wp2_with fail
  refine (gsizes_any _ _ (by decide) (by decide)).mono ?_
  rintro e w10 ⟨rfl, rfl⟩
  rw [show ((codeS (-1)).length : Int) = 4 by decide]
  go_wp2
  go_ret
  exact ⟨rfl, F7⟩
end Go.Proofs.Ytjjcekmmdngekaa
