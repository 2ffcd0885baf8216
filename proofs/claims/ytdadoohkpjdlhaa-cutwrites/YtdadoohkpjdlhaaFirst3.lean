/-
  Law package 3: what must be answered ahead of everything else.
-/
import Derived.Test.YtdadoohkpjdlhaaCutP
namespace Go.Proofs.Ytdadoohkpjdlhaa
open Go.RowKit

/-- A pen's step, seen from outside. -/
theorem PnGets.outer {w w0 w' : World} {p : Nat} {v : Value} {zs : List Nat} (h : PnGets p v w0 w' zs) (f : Fr (fun _ => False) w w0) (hp : w.heap.size ≤ p) (hv : ∀ k, v.ownBlock = some k → w.heap.size ≤ k) :
    ∃ v', Pn w' p v' zs ∧ Fr (fun _ => False) w w' ∧ (∀ k, v'.ownBlock = some k → w.heap.size ≤ k) ∧ WrStep p v v' w0 w' := by
  obtain ⟨v', h1, st⟩ := h
  obtain ⟨F, O⟩ := st.outer f hp hv
  exact ⟨v', h1, F, O, st⟩

set_option maxHeartbeats 2000000 in
theorem first_any (w : World) :
    Calls Try.prog 6 #[] w fun e w' => e = .returned (.bool true) ∧ Fr (fun _ => False) w w' := by
  go_enter Try.func6, Try.ntmps6
  go_wp2_with fail
  refine (pword_any _ w.heap.size _ [] 258 (Pn.new w) (by simp)).mono ?_
  rintro e w1 ⟨rfl, g1⟩
  obtain ⟨v1, h1, F1, O1, _⟩ := g1.outer ((Fr.refl _ w).alloc _) (Nat.le_refl _) (by intro k hk; cases hk)
  rw [show ([] ++ wordC 258) = [0, 0, 1, 2] by decide] at h1
  rw [show hasW 258 = true by decide]
  clear g1
  go_wp2_with fail
  have F1' := (Fr.refl (fun _ => False) w1).alloc (.cells #[.int .u8 9] 5)
  refine (padd_any _ w.heap.size v1 [0, 0, 1, 2] _ [9] (h1.fr F1' (fun h => h) (fun _ _ h => h)) (Reads.new w1 [9] 5 1 rfl) (by intro c hc; cases hc) (by decide) (by decide) (by decide)).mono ?_
  rintro e w2 ⟨rfl, g2⟩
  obtain ⟨v2, h2, F2, O2, _⟩ := g2.outer (F1.trans' F1') (Nat.le_refl _) O1
  rw [show ([0, 0, 1, 2] ++ [9]) = [0, 0, 1, 2, 9] by decide] at h2
  clear g2 h1 F1 O1 F1'
  go_wp2_with fail
  refine (cnew_any _ _ [0, 0, 1, 2, 9] (Reads.new w2 [0, 0, 1, 2, 9] 5 5 rfl) (by decide) (by decide)).mono ?_
  rintro e w3 ⟨p3, q3, rfl, r3, hp3, hq3, f3⟩
  have F3 : Fr (fun _ => False) w w3 := (F2.alloc _).trans' f3
  have h3 : Pn w3 w.heap.size v2 [0, 0, 1, 2, 9] := (h2.fr ((Fr.refl (fun _ => False) w2).alloc _) (fun h => h) (fun _ _ h => h)).fr f3 (fun h => h) (fun _ _ h => h)
  have n1 : w.heap.size < p3 := by have := h2.blk.lt; simp at hp3; omega
  have n2 : ∀ k, v2.ownBlock = some k → k < p3 := by intro k hk; have := h2.own.lt k hk; simp at hp3; omega
  clear h2 F2 f3 hp3 hq3
  go_wp2_with fail
  refine (cword_any _ p3 q3 0 _ 0 r3 (by decide)).mono ?_
  rintro e w4 ⟨rfl, r4, f4⟩
  rw [show (valB (piece [0, 0, 1, 2, 9] 0 (amt [0, 0, 1, 2, 9].length 0 4)) : Nat) = 258 by decide, show okB [0, 0, 1, 2, 9].length 0 4 = true by decide]
  rw [show 0 + amt [0, 0, 1, 2, 9].length 0 4 = 4 by decide] at r4
  have h4 := h3.fr f4 (by omega) (fun k hk h => by have := n2 k hk; omega)
  have F4 := F3.trans f4 (by intro i hi e; omega)
  clear h3 F3 f4 r3
  go_wp2_with fail
  refine (cword_any _ p3 q3 0 _ 4 r4 (by decide)).mono ?_
  rintro e w5 ⟨rfl, r5, f5⟩
  rw [show okB [0, 0, 1, 2, 9].length 4 4 = false by decide]
  rw [show 4 + amt [0, 0, 1, 2, 9].length 4 4 = 4 by decide] at r5
  have h5 := h4.fr f5 (by omega) (fun k hk h => by have := n2 k hk; omega)
  have F5 := F4.trans f5 (by intro i hi e; omega)
  clear h4 F4 f5 r4
  go_wp2_with fail
  refine (cbyte_any _ p3 q3 0 _ 4 r5 (by decide)).mono ?_
  rintro e w6 ⟨rfl, r6, f6⟩
  rw [show (valB (piece [0, 0, 1, 2, 9] 4 (amt [0, 0, 1, 2, 9].length 4 1)) : Nat) = 9 by decide, show okB [0, 0, 1, 2, 9].length 4 1 = true by decide]
  rw [show 4 + amt [0, 0, 1, 2, 9].length 4 1 = 5 by decide] at r6
  have h6 := h5.fr f6 (by omega) (fun k hk h => by have := n2 k hk; omega)
  have F6 := F5.trans f6 (by intro i hi e; omega)
  clear h5 F5 f6 r5
  go_wp2_with fail
  refine (pbytes_any _ _ _ _ h6 (by decide)).mono ?_
  rintro e w7 ⟨q7, rfl, b7, hq7, f7⟩
  have h7 := h6.fr f7 (fun h => h) (fun _ _ h => h)
  have r7 := r6.fr f7 (fun h => h) (fun h => h)
  have F7 := F6.trans' f7
  have es : strOf [0, 0, 1, 2, 9] = ⟨#[0, 0, 1, 2, 9]⟩ := by decide
  have hcv : (convert 22 9 (.slice (some ⟨q7, 0, none⟩) 5 5)).run Try.prog w7 = .ok (.string ⟨#[0, 0, 1, 2, 9]⟩) w7 := by rw [← es]; exact conv_bytes w7 q7 [0, 0, 1, 2, 9] 5 5 b7
  clear h6 F6 f7 es r6
  go_wp2_with fail
  refine (cat_any _ p3 q3 0 _ 5 r7).mono ?_
  rintro e w8 ⟨rfl, rfl⟩
  go_wp2_with fail
  refine (cleft_any _ p3 q3 0 _ 5 r7 (by decide)).mono ?_
  rintro e w8b ⟨rfl, k8, rfl⟩
  rw [show (([0, 0, 1, 2, 9].length - 5 : Nat) : Int) = 0 by decide]
  have h8 := h7.fr ((Fr.refl (fun _ => False) w8).drewN k8) (fun h => h) (fun _ _ h => h)
  have F8 := F7.drewN k8
  clear h7 F7 r7 hcv
  go_wp2_with fail
  refine (ppatch_any _ w.heap.size v2 _ 1 1 h8 (by decide)).mono ?_
  rintro e w9 ⟨rfl, g9⟩
  obtain ⟨v9, h9, F9, O9, _⟩ := g9.outer F8 (Nat.le_refl _) O2
  rw [show patchC [0, 0, 1, 2, 9] 1 1 = [0, 0, 0, 0, 1] by decide] at h9
  rw [show hasP [0, 0, 1, 2, 9].length 1 1 = true by decide]
  clear g9 h8 F8
  go_wp2_with fail
  refine (ppatch_any _ w.heap.size v9 _ 2 1 h9 (by decide)).mono ?_
  rintro e w10 ⟨rfl, g10⟩
  obtain ⟨v10, h10, F10, O10, _⟩ := g10.outer F9 (Nat.le_refl _) O9
  rw [show hasP [0, 0, 0, 0, 1].length 2 1 = false by decide]
  go_wp2
  go_ret
  exact ⟨rfl, F10⟩
end Go.Proofs.Ytdadoohkpjdlhaa
