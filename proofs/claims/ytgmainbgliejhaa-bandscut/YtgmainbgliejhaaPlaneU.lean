/-
  Package plane: the plane whose number at each place a function tells (told), with the functions of laid and of Turn.
-/
import Derived.Test.YtgmainbgliejhaaPlaneT
import Derived.Test.YtgmainbgliejhaaWeave
namespace Go.Proofs.Ytgmainbgliejhaa
open Go.RowKit Go.Shelf

attribute [local go_sem] Oper.semAt_some

theorem keepsO_of_fr {A B : World} (f : Fr (fun _ => False) A B) : KeepsOthers A B :=
  ⟨f.size, fun k _ hk _ => (f.block k (Array.getElem?_eq_some_iff.1 hk).1 (fun h => h)).trans hk⟩
theorem fr_of_grown {B : Nat} {A C : World} {row : Option Nat} (hg : A.grownBy C row) (hr : ∀ r, row = some r → B ≤ r ∧ ∃ o : Obj, A.heap[r]? = some o ∧ o.isCells = false) : Fr (fun j => B ≤ j) A C :=
  (Fr.refl _ A).grown hg (fun k e _ => (hr k e).1)
theorem fr_owned {B g : Nat} {A C D : World} {row : Option Nat} (f : Fr (fun j => j = g) A C) (hB : A.heap.size ≤ B) (hg : C.grownBy D row) (hr : ∀ r, row = some r → B ≤ r ∧ ∃ o : Obj, C.heap[r]? = some o ∧ o.isCells = false) : Fr (fun j => j = g) A D :=
  f.grown hg (fun k e hk => by have := (hr k e).1; omega)
/-- What is told of the first places. -/
def fillV {m : Nat} (G : Nat → Int) (pre : List (Spot m)) : Nat → Int := fun j => if j ∈ pre.map Subtype.val then G j else 0
theorem fillV_nil {m : Nat} (G : Nat → Int) (j : Nat) : fillV (m := m) G [] j = 0 := by simp [fillV]
theorem fillV_snoc {m : Nat} (G : Nat → Int) (pre : List (Spot m)) (p : Spot m) (j : Nat) : fillV G (pre ++ [p]) j = if j = p.1 then G p.1 else fillV G pre j := by
  unfold fillV
  rw [List.map_append, List.map_singleton]
  by_cases e : j = p.1
  · rw [if_pos e, if_pos (by simp [e]), e]
  · rw [if_neg e]
    have : (j ∈ pre.map Subtype.val ++ [p.1]) ↔ j ∈ pre.map Subtype.val := by
      rw [List.mem_append, List.mem_singleton]
      exact ⟨fun h => h.elim id (fun h => absurd h e), .inl⟩
    simp only [this]
theorem fillV_all {m : Nat} (G : Nat → Int) {xs : List (Spot m)} (h : Spots m xs) {j : Nat} (hj : j < m) : fillV G xs j = G j := by
  unfold fillV
  rw [if_pos ((h.mem j).2 hj)]

end Go.Proofs.Ytgmainbgliejhaa
