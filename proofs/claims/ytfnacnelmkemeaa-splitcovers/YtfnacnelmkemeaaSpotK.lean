/-
  Places told by their number (an iterator's rounds), what a round keeps, frames out of what a round may do.
-/
import Derived.RangeFuncNested
import Derived.RangeFuncBound
import Derived.RangeFuncCalls
import Derived.RangeFuncLeaves
import Derived.Shelf.Abstract
import Derived.Shelf.RegionOpen
import Derived.WalkKit
import Derived.OwnWalkIn
import Derived.TacticsInMore
import Derived.LoopNIn
import Derived.LoopIn
import Derived.Test.YtfnacnelmkemeaaMem
namespace Go.Proofs.Ytfnacnelmkemeaa
open Go.RowKit Go.Shelf

/-- A place of a plane of m numbers, told by its number in the row. -/
abbrev Spot (m : Nat) := { p : Nat // p < m }
/-- The first k places. -/
def Spots {m : Nat} (k : Nat) (pre : List (Spot m)) : Prop := pre.map Subtype.val = List.range k
theorem Spots.nil {m : Nat} : Spots (m := m) 0 [] := rfl
theorem Spots.snoc {m k : Nat} {pre : List (Spot m)} (h : Spots k pre) (hk : k < m) : Spots (k + 1) (pre ++ [⟨k, hk⟩]) := by
  unfold Spots at *; rw [List.map_append, h, List.range_succ]; rfl
theorem Spots.to {m k k' : Nat} {pre : List (Spot m)} (h : Spots k pre) (e : k = k') : Spots k' pre := e ▸ h
theorem Spots.len {m k : Nat} {pre : List (Spot m)} (h : Spots k pre) : pre.length = k := by
  have := congrArg List.length h; simpa using this
theorem Spots.mem {m k : Nat} {pre : List (Spot m)} (h : Spots k pre) (j : Nat) : j ∈ pre.map Subtype.val ↔ j < k := by rw [h]; simp

/-- What a round keeps of the iterator's own: the box of the width. -/
def KeepBox (bw : Nat) (A B : World) : Prop := B.heap[bw]? = A.heap[bw]?
theorem KeepBox.trans {bw : Nat} {A B C : World} (h : KeepBox bw A B) (k : KeepBox bw B C) : KeepBox bw A C := Eq.trans (Eq.trans k rfl) h
theorem KeepBox.put {bw s : Nat} (hb : bw < s) (W : World) (l : Nat) (o o' : Obj) (hl : s ≤ l) (_ : W.heap[l]? = some o) (_ : o.isCells = false) (_ : o.isWalk = false) : KeepBox bw W (W.putObj l o') :=
  World.putObj_heap_other (fun e => by omega)
theorem KeepBox.of_fr {S : Nat → Prop} {bw : Nat} {A B : World} (f : Fr S A B) (hb : bw < A.heap.size) (hn : ¬ S bw) : KeepBox bw A B := f.block bw hb hn

theorem wideIn_scope {c : Code} {n : Nat} {Q : Exit → Act → World → Prop} {a : Act} {w : World} {P : Program} (h : c.wpIn Fence.wide n P (Exit.noGoto Q) a w) : (Code.scope c).wpIn Fence.wide n P Q a w := wpIn_wide.2 (wp_scope_straight (wpIn_wide.1 h))

theorem fr_of_grown {B : Nat} {A C : World} {row : Option Nat} (hg : A.grownBy C row) (hr : ∀ r, row = some r → B ≤ r ∧ ∃ o : Obj, A.heap[r]? = some o ∧ o.isCells = false) : Fr (fun j => B ≤ j) A C :=
  (Fr.refl _ A).grown hg (fun k e _ => (hr k e).1)
theorem fr_owned {B g : Nat} {A C D : World} {row : Option Nat} (f : Fr (fun j => j = g) A C) (hB : A.heap.size ≤ B) (hg : C.grownBy D row) (hr : ∀ r, row = some r → B ≤ r ∧ ∃ o : Obj, C.heap[r]? = some o ∧ o.isCells = false) : Fr (fun j => j = g) A D :=
  f.grown hg (fun k e hk => by have := (hr k e).1; omega)
theorem grown_of_fr {A B : World} (f : Fr (fun _ => False) A B) : A.grownBy B none := ⟨f.os, f.tape, f.output, f.size, fun k hk _ => f.block k hk (fun h => h)⟩
theorem owns_grown {A C : World} {row : Option Nat} {base : Nat} {e : TypeId} {size : Nat} {v : Value} {n : Nat} {xs : List Value} (h : A.ownsRow base e size v n xs) (hg : A.grownBy C row) (hr : ∀ r, row = some r → ∃ o : Obj, A.heap[r]? = some o ∧ o.isCells = false) : C.ownsRow base e size v n xs := by
  refine h.kept hg ?_
  rcases h.2 with ⟨rfl, _⟩ | ⟨g, cap, cur, rfl, _, hgb, _⟩
  · exact .inl rfl
  · refine .inr fun e' => ?_
    obtain ⟨o, ho, hc⟩ := hr g (by simpa [Value.ownBlock] using e'.symm)
    rw [hgb] at ho; cases ho; cases hc
theorem blk_grown {A C : World} {row : Option Nat} {p : Nat} {cs : Array Value} {t : TypeId} (h : Blk A p cs t) (hg : A.grownBy C row) (hr : ∀ r, row = some r → ∃ o : Obj, A.heap[r]? = some o ∧ o.isCells = false) : Blk C p cs t := by
  refine h.of_block (hg.block p h.lt fun e => ?_)
  obtain ⟨o, ho, hc⟩ := hr p e.symm
  rw [show A.heap[p]? = _ from h] at ho; cases ho; cases hc
theorem ownsRow_lower' {w : World} {base base' : Nat} {e : TypeId} {size : Nat} {v : Value} {n : Nat} {xs : List Value} (h : w.ownsRow base e size v n xs) (hb : base' ≤ base) : w.ownsRow base' e size v n xs := by
  refine ⟨h.1, ?_⟩
  rcases h.2 with h2 | ⟨g, cap, cur, e1, h3, r⟩
  · exact .inl h2
  · exact .inr ⟨g, cap, cur, e1, Nat.le_trans hb h3, r⟩
end Go.Proofs.Ytfnacnelmkemeaa
