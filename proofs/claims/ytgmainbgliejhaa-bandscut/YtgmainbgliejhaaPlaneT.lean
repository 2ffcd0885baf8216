/-
  Package plane: Points and what it tells, inside a range over it.
-/
import Derived.RangeFuncNested
import Derived.RangeFuncBound
import Derived.RangeFuncCalls
import Derived.RangeFuncLeaves
import Derived.Shelf.Abstract
import Derived.Shelf.RegionOpen
import Derived.WalkKit
import Derived.OwnWalkIn
import Derived.TacticsInMore
import Derived.LoopNIn
import Derived.LoopIn
import Derived.Test.YtgmainbgliejhaaPlaneA
namespace Go.Proofs.Ytgmainbgliejhaa
open Go.RowKit Go.Shelf

attribute [local go_sem] Oper.semAt_some

/-- A place of a plane of m numbers, told by its number in the row. -/
abbrev Spot (m : Nat) := { p : Nat // p < m }
def colI (x p : Nat) : Int := ((p % x : Nat) : Int)
def rowI (x p : Nat) : Int := ((p / x : Nat) : Int)
def spotV (x : Nat) {m : Nat} (p : Spot m) : Array Value := #[.int .i64 (colI x p.1), .int .i64 (rowI x p.1)]
theorem colI_flat {x k q : Nat} (h : q < x) : colI x (k * x + q) = (q : Int) := by rw [colI, flat_mod h]
theorem rowI_flat {x k q : Nat} (h : q < x) : rowI x (k * x + q) = (k : Int) := by rw [rowI, flat_div h]
/-- The first k places. -/
def Spots {m : Nat} (k : Nat) (pre : List (Spot m)) : Prop := pre.map Subtype.val = List.range k
theorem Spots.nil {m : Nat} : Spots (m := m) 0 [] := rfl
theorem Spots.snoc {m k : Nat} {pre : List (Spot m)} (h : Spots k pre) (hk : k < m) : Spots (k + 1) (pre ++ [⟨k, hk⟩]) := by
  unfold Spots at *; rw [List.map_append, h, List.range_succ]; rfl
theorem Spots.to {m k k' : Nat} {pre : List (Spot m)} (h : Spots k pre) (e : k = k') : Spots k' pre := e ▸ h
theorem Spots.len {m k : Nat} {pre : List (Spot m)} (h : Spots k pre) : pre.length = k := by
  have := congrArg List.length h; simpa using this
theorem Spots.mem {m k : Nat} {pre : List (Spot m)} (h : Spots k pre) (j : Nat) : j ∈ pre.map Subtype.val ↔ j < k := by rw [h]; simp

/-- What a round keeps of the iterator's own: the box of the width. -/
def KeepBox (bw : Nat) (A B : World) : Prop := B.heap[bw]? = A.heap[bw]?
theorem KeepBox.trans {bw : Nat} {A B C : World} (h : KeepBox bw A B) (k : KeepBox bw B C) : KeepBox bw A C := Eq.trans (Eq.trans k rfl) h
theorem KeepBox.put {bw s : Nat} (hb : bw < s) (W : World) (l : Nat) (o o' : Obj) (hl : s ≤ l) (_ : W.heap[l]? = some o) (_ : o.isCells = false) (_ : o.isWalk = false) : KeepBox bw W (W.putObj l o') :=
  World.putObj_heap_other (fun e => by omega)
theorem KeepBox.of_fr {S : Nat → Prop} {bw : Nat} {A B : World} (f : Fr S A B) (hb : bw < A.heap.size) (hn : ¬ S bw) : KeepBox bw A B := f.block bw hb hn

theorem wideIn_scope {c : Code} {n : Nat} {Q : Exit → Act → World → Prop} {a : Act} {w : World} {P : Program} (h : c.wpIn Fence.wide n P (Exit.noGoto Q) a w) : (Code.scope c).wpIn Fence.wide n P Q a w := wpIn_wide.2 (wp_scope_straight (wpIn_wide.1 h))

end Go.Proofs.Ytgmainbgliejhaa
