/-
  A struct of three cells, stored.
-/
import Derived.Test.YtkndnibmgohcaaaFrame
namespace Go.Proofs.Ytkndnibmgohcaaa
open Go.RowKit

/-- A struct of three cells, stored. -/
def stored3 (w : World) (r : Nat) (x y z : Value) : World := ((w.setCell ⟨r, 0, none⟩ x).setCell ⟨r, 1, none⟩ y).setCell ⟨r, 2, none⟩ z
theorem Blk.put3 {w : World} {r : Nat} {a b c : Value} {t : TypeId} (h : Blk w r #[a, b, c] t) (x y z : Value) : Blk (stored3 w r x y z) r #[x, y, z] t := by
  unfold stored3
  simpa using ((h.set 0 x).set 1 y).set 2 z
theorem Fr.put3 {S : Nat → Prop} {a w : World} (h : Fr S a w) {r : Nat} (hr : r < a.heap.size → S r) (x y z : Value) : Fr S a (stored3 w r x y z) :=
  ((h.setCell (p := ⟨r, 0, none⟩) hr _).setCell (p := ⟨r, 1, none⟩) hr _).setCell (p := ⟨r, 2, none⟩) hr _
theorem Fr.put3New {a w : World} (h : Fr (fun _ => False) a w) {r : Nat} (hr : a.heap.size ≤ r) (x y z : Value) : Fr (fun _ => False) a (stored3 w r x y z) := h.put3 (fun hl => absurd (show r < a.heap.size from hl) (by omega)) x y z
theorem fr_put3 (w : World) (r : Nat) (x y z : Value) : Fr (fun j => j = r) w (stored3 w r x y z) := (Fr.refl (fun j => j = r) w).put3 (fun _ => rfl) x y z
end Go.Proofs.Ytkndnibmgohcaaa
