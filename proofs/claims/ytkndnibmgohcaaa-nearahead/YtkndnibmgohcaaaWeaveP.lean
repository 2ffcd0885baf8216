/-
  Facts of planes that stay while memory is only laid.
-/
import Derived.Test.YtkndnibmgohcaaaPlaneM
import Derived.Test.YtkndnibmgohcaaaWeave
namespace Go.Proofs.Ytkndnibmgohcaaa
open Go.RowKit

def StayP.plane (X Y : Int) (n : Nat) (V : Nat → Int) : StayP := ⟨fun v w => PlaneAt w v X Y n V, fun h f => h.quiet f⟩
def RowAt (w : World) (v : Value) (n : Nat) (V : Nat → Int) : Prop := ∃ g, v = .slice (some ⟨g, 0, none⟩) n n ∧ Row w g n V
theorem RowAt.quiet {w w' : World} {v : Value} {n : Nat} {V : Nat → Int} (h : RowAt w v n V) (f : Fr (fun _ => False) w w') : RowAt w' v n V := by
  obtain ⟨g, e, r⟩ := h
  exact ⟨g, e, r.quiet f⟩
def StayP.row (n : Nat) (V : Nat → Int) : StayP := ⟨fun v w => RowAt w v n V, fun h f => h.quiet f⟩
/-- A block of one cell, or more, made by an operation. -/
def BoxAt (w : World) (v : Value) (B : Nat) (cs : Array Value) (t : TypeId) : Prop := ∃ b, v = .pointer (some ⟨b, 0, none⟩) ∧ Blk w b cs t ∧ B ≤ b
theorem BoxAt.quiet {w w' : World} {v : Value} {B : Nat} {cs : Array Value} {t : TypeId} (h : BoxAt w v B cs t) (f : Fr (fun _ => False) w w') : BoxAt w' v B cs t := by
  obtain ⟨b, e, r, hb⟩ := h
  exact ⟨b, e, r.fr f (fun h => h), hb⟩
def StayP.box (B : Nat) (cs : Array Value) (t : TypeId) : StayP := ⟨fun v w => BoxAt w v B cs t, fun h f => h.quiet f⟩
theorem Row.of_blk {w : World} {g : Nat} {l : List Int} (h : Blk w g (l.map (Value.int .i64)).toArray 3) : Row w g l.length (fun j => l.getD j 0) :=
  ⟨_, h, by simp, fun j hj => by simp [hj, List.getD]⟩
end Go.Proofs.Ytkndnibmgohcaaa
