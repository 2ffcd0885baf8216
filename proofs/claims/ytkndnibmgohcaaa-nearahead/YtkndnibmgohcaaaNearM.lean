/-
  Sets of contexts in memory: what a call that makes one leaves (SetMade).
-/
import Derived.Test.YtkndnibmgohcaaaPlaneM
import Derived.Test.YtkndnibmgohcaaaPut3
namespace Go.Proofs.Ytkndnibmgohcaaa
open Go.RowKit

/-- A list of numbers as a function. -/
def listN (L : List Nat) : Nat → Int := fun j => ((L.getD j 0 : Nat) : Int)
/-- A set as a value, its numbers in a block of numbers that is not below B. -/
def SetAt (w : World) (v : Value) (B : Nat) (L : List Nat) (D S : Int) : Prop :=
  ∃ b, v = .agg #[.slice (some ⟨b, 0, none⟩) L.length L.length, .int .i64 D, .int .i64 S] ∧ Nums w (some ⟨b, 0, none⟩) L.length L.length (listN L) b ∧ B ≤ b ∧ IntB w b
theorem SetAt.quiet {w w' : World} {v : Value} {B : Nat} {L : List Nat} {D S : Int} (h : SetAt w v B L D S) (f : Fr (fun _ => False) w w') : SetAt w' v B L D S := by
  obtain ⟨b, e, hn, hb, hi⟩ := h
  exact ⟨b, e, hn.quiet f, hb, hi.quiet f⟩
/-- What a call that makes a set leaves: its numbers in new memory, all else as it was. -/
def SetMade (w w' : World) (e : Ending) (L : List Nat) (D S : Int) : Prop :=
  ∃ b, e = .returned (.agg #[.slice (some ⟨b, 0, none⟩) L.length L.length, .int .i64 D, .int .i64 S]) ∧ Nums w' (some ⟨b, 0, none⟩) L.length L.length (listN L) b ∧ (w.heap.size ≤ b ∧ IntB w' b) ∧ Fr (fun _ => False) w w'
theorem SetMade.at' {w w' : World} {e : Ending} {B : Nat} {L : List Nat} {D S : Int} (h : SetMade w w' e L D S) (hB : B ≤ w.heap.size) : ∃ v, e = .returned v ∧ SetAt w' v B L D S ∧ Fr (fun _ => False) w w' := by
  obtain ⟨b, he, hn, hb, f⟩ := h
  exact ⟨_, he, ⟨b, rfl, hn, by omega, hb.2⟩, f⟩
/-- Numbers that are written down, in a block of their own. -/
theorem Nums.listN (w : World) (b : Nat) (L : List Nat) (hL : L.length ≤ 1000) (hb : Blk w b (L.map fun (k : Nat) => Value.int .i64 (k : Int)).toArray 3) : Nums w (some ⟨b, 0, none⟩) L.length L.length (listN L) b := by
  refine ⟨Nat.le_refl _, by unfold maxLen; omega, fun _ => ⟨0, rfl, fun j hj => ?_⟩⟩
  rw [Nat.zero_add, hb.cell]
  simp [Go.Proofs.Ytkndnibmgohcaaa.listN, hj, List.getD]
theorem Try.size_set : (Try.prog.info? 26).map (·.size) = some 3 := by kernel_rfl
end Go.Proofs.Ytkndnibmgohcaaa
