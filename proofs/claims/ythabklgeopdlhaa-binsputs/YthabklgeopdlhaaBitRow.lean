/-
  Bits of contexts as the cells of a row.
-/
import Derived.Test.YthabklgeopdlhaaMem
namespace Go.Proofs.Ythabklgeopdlhaa

/-- Bits of contexts as the cells of a row. -/
def bitRow (l : List (Int × Bool)) : List Value := l.flatMap fun x => [.int .i64 x.1, .bool x.2]
theorem bitRow_length (l : List (Int × Bool)) : (bitRow l).length = l.length * 2 := by
  induction l with
  | nil => rfl
  | cons x l ih => simp only [bitRow, List.flatMap_cons, List.length_append, List.length_cons, List.length_nil] at *; omega
theorem bitRow_snoc (l : List (Int × Bool)) (x : Int × Bool) : bitRow (l ++ [x]) = bitRow l ++ [.int .i64 x.1, .bool x.2] := by simp [bitRow]
theorem bitRow_get (l : List (Int × Bool)) : ∀ (i : Nat) (h : i < l.length), (bitRow l)[i * 2]? = some (.int .i64 l[i].1) ∧ (bitRow l)[i * 2 + 1]? = some (.bool l[i].2) := by
  induction l with
  | nil => intro i h; simp at h
  | cons x l ih =>
    intro i h
    have e : bitRow (x :: l) = [.int .i64 x.1, .bool x.2] ++ bitRow l := by simp [bitRow]
    rw [e]
    cases i with
    | zero => exact ⟨rfl, rfl⟩
    | succ i =>
      have := ih i (by simpa using h)
      rw [show (i + 1) * 2 = i * 2 + 2 by omega, List.getElem?_append_right (by simp), List.getElem?_append_right (by simp)]
      exact ⟨by simpa using this.1, by simpa using this.2⟩
theorem bitRow_one (l : List (Int × Bool)) : ∀ u ∈ bitRow l, u.oneCell' = true := by
  intro u hu
  simp only [bitRow, List.mem_flatMap] at hu
  obtain ⟨x, _, hx⟩ := hu
  simp at hx
  rcases hx with rfl | rfl <;> rfl

end Go.Proofs.Ythabklgeopdlhaa
