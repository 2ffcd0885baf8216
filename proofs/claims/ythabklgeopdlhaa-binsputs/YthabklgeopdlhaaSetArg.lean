/-
  A set (api.Set) that comes in as an argument, read.
-/
import Derived.Test.YthabklgeopdlhaaArgs
import Derived.Lib.SmallJoins
namespace Go.Proofs.Ythabklgeopdlhaa
open Go.ChangeShapes Go.WideShapes Go.ChangeAt Go.RowKit Go.Deep Go.Joins

theorem setIn_of {H : Type} {enc : TypeId × Value → H} {W : World} {r : Reach} {b0 : Nat} {v : Value} {d : DataW H} {ps : List MemPlace}
    (hv : Value.okWide Try.prog W r b0 24 v) (h : DataW.Trod enc Try.prog W 0 (fun _ => true) true 24 v d ps) :
    ∃ (a : Option Addr) (n cap : Nat) (V : Nat → Int) (D S : Int), v = .agg #[.slice a n cap, .int .i64 D, .int .i64 S] ∧ CellsIn W a n cap (fun i => .int .i64 (V i)) ∧ (∀ i, -9223372036854775808 ≤ V i ∧ V i ≤ 9223372036854775807) ∧ (-9223372036854775808 ≤ D ∧ D ≤ 9223372036854775807) ∧ (-9223372036854775808 ≤ S ∧ S ≤ 9223372036854775807) := by
  obtain ⟨c0, c1, c2, y0, y1, y2, m, rfl, rfl, rfl, hy0, hy1, hy2⟩ := open_agg3 Try.underlying24 (by kernel_rfl) (by kernel_rfl) hv h
  obtain ⟨x, e1, _, w1⟩ := DataW.trod_int Try.underlying3 hy1
  obtain ⟨z, e2, _, w2⟩ := DataW.trod_int Try.underlying3 hy2
  obtain ⟨a, n, cap, e0⟩ := slice_form Try.underlying22 hy0
  simp at e0 e1 e2
  subst e0 e1 e2
  have h0 : DataW.Trod enc Try.prog W 0 (fun _ => true) true 22 (.slice a n cap) y0.1 y0.2 := ⟨m, by simpa [Value.cells] using hy0⟩
  obtain ⟨V, c, b⟩ := intsIn_of h0
  exact ⟨a, n, cap, V, x, z, rfl, c, b, bounds_i64 w1, bounds_i64 w2⟩
end Go.Proofs.Ythabklgeopdlhaa
