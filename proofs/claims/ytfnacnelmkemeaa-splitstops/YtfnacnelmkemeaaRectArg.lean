/-
  An api.Rect as an argument.
-/
import Derived.Test.YtfnacnelmkemeaaBandArg
namespace Go.Proofs.Ytfnacnelmkemeaa
open Go.ChangeShapes Go.WideShapes Go.ChangeAt Go.RowKit Go.Deep

theorem rectIn_of {H : Type} {enc : TypeId × Value → H} {W : World} {r : Reach} {b0 : Nat} {v : Value} {d : DataW H} {ps : List MemPlace}
    (hv : Value.okWide Try.prog W r b0 28 v) (h : DataW.Trod enc Try.prog W 0 (fun _ => true) true 28 v d ps) :
    ∃ x0 x1 x2 x3 : Int, v = .agg #[.int .i64 x0, .int .i64 x1, .int .i64 x2, .int .i64 x3] ∧ (-9223372036854775808 ≤ x0 ∧ x0 ≤ 9223372036854775807) ∧ (-9223372036854775808 ≤ x1 ∧ x1 ≤ 9223372036854775807) ∧ (-9223372036854775808 ≤ x2 ∧ x2 ≤ 9223372036854775807) ∧ (-9223372036854775808 ≤ x3 ∧ x3 ≤ 9223372036854775807) := by
  obtain ⟨cs, rfl, hsz, hf⟩ := open_fields Try.underlying28 (by kernel_rfl) (by kernel_rfl) hv h
  obtain ⟨x0, e0, q0⟩ := field_int hf 0 _ rfl rfl
  obtain ⟨x1, e1, q1⟩ := field_int hf 1 _ rfl rfl
  obtain ⟨x2, e2, q2⟩ := field_int hf 2 _ rfl rfl
  obtain ⟨x3, e3, q3⟩ := field_int hf 3 _ rfl rfl
  refine ⟨x0, x1, x2, x3, ?_, q0, q1, q2, q3⟩
  congr 1
  apply Array.ext'
  obtain ⟨l⟩ := cs
  match l, hsz with
  | [c0, c1, c2, c3], _ =>
    simp at e0 e1 e2 e3
    subst e0 e1 e2 e3
    rfl
end Go.Proofs.Ytfnacnelmkemeaa
