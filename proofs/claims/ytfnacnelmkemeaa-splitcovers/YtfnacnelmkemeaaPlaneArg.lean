/-
  A plane (api.Plane) and a pair of numbers that come in as arguments, read.
-/
import Derived.Test.YtfnacnelmkemeaaPlaneM
import Derived.Lib.SmallJoins
namespace Go.Proofs.Ytfnacnelmkemeaa
open Go.ChangeShapes Go.WideShapes Go.ChangeAt Go.RowKit Go.Deep Go.Joins

theorem pairIn_of {H : Type} {enc : TypeId × Value → H} {P : Program} {W : World} {r : Reach} {b0 : Nat} {t e : TypeId} {q : IntKind} {v : Value} {d : DataW H} {ps : List MemPlace}
    (ht : P.underlying t = some (.array 2 e)) (he : P.underlying e = some (.int q)) (hce : P.cellsOf e = 1) (hct : P.cellsOf t = 2)
    (hv : Value.okWide P W r b0 t v) (h : DataW.Trod enc P W 0 (fun _ => true) true t v d ps) :
    ∃ x0 x1 : Int, v = .agg #[.int q x0, .int q x1] ∧ (Lit.int q x0).wf = true ∧ (Lit.int q x1).wf = true := by
  simp only [Value.okWide, ht] at hv
  obtain ⟨cs, rfl, hsz, _⟩ := hv
  obtain ⟨c0, c1, rfl⟩ := array2 (hsz.trans hct)
  obtain ⟨fuel, hf⟩ := h
  cases fuel with
  | zero => simp [DataW.trod] at hf
  | succ n =>
    unfold DataW.trod at hf
    rw [ht] at hf
    have r2 : List.range 2 = [0, 1] := rfl
    simp [r2, hce, Value.cells] at hf
    obtain ⟨_, hf⟩ := hf
    cases h0 : DataW.trod enc P W 0 (fun _ => true) true n e [c0] with
    | none => simp [h0] at hf
    | some y0 =>
      cases h1 : DataW.trod enc P W 0 (fun _ => true) true n e [c1] with
      | none => simp [h0, h1] at hf
      | some y1 =>
        obtain ⟨x0, e0, _, w0⟩ := DataW.trod_int he h0
        obtain ⟨x1, e1, _, w1⟩ := DataW.trod_int he h1
        simp at e0 e1
        subst e0 e1
        exact ⟨x0, x1, rfl, w0, w1⟩
theorem u8_nat {x : Int} (h : (Lit.int .u8 x).wf = true) : ∃ k : Nat, x = (k : Int) ∧ k < 256 := by
  have := bounds_u8 h
  exact ⟨x.toNat, by omega, by omega⟩
end Go.Proofs.Ytfnacnelmkemeaa
