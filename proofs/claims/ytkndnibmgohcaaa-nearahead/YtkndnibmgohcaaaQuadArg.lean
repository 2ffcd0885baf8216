/-
  Four numbers ([4]int) that come in as an argument, read.
-/
import Derived.Test.YtkndnibmgohcaaaArgs
import Derived.Lib.SmallJoins
namespace Go.Proofs.Ytkndnibmgohcaaa
open Go.ChangeShapes Go.WideShapes Go.ChangeAt Go.RowKit Go.Deep Go.Joins

theorem quadIn_of {H : Type} {enc : TypeId × Value → H} {P : Program} {W : World} {r : Reach} {b0 : Nat} {t e : TypeId} {q : IntKind} {v : Value} {d : DataW H} {ps : List MemPlace}
    (ht : P.underlying t = some (.array 4 e)) (he : P.underlying e = some (.int q)) (hce : P.cellsOf e = 1) (hct : P.cellsOf t = 4)
    (hv : Value.okWide P W r b0 t v) (h : DataW.Trod enc P W 0 (fun _ => true) true t v d ps) :
    ∃ x0 x1 x2 x3 : Int, v = .agg #[.int q x0, .int q x1, .int q x2, .int q x3] ∧ (Lit.int q x0).wf = true ∧ (Lit.int q x1).wf = true ∧ (Lit.int q x2).wf = true ∧ (Lit.int q x3).wf = true := by
  simp only [Value.okWide, ht] at hv
  obtain ⟨cs, rfl, hsz, _⟩ := hv
  obtain ⟨l⟩ := cs
  have hl : l.length = 4 := by simpa using hsz.trans hct
  match l, hl with
  | [c0, c1, c2, c3], _ =>
    obtain ⟨fuel, hf⟩ := h
    cases fuel with
    | zero => simp [DataW.trod] at hf
    | succ n =>
      unfold DataW.trod at hf
      rw [ht] at hf
      have r4 : List.range 4 = [0, 1, 2, 3] := rfl
      simp [r4, hce, Value.cells] at hf
      obtain ⟨_, hf⟩ := hf
      cases h0 : DataW.trod enc P W 0 (fun _ => true) true n e [c0] with
      | none => simp [h0] at hf
      | some y0 =>
        cases h1 : DataW.trod enc P W 0 (fun _ => true) true n e [c1] with
        | none => simp [h0, h1] at hf
        | some y1 =>
          cases h2 : DataW.trod enc P W 0 (fun _ => true) true n e [c2] with
          | none => simp [h0, h1, h2] at hf
          | some y2 =>
            cases h3 : DataW.trod enc P W 0 (fun _ => true) true n e [c3] with
            | none => simp [h0, h1, h2, h3] at hf
            | some y3 =>
              obtain ⟨x0, e0, _, w0⟩ := DataW.trod_int he h0
              obtain ⟨x1, e1, _, w1⟩ := DataW.trod_int he h1
              obtain ⟨x2, e2, _, w2⟩ := DataW.trod_int he h2
              obtain ⟨x3, e3, _, w3⟩ := DataW.trod_int he h3
              simp at e0 e1 e2 e3
              subst e0 e1 e2 e3
              exact ⟨x0, x1, x2, x3, rfl, w0, w1, w2, w3⟩
end Go.Proofs.Ytkndnibmgohcaaa
