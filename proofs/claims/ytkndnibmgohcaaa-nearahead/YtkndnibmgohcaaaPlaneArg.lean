/-
  A plane (api.Plane) and a pair of numbers that come in as arguments, read.
-/
import Derived.Test.YtkndnibmgohcaaaPlaneM
import Derived.Lib.SmallJoins
namespace Go.Proofs.Ytkndnibmgohcaaa
open Go.ChangeShapes Go.WideShapes Go.ChangeAt Go.RowKit Go.Deep Go.Joins

theorem planeIn_of {H : Type} {enc : TypeId × Value → H} {W : World} {r : Reach} {b0 : Nat} {v : Value} {d : DataW H} {ps : List MemPlace}
    (hv : Value.okWide Try.prog W r b0 31 v) (h : DataW.Trod enc Try.prog W 0 (fun _ => true) true 31 v d ps) :
    ∃ (X Y : Int) (a : Option Addr) (n cap : Nat) (V : Nat → Int), v = .agg #[.int .i64 X, .int .i64 Y, .slice a n cap] ∧ CellsIn W a n cap (fun i => .int .i64 (V i)) ∧ (∀ i, -9223372036854775808 ≤ V i ∧ V i ≤ 9223372036854775807) ∧ (-9223372036854775808 ≤ X ∧ X ≤ 9223372036854775807) ∧ (-9223372036854775808 ≤ Y ∧ Y ≤ 9223372036854775807) := by
  obtain ⟨c0, c1, c2, y0, y1, y2, m, rfl, rfl, rfl, hy0, hy1, hy2⟩ := open_agg3 Try.underlying31 (by kernel_rfl) (by kernel_rfl) hv h
  obtain ⟨x, e1, _, w1⟩ := DataW.trod_int Try.underlying3 hy0
  obtain ⟨z, e2, _, w2⟩ := DataW.trod_int Try.underlying3 hy1
  obtain ⟨a, n, cap, e0⟩ := slice_form Try.underlying24 hy2
  simp at e0 e1 e2
  subst e0 e1 e2
  have h0 : DataW.Trod enc Try.prog W 0 (fun _ => true) true 24 (.slice a n cap) y2.1 y2.2 := ⟨m, by simpa [Value.cells] using hy2⟩
  obtain ⟨V, c, b⟩ := intsIn_of h0
  exact ⟨x, z, a, n, cap, V, rfl, c, b, bounds_i64 w1, bounds_i64 w2⟩

theorem pairIn_of {H : Type} {enc : TypeId × Value → H} {P : Program} {W : World} {r : Reach} {b0 : Nat} {t e : TypeId} {q : IntKind} {v : Value} {d : DataW H} {ps : List MemPlace}
    (ht : P.underlying t = some (.array 2 e)) (he : P.underlying e = some (.int q)) (hce : P.cellsOf e = 1) (hct : P.cellsOf t = 2)
    (hv : Value.okWide P W r b0 t v) (h : DataW.Trod enc P W 0 (fun _ => true) true t v d ps) :
    ∃ x0 x1 : Int, v = .agg #[.int q x0, .int q x1] ∧ (Lit.int q x0).wf = true ∧ (Lit.int q x1).wf = true := by
  simp only [Value.okWide, ht] at hv
  obtain ⟨cs, rfl, hsz, _⟩ := hv
  obtain ⟨c0, c1, rfl⟩ := array2 (hsz.trans hct)
  obtain ⟨fuel, hf⟩ := h
  cases fuel with
  | zero => simp [DataW.trod] at hf
  | succ n =>
    unfold DataW.trod at hf
    rw [ht] at hf
    have r2 : List.range 2 = [0, 1] := rfl
    simp [r2, hce, Value.cells] at hf
    obtain ⟨_, hf⟩ := hf
    cases h0 : DataW.trod enc P W 0 (fun _ => true) true n e [c0] with
    | none => simp [h0] at hf
    | some y0 =>
      cases h1 : DataW.trod enc P W 0 (fun _ => true) true n e [c1] with
      | none => simp [h0, h1] at hf
      | some y1 =>
        obtain ⟨x0, e0, _, w0⟩ := DataW.trod_int he h0
        obtain ⟨x1, e1, _, w1⟩ := DataW.trod_int he h1
        simp at e0 e1
        subst e0 e1
        exact ⟨x0, x1, rfl, w0, w1⟩
theorem u8_nat {x : Int} (h : (Lit.int .u8 x).wf = true) : ∃ k : Nat, x = (k : Int) ∧ k < 256 := by
  have := bounds_u8 h
  exact ⟨x.toNat, by omega, by omega⟩
end Go.Proofs.Ytkndnibmgohcaaa
