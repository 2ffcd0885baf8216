/-
  A struct whose fields are of one cell each, and a band (api.Band), that come in as arguments, read.
-/
import Derived.Test.YtfnacnelmkemeaaArgs
import Derived.Lib.SmallJoins
namespace Go.Proofs.Ytfnacnelmkemeaa
open Go.ChangeShapes Go.WideShapes Go.ChangeAt Go.RowKit Go.Deep Go.Joins

theorem open_fields {H : Type} {enc : TypeId × Value → H} {P : Program} {w : World} {base : Nat} {spare : Nat → Bool} {held : Bool} {r : Reach} {b0 : Nat} {t : TypeId} {fs : Array Field} {v : Value} {d : DataW H} {p : List MemPlace}
    (hs : P.underlying t = some (.struct fs)) (hone : oneCellFields P fs = true) (hC : P.cellsOf t = fs.size) (hv : Value.okWide P w r b0 t v) (h : DataW.Trod enc P w base spare held t v d p) :
    ∃ cs : Array Value, v = .agg cs ∧ cs.size = fs.size ∧ ∀ (i : Nat) (f : Field), fs[i]? = some f → ∃ (c : Value) (y : DataW H × List MemPlace) (n : Nat), cs[i]? = some c ∧ DataW.trod enc P w base spare held n f.type [c] = some y := by
  obtain ⟨cs, rfl, hsz⟩ := okWide_struct hs hv
  obtain ⟨fuel, hf⟩ := h
  obtain ⟨xs, n, _, _, _, hlen, hf⟩ := DataW.trod_struct hs hf
  refine ⟨cs, rfl, hsz.trans hC, fun i f hi => ?_⟩
  obtain ⟨o, k⟩ := hone_of hone i f hi
  have hlt : i < fs.size := (Array.getElem?_eq_some_iff.1 hi).1
  have hlc : i < cs.size := by rw [hsz, hC]; exact hlt
  have hx : xs[i]? = some (xs[i]'(by omega)) := List.getElem?_eq_getElem _
  have hcs : cs[i]? = some cs[i] := Array.getElem?_eq_getElem hlc
  refine ⟨cs[i], xs[i]'(by omega), n, hcs, ?_⟩
  have := hf i f hi
  rw [o, k, hx] at this
  have e : (Value.cells (.agg cs)).toList.drop i = cs[i] :: cs.toList.drop (i + 1) := by
    show cs.toList.drop i = _
    rw [List.drop_eq_getElem_cons (by simpa using hlc)]
    simp
  rw [e] at this
  simpa using this
/-- One number of a struct. -/
theorem field_int {H : Type} {enc : TypeId × Value → H} {W : World} {spare : Nat → Bool} {held : Bool} {base : Nat} {cs : Array Value} {fs : Array Field}
    (h : ∀ (i : Nat) (f : Field), fs[i]? = some f → ∃ (c : Value) (y : DataW H × List MemPlace) (n : Nat), cs[i]? = some c ∧ DataW.trod enc Try.prog W base spare held n f.type [c] = some y)
    (i : Nat) (f : Field) (hi : fs[i]? = some f) (ht : f.type = 3) : ∃ x : Int, cs[i]? = some (.int .i64 x) ∧ (-9223372036854775808 ≤ x ∧ x ≤ 9223372036854775807) := by
  obtain ⟨c, y, n, hc, hy⟩ := h i f hi
  rw [ht] at hy
  obtain ⟨x, e1, _, w1⟩ := DataW.trod_int Try.underlying3 hy
  simp at e1
  subst e1
  exact ⟨x, hc, bounds_i64 w1⟩
end Go.Proofs.Ytfnacnelmkemeaa
