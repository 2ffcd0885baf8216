/-
  Law package 3: scripts that come in, read.
-/
import Derived.Test.YtdadoohkpjdlhaaArgs
import Derived.Test.YtdadoohkpjdlhaaRead3
import Derived.Lib.SmallJoins
namespace Go.Proofs.Ytdadoohkpjdlhaa
open Go.ChangeShapes Go.WideShapes Go.ChangeAt Go.RowKit Go.Deep

theorem Try.cells_int : Try.prog.cellsOf 3 = 1 := by kernel_rfl
theorem Try.cells_op : Try.prog.cellsOf 31 = 2 := by kernel_rfl

theorem isOps_of {H : Type} {enc : TypeId × Value → H} {W : World} {a : Option Addr} {len cap : Nat} {d : DataW H} {ps : List MemPlace}
    (h : DataW.Trod enc Try.prog W 0 (fun _ => true) true 23 (.slice a len cap) d ps) : ∃ K N, IsOps W a len K N := by
  obtain ⟨C, h0, hC⟩ := structsIn_of Try.underlying23 (by rw [Try.cells_op]; decide) h
  rw [Try.cells_op] at h0
  have key : ∀ i, i < len → ∃ t : Int × Int, C i = [.int .i64 t.1, .int .i64 t.2] ∧ (Lit.int .i64 t.1).wf = true ∧ (Lit.int .i64 t.2).wf = true := by
    intro i hi
    obtain ⟨n, y, hl, ht⟩ := hC i hi
    rw [Try.cells_op] at hl
    obtain ⟨y0, y1, n', _, _, t0, t1⟩ := trod_struct2 Try.underlying31 ht
    match e : C i, hl with
    | [v0, v1], _ =>
      rw [e] at t0 t1
      obtain ⟨k0, e0, _, w0⟩ := DataW.trod_int Try.underlying3 t0
      obtain ⟨k1, e1, _, w1⟩ := DataW.trod_int Try.underlying3 t1
      simp [Try.cells_int] at e0 e1
      subst e0 e1
      exact ⟨(k0, k1), rfl, w0, w1⟩
  obtain ⟨f, hf⟩ := choose_lt key
  refine ⟨fun i => (f i).1, fun i => (f i).2, ?_⟩
  rcases h0 with h0 | ⟨b, off, rfl, hm, hc⟩
  · exact .inl h0
  · refine .inr ⟨b, off, rfl, hm, fun i hi => ?_⟩
    obtain ⟨e, w0, w1⟩ := hf i hi
    have c0 := hc i hi 0 (by decide)
    have c1 := hc i hi 1 (by decide)
    rw [e] at c0 c1
    have b0 := bounds_i64 w0
    have b1 := bounds_i64 w1
    exact ⟨by simpa using c0, by simpa using c1, b0.1, b0.2, b1.1, b1.2⟩
end Go.Proofs.Ytdadoohkpjdlhaa
