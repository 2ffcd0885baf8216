/-
  Law package 3: a script of what is written, read.
-/
import Derived.Test.YtdadoohkpjdlhaaArgs
import Derived.Test.YtdadoohkpjdlhaaWrite3
import Derived.Lib.SmallJoins
namespace Go.Proofs.Ytdadoohkpjdlhaa
open Go.ChangeShapes Go.WideShapes Go.ChangeAt Go.RowKit Go.Deep

theorem Try.cells_put : Try.prog.cellsOf 49 = 4 := by kernel_rfl
theorem Try.cells_int' : Try.prog.cellsOf 3 = 1 := by kernel_rfl
theorem Try.cells_bytes : Try.prog.cellsOf 22 = 1 := by kernel_rfl

theorem isPuts_of {H : Type} {enc : TypeId × Value → H} {W : World} {a : Option Addr} {len cap : Nat} {d : DataW H} {ps : List MemPlace}
    (h : DataW.Trod enc Try.prog W 0 (fun _ => true) true 44 (.slice a len cap) d ps) : ∃ K V T A L C Z, IsPuts W a len K V T A L C Z := by
  obtain ⟨C, h0, hC⟩ := structsIn_of Try.underlying44 (by rw [Try.cells_put]; decide) h
  rw [Try.cells_put] at h0
  have key : ∀ i, i < len → ∃ t : Int × Int × Int × (Option Addr × Nat × Nat × List Nat), C i = [.int .i64 t.1, .int .i64 t.2.1, .int .i64 t.2.2.1, .slice t.2.2.2.1 t.2.2.2.2.1 t.2.2.2.2.2.1] ∧ (Lit.int .i64 t.1).wf = true ∧ (Lit.int .i64 t.2.1).wf = true ∧ (Lit.int .i64 t.2.2.1).wf = true ∧
      t.2.2.2.2.2.2.length = t.2.2.2.2.1 ∧ (∀ z ∈ t.2.2.2.2.2.2, z < 256) ∧ CellsIn W t.2.2.2.1 t.2.2.2.2.1 t.2.2.2.2.2.1 (fun j => .int .u8 ((t.2.2.2.2.2.2.getD j 0 : Nat) : Int)) := by
    intro i hi
    obtain ⟨n, y, hl, ht⟩ := hC i hi
    rw [Try.cells_put] at hl
    obtain ⟨y0, y1, y2, y3, n', _, _, t0, t1, t2, t3⟩ := Go.Joins.trod_struct4 Try.underlying49 ht
    match e : C i, hl with
    | [v0, v1, v2, v3], _ =>
      rw [e] at t0 t1 t2 t3
      obtain ⟨k0, e0, _, w0⟩ := DataW.trod_int Try.underlying3 t0
      obtain ⟨k1, e1, _, w1⟩ := DataW.trod_int Try.underlying3 t1
      obtain ⟨k2, e2, _, w2⟩ := DataW.trod_int Try.underlying3 t2
      simp [Try.cells_int'] at e0 e1 e2
      simp [Try.cells_bytes] at t3
      subst e0 e1 e2
      have hv : ∃ a l c, v3 = .slice a l c := by
        rcases open_ints Try.underlying22 Try.underlying5 (by kernel_rfl) t3 with ⟨hcs, _⟩ | ⟨x, l, c, _, hcs, _⟩
        · exact ⟨none, 0, 0, by simpa using hcs⟩
        · exact ⟨some x, l, c, by simpa using hcs⟩
      obtain ⟨a3, l3, c3, rfl⟩ := hv
      obtain ⟨zs, hl, hs, hc⟩ := bytesIn_of (a := a3) (len := l3) (cap := c3) (d := y3.1) (ps := y3.2) ⟨n', t3⟩
      exact ⟨(k0, k1, k2, a3, l3, c3, zs), rfl, w0, w1, w2, hl, hs, hc⟩
  obtain ⟨f, hf⟩ := choose_lt key
  refine ⟨fun i => (f i).1, fun i => (f i).2.1, fun i => (f i).2.2.1, fun i => (f i).2.2.2.1, fun i => (f i).2.2.2.2.1, fun i => (f i).2.2.2.2.2.1, fun i => (f i).2.2.2.2.2.2, ?_⟩
  rcases h0 with h0 | ⟨b, off, rfl, hm, hc⟩
  · exact .inl h0
  · refine .inr ⟨b, off, rfl, hm, fun i hi => ?_⟩
    obtain ⟨e, w0, w1, w2, r⟩ := hf i hi
    have c0 := hc i hi 0 (by decide)
    have c1 := hc i hi 1 (by decide)
    have c2 := hc i hi 2 (by decide)
    have c3 := hc i hi 3 (by decide)
    rw [e] at c0 c1 c2 c3
    exact ⟨⟨by simpa using c0, by simpa using c1, by simpa using c2, by simpa using c3⟩, bounds_i64 w0, bounds_i64 w1, bounds_i64 w2, r⟩
end Go.Proofs.Ytdadoohkpjdlhaa
