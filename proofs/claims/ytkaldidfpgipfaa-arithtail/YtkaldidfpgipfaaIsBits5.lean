/-
  Law package 5: bits of contexts that come in, read.
-/
import Derived.Test.YtkaldidfpgipfaaArgs
import Derived.Lib.SmallJoins
namespace Go.Proofs.Ytkaldidfpgipfaa
open Go.ChangeShapes Go.WideShapes Go.ChangeAt Go.RowKit Go.Deep

/-- Bits of contexts that came in. -/
def IsBits (w : World) (a : Option Addr) (len : Nat) (C : Nat → Int) (B : Nat → Bool) : Prop :=
  len = 0 ∨ ∃ b off, a = some ⟨b, off, none⟩ ∧ len ≤ maxLen ∧ ∀ i, i < len → w.cell? ⟨b, off + i * 2, none⟩ = some (.int .i64 (C i)) ∧ w.cell? ⟨b, off + i * 2 + 1, none⟩ = some (.bool (B i)) ∧
    -9223372036854775808 ≤ C i ∧ C i ≤ 9223372036854775807

theorem Try.cells_int5 : Try.prog.cellsOf 3 = 1 := by kernel_rfl
theorem Try.cells_bool5 : Try.prog.cellsOf 4 = 1 := by kernel_rfl
theorem Try.cells_bit5 : Try.prog.cellsOf 29 = 2 := by kernel_rfl

theorem isBits_of {H : Type} {enc : TypeId × Value → H} {W : World} {a : Option Addr} {len cap : Nat} {d : DataW H} {ps : List MemPlace}
    (h : DataW.Trod enc Try.prog W 0 (fun _ => true) true 22 (.slice a len cap) d ps) : ∃ C B, IsBits W a len C B := by
  obtain ⟨C, h0, hC⟩ := structsIn_of Try.underlying22 (by rw [Try.cells_bit5]; decide) h
  rw [Try.cells_bit5] at h0
  have key : ∀ i, i < len → ∃ t : Int × Bool, C i = [.int .i64 t.1, .bool t.2] ∧ (Lit.int .i64 t.1).wf = true := by
    intro i hi
    obtain ⟨n, y, hl, ht⟩ := hC i hi
    rw [Try.cells_bit5] at hl
    obtain ⟨y0, y1, n', _, _, t0, t1⟩ := trod_struct2 Try.underlying29 ht
    match e : C i, hl with
    | [v0, v1], _ =>
      rw [e] at t0 t1
      obtain ⟨k0, e0, _, w0⟩ := DataW.trod_int Try.underlying3 t0
      obtain ⟨k1, e1, _⟩ := DataW.trod_bool Try.underlying4 t1
      simp [Try.cells_int5] at e0
      simp [Try.cells_bool5] at e1
      subst e0 e1
      exact ⟨(k0, k1), rfl, w0⟩
  obtain ⟨f, hf⟩ := choose_lt key
  refine ⟨fun i => (f i).1, fun i => (f i).2, ?_⟩
  rcases h0 with h0 | ⟨b, off, rfl, hm, hc⟩
  · exact .inl h0
  · refine .inr ⟨b, off, rfl, hm, fun i hi => ?_⟩
    obtain ⟨e, w0⟩ := hf i hi
    have c0 := hc i hi 0 (by decide)
    have c1 := hc i hi 1 (by decide)
    rw [e] at c0 c1
    have b0 := bounds_i64 w0
    exact ⟨by simpa using c0, by simpa using c1, b0.1, b0.2⟩
end Go.Proofs.Ytkaldidfpgipfaa
