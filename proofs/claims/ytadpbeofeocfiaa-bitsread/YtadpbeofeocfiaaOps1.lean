/-
  Law package 1: a script of operations, read.
-/
import Derived.Test.YtadpbeofeocfiaaRows
import Derived.Test.YtadpbeofeocfiaaBack1
import Derived.ProofKit
import Derived.OpenShut
import Derived.ShutString
import Derived.ChangeOld
import Derived.Deep.Slices
import Derived.Deep.Strs
namespace Go.Proofs.Ytadpbeofeocfiaa
open Go.ChangeShapes Go.WideShapes Go.ChangeAt Go.RowKit Go.Deep

theorem Try.cells_int : Try.prog.cellsOf 3 = 1 := by kernel_rfl
theorem Try.cells_u64 : Try.prog.cellsOf 28 = 1 := by kernel_rfl
theorem Try.cells_op : Try.prog.cellsOf 30 = 3 := by kernel_rfl
theorem own : ownKnob Try.prog.godebug = none := by kernel_rfl
theorem laidOut : laidOutB Try.prog = true := by kernel_rfl

theorem isOps_of {H : Type} {enc : TypeId × Value → H} {W : World} {a : Option Addr} {len cap : Nat} {d : DataW H} {ps : List MemPlace}
    (h : DataW.Trod enc Try.prog W 0 (fun _ => true) true 22 (.slice a len cap) d ps) : ∃ K N V, IsOps W a len K N V := by
  obtain ⟨fuel, hf⟩ := h
  rcases open_slice Try.underlying22 hf with ⟨hcs, _⟩ | ⟨x, l, c, m, n, D, Pl, hcs, _, hl, hm, hmm, _, hx⟩
  · simp [Value.cells] at hcs
    obtain ⟨rfl, rfl, rfl⟩ := hcs
    exact ⟨fun _ => 0, fun _ => 0, fun _ => 0, .inl rfl⟩
  · simp [Value.cells] at hcs
    obtain ⟨rfl, rfl, rfl⟩ := hcs
    have hm' : m = cap := by simpa using hmm
    subst hm'
    have key : ∀ i, i < m → ∃ t : Int × Int × Int, W.cell? (x.add (i * 3)) = some (.int .i64 t.1) ∧ W.cell? (x.add (i * 3 + 1)) = some (.int .i64 t.2.1) ∧ W.cell? (x.add (i * 3 + 2)) = some (.int .u64 t.2.2) ∧
        (Lit.int .i64 t.1).wf = true ∧ (Lit.int .i64 t.2.1).wf = true ∧ (Lit.int .u64 t.2.2).wf = true := by
      intro i hi
      obtain ⟨cs', h1, h2⟩ := hx i hi
      rw [Try.cells_op] at h1
      obtain ⟨_, hlen, hcell⟩ := World.cells?_some h1
      obtain ⟨y0, y1, y2, n', _, _, t0, t1, t2⟩ := trod_struct3 Try.underlying30 h2
      match cs', hlen with
      | [v0, v1, v2], _ =>
        obtain ⟨k0, e0, _, w0⟩ := DataW.trod_int Try.underlying3 t0
        obtain ⟨k1, e1, _, w1⟩ := DataW.trod_int Try.underlying3 t1
        obtain ⟨k2, e2, _, w2⟩ := DataW.trod_int Try.underlying28 t2
        simp [Try.cells_int, Try.cells_u64] at e0 e1 e2
        subst e0 e1 e2
        have c0 := hcell 0 (by omega)
        have c1 := hcell 1 (by omega)
        have c2 := hcell 2 (by omega)
        rw [Go.Deep.add_add] at c0 c1 c2
        exact ⟨(k0, k1, k2), by simpa using c0, by simpa using c1, by simpa using c2, w0, w1, w2⟩
    obtain ⟨f, hf'⟩ := choose_lt key
    refine ⟨fun i => (f i).1, fun i => (f i).2.1, fun i => (f i).2.2, ?_⟩
    by_cases h0 : len = 0
    · exact .inl h0
    · obtain ⟨b, off, spot⟩ := x
      have hsp : spot = none := by
        have := (hf' 0 (by omega)).1
        simpa [Addr.add] using World.cell?_spot this
      subst hsp
      refine .inr ⟨b, off, rfl, Nat.le_trans hl hm, fun i hi => ?_⟩
      obtain ⟨c0, c1, c2, w0, w1, w2⟩ := hf' i (by omega)
      have ea : ∀ j, (⟨b, off, none⟩ : Addr).add j = ⟨b, off + j, none⟩ := by
        intro j
        unfold Addr.add
        split
        · simp
        · rfl
      rw [ea] at c0 c1 c2
      have b0 := bounds_i64 w0
      have b1 := bounds_i64 w1
      have b2 := bounds_u64 w2
      exact ⟨c0, c1, c2, b0.1, b0.2, b1.1, b1.2, b2.1, Int.lt_of_le_of_lt b2.2 (by decide)⟩
end Go.Proofs.Ytadpbeofeocfiaa
