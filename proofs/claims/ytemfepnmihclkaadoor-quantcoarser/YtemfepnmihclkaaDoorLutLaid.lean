/-
  Package lut's table, out of the condition that it reads as its initialiser lays it.
-/
import Derived.Test.YtemfepnmihclkaaDoorLutQ
import Derived.Test.YtemfepnmihclkaaDoorRows
import Derived.ProofKit
import Derived.LaidMore
import Derived.LaidSub
import Derived.OpenShut
import Derived.Stop.Joined
import Derived.Deep.Strs
namespace Go.Proofs.YtemfepnmihclkaaDoor
open Go.ChangeShapes Go.WideShapes Go.ChangeAt Go.RowKit Go.Deep

theorem gQuarters : Tryd.prog.globalNamed "shingle/lut.quarters" = some 0 := by kernel_rfl
theorem tQuarters : (Tryd.prog.globals[0]?).map (·.type) = some 34 := by kernel_rfl

theorem quarter_at {H : Type} {enc : TypeId × Value → H} {W : World} {sp : Nat → Bool} {hd : Bool} {m r : Nat} {cs : List Value} {x : DataW H × List MemPlace} {a b c : Int}
    (h : DataW.trod enc Tryd.prog W 0 sp hd m 33 ((cs.drop (r * 3)).take 3) = some x) (hx : DataW.agg [.lit (.int .i64 a), .lit (.int .i64 b), .lit (.int .i64 c)] = x.1) :
    cs[r * 3]? = some (.int .i64 a) ∧ cs[r * 3 + 1]? = some (.int .i64 b) ∧ cs[r * 3 + 2]? = some (.int .i64 c) := by
  have c3 : Tryd.prog.cellsOf 3 = 1 := by kernel_rfl
  obtain ⟨y0, y1, y2, n, rfl, hl, h0, h1, h2⟩ := trod_struct3 Tryd.underlying33 h
  obtain ⟨k0, e0, rfl, _⟩ := DataW.trod_int Tryd.underlying3 h0
  obtain ⟨k1, e1, rfl, _⟩ := DataW.trod_int Tryd.underlying3 h1
  obtain ⟨k2, e2, rfl, _⟩ := DataW.trod_int Tryd.underlying3 h2
  simp only [DataW.agg.injEq, List.cons.injEq, DataW.lit.injEq, Lit.int.injEq, and_true, true_and] at hx
  obtain ⟨rfl, rfl, rfl⟩ := hx
  have get : ∀ (l : List Value) (o : Nat) (v : Value), (List.drop o l).take 1 = [v] → l[o]? = some v := by
    intro l o v hh
    have := congrArg (fun l => l[0]?) hh
    simpa using this
  have g0 := get _ _ _ (c3 ▸ e0)
  have g1 := get _ _ _ (c3 ▸ e1)
  have g2 := get _ _ _ (c3 ▸ e2)
  simp at g0 g1 g2
  exact ⟨g0, g1, g2⟩

theorem quarters_of_laid {l : List (String × DataW Unit)} {W : World} (h0 : laidMetH Tryd.prog l W)
    (hl : (l.filter fun x => x.1 == "shingle/lut.quarters") = [("shingle/lut.quarters", Rows.laid_shingle_lut_quarters)]) : Quarters W := by
  have h := h0.filter (fun x => x.1 == "shingle/lut.quarters")
  rw [hl, MakeChecks.laidMetH_plain _ _ _ (by kernel_rfl)] at h
  obtain ⟨ps, ⟨g0, t0, cs0, f0, p0, q0, hg0, ht0, hv0, hd0, _, _⟩, _, _⟩ := h
  obtain rfl := Option.some.inj (gQuarters.symm.trans hg0)
  obtain rfl := Option.some.inj (tQuarters.symm.trans ht0)
  have c3 : Tryd.prog.cellsOf 33 = 3 := by kernel_rfl
  obtain ⟨xs, m1, rfl, hx1, hlen, hn, hel⟩ := DataW.trod_array Tryd.underlying34 hd0
  rw [c3] at hel
  simp only [Prod.mk.injEq, Rows.laid_shingle_lut_quarters, DataW.agg.injEq] at hx1
  have cell := World.var?_cell hg0 hv0
  match xs, hn, hx1, hel with
  | [x0, x1, x2, x3], _, hx1, hel =>
    simp only [List.map_cons, List.map_nil, List.cons.injEq, and_true] at hx1
    obtain ⟨⟨d0, d1, d2, d3⟩, _⟩ := hx1
    have r0 := quarter_at (hel 0 (by decide)) d0
    have r1 := quarter_at (hel 1 (by decide)) d1
    have r2 := quarter_at (hel 2 (by decide)) d2
    have r3 := quarter_at (hel 3 (by decide)) d3
    have conv : ∀ i v, cs0.toList[i]? = some v → W.cell? ⟨0, i, none⟩ = some v := by
      intro i v hv
      rw [cell i]
      simpa using hv
    intro r hr
    match r, hr with
    | 0, _ => exact ⟨conv _ _ r0.1, conv _ _ r0.2.1, conv _ _ r0.2.2⟩
    | 1, _ => exact ⟨conv _ _ r1.1, conv _ _ r1.2.1, conv _ _ r1.2.2⟩
    | 2, _ => exact ⟨conv _ _ r2.1, conv _ _ r2.2.1, conv _ _ r2.2.2⟩
    | 3, _ => exact ⟨conv _ _ r3.1, conv _ _ r3.2.1, conv _ _ r3.2.2⟩
end Go.Proofs.YtemfepnmihclkaaDoor
