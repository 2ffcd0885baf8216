/-
  Slices that come in as arguments, read.
-/
import Derived.Test.YtkndnibmgohcaaaRows
import Derived.Test.YtkndnibmgohcaaaFrame
import Derived.Test.YtkndnibmgohcaaaMem
import Derived.ProofKit
import Derived.OpenShut
import Derived.ShutString
import Derived.ChangeOld
import Derived.Deep.Slices
import Derived.Deep.Strs
import Derived.Deep.Grids
namespace Go.Proofs.Ytkndnibmgohcaaa
open Go.ChangeShapes Go.WideShapes Go.ChangeAt Go.RowKit Go.Deep

theorem own : ownKnob Try.prog.godebug = none := by kernel_rfl
theorem laidOut : laidOutB Try.prog = true := by kernel_rfl

theorem addr_add (b off j : Nat) : (⟨b, off, none⟩ : Addr).add j = ⟨b, off + j, none⟩ := by
  unfold Addr.add
  split
  · simp_all
  · rfl

/-- Cells that came in: element i is V i. -/
def CellsIn (w : World) (a : Option Addr) (len cap : Nat) (V : Nat → Value) : Prop :=
  len ≤ cap ∧ cap ≤ maxLen ∧ ((a = none ∧ len = 0 ∧ cap = 0) ∨ ∃ b off spot, a = some ⟨b, off, spot⟩ ∧ (0 < len → spot = none) ∧ ∀ j, j < len → w.cell? ⟨b, off + j, none⟩ = some (V j))

theorem CellsIn.at {w : World} {a : Option Addr} {len cap : Nat} {V : Nat → Value} (h : CellsIn w a len cap V) {j : Nat} (hj : j < len) : ∃ b off, a = some ⟨b, off, none⟩ ∧ ∀ i, i < len → w.cell? ⟨b, off + i, none⟩ = some (V i) := by
  rcases h.2.2 with ⟨_, h0, _⟩ | ⟨b, off, spot, rfl, hs, hc⟩
  · omega
  · obtain rfl := hs (by omega)
    exact ⟨b, off, rfl, hc⟩

theorem cellsIn_of_addr {w : World} {x : Addr} {len cap : Nat} {V : Nat → Value} (hl : len ≤ cap) (hm : cap ≤ maxLen) (h : ∀ i, i < len → w.cell? (x.add i) = some (V i)) : CellsIn w (some x) len cap V := by
  refine ⟨hl, hm, .inr ?_⟩
  obtain ⟨b, off, spot⟩ := x
  have hsp : 0 < len → spot = none := by
    intro hpos
    have := h 0 hpos
    simpa [Addr.add] using World.cell?_spot this
  refine ⟨b, off, spot, rfl, hsp, fun j hj => ?_⟩
  obtain rfl := hsp (by omega)
  have := h j hj
  rwa [addr_add] at this

theorem intsIn_of {H : Type} {enc : TypeId × Value → H} {W : World} {a : Option Addr} {len cap : Nat} {d : DataW H} {ps : List MemPlace}
    (h : DataW.Trod enc Try.prog W 0 (fun _ => true) true 24 (.slice a len cap) d ps) : ∃ V : Nat → Int, CellsIn W a len cap (fun i => .int .i64 (V i)) ∧ ∀ i, -9223372036854775808 ≤ V i ∧ V i ≤ 9223372036854775807 := by
  obtain ⟨fuel, hf⟩ := h
  rcases open_ints Try.underlying24 Try.underlying3 (by kernel_rfl) hf with ⟨hcs, _⟩ | ⟨x, l, c, zs, hcs, _, hl, hm, hz, _, hcell, hwz⟩
  · simp [Value.cells] at hcs
    obtain ⟨rfl, rfl, rfl⟩ := hcs
    exact ⟨fun _ => 0, ⟨Nat.le_refl _, Nat.zero_le _, .inl ⟨rfl, rfl, rfl⟩⟩, fun _ => (by decide : (-9223372036854775808 : Int) ≤ 0 ∧ (0 : Int) ≤ 9223372036854775807)⟩
  · simp [Value.cells] at hcs
    obtain ⟨rfl, rfl, rfl⟩ := hcs
    have hz' : zs.length = cap := by simpa using hz
    refine ⟨fun i => zs.getD i 0, cellsIn_of_addr hl hm fun i hi => hcell i (by omega), fun i => ?_⟩
    by_cases hi : i < zs.length
    · exact bounds_i64 (hwz _ (by simp [List.getD, hi]))
    · simp [List.getD, List.getElem?_eq_none (show zs.length ≤ i by omega)]

theorem Reads.of_in {w : World} {a : Option Addr} {len cap : Nat} {zs : List Nat} (hl : zs.length = len) (h : CellsIn w a len cap (fun i => .int .u8 ((zs.getD i 0 : Nat) : Int))) : Reads w (.slice a len cap) (rowOf zs) := by
  refine ⟨a, cap, by rw [rowOf_length, hl], fun hp => ?_⟩
  rw [rowOf_length, hl] at hp
  obtain ⟨b, off, rfl, hc⟩ := h.at hp
  refine ⟨_, rfl, fun j u hu => ?_⟩
  have hj : j < zs.length := by
    have := (List.getElem?_eq_some_iff.1 hu).1
    rwa [rowOf_length] at this
  rw [addr_add, hc j (by omega), ← hu, rowOf_get zs j hj]

theorem CellsIn.fr {w w' : World} {a : Option Addr} {len cap : Nat} {V : Nat → Value} (h : CellsIn w a len cap V) (f : Fr (fun _ => False) w w') : CellsIn w' a len cap V := by
  refine ⟨h.1, h.2.1, ?_⟩
  rcases h.2.2 with h | ⟨b, off, spot, rfl, hs, hc⟩
  · exact .inl h
  · exact .inr ⟨b, off, spot, rfl, hs, fun j hj => (f.cell (p := ⟨b, off + j, none⟩) (cell_lt (hc j hj)) (fun h => h)).trans (hc j hj)⟩


/-- Structs that came in: element i's cells are C i, n of them. -/
def StructsIn (w : World) (a : Option Addr) (len n : Nat) (C : Nat → List Value) : Prop :=
  len = 0 ∨ ∃ b off, a = some ⟨b, off, none⟩ ∧ len ≤ maxLen ∧ ∀ i, i < len → ∀ j, j < n → w.cell? ⟨b, off + i * n + j, none⟩ = (C i)[j]?

/-- A slice of structs, its elements' cells, each of which reads. -/
theorem structsIn_of {H : Type} {enc : TypeId × Value → H} {W : World} {t e : TypeId} {a : Option Addr} {len cap : Nat} {d : DataW H} {ps : List MemPlace} (ht : Try.prog.underlying t = some (.slice e)) (hpos : 0 < Try.prog.cellsOf e)
    (h : DataW.Trod enc Try.prog W 0 (fun _ => true) true t (.slice a len cap) d ps) :
    ∃ C : Nat → List Value, StructsIn W a len (Try.prog.cellsOf e) C ∧ ∀ i, i < len → ∃ n y, (C i).length = Try.prog.cellsOf e ∧ DataW.trod enc Try.prog W 0 (fun _ => true) true n e (C i) = some y := by
  obtain ⟨fuel, hf⟩ := h
  rcases open_slice ht hf with ⟨hcs, _⟩ | ⟨x, l, c, m, n, D, Pl, hcs, _, hl, hm, hmm, _, hx⟩
  · simp [Value.cells] at hcs
    obtain ⟨rfl, rfl, rfl⟩ := hcs
    exact ⟨fun _ => [], .inl rfl, fun i hi => by omega⟩
  · simp [Value.cells] at hcs
    obtain ⟨rfl, rfl, rfl⟩ := hcs
    have hm' : m = cap := by simpa using hmm
    subst hm'
    obtain ⟨C, hC⟩ := choose_lt hx
    refine ⟨C, ?_, fun i hi => ?_⟩
    · by_cases h0 : len = 0
      · exact .inl h0
      obtain ⟨b, off, spot⟩ := x
      have hsp : spot = none := by
        obtain ⟨_, hlen, hcell⟩ := World.cells?_some (hC 0 (by omega)).1
        have := hcell 0 hpos
        rw [List.getElem?_eq_getElem (by omega), Go.Deep.add_add] at this
        simpa [Addr.add] using World.cell?_spot this
      subst hsp
      refine .inr ⟨b, off, rfl, Nat.le_trans hl hm, fun i hi j hj => ?_⟩
      obtain ⟨_, hlen, hcell⟩ := World.cells?_some (hC i (by omega)).1
      have := hcell j (by omega)
      rw [Go.Deep.add_add, addr_add] at this
      rw [← this, Nat.add_assoc]
    · obtain ⟨h1, h2⟩ := hC i (by omega)
      obtain ⟨_, hlen, hcell⟩ := World.cells?_some h1
      exact ⟨_, _, by omega, h2⟩

/-- Bytes that came in, as what an append reads. -/
theorem CellsIn.src {w w' : World} {a : Option Addr} {len cap : Nat} {zs : List Nat} (h : CellsIn w a len cap (fun i => .int .u8 ((zs.getD i 0 : Nat) : Int))) (f : Fr (fun _ => False) w w') (hz : zs.length = len) :
    (a = none ∧ len = 0 ∧ cap = 0) ∨ ∃ q, a = some q ∧ ∀ j u, (rowOf zs)[j]? = some u → w'.cell? (q.add j) = some u := by
  rcases h.2.2 with h | ⟨b, off, spot, rfl, hsp, hc⟩
  · exact .inl h
  · refine .inr ⟨_, rfl, fun j u hu => ?_⟩
    have hj : j < len := by
      have := (List.getElem?_eq_some_iff.1 hu).1
      rw [rowOf_length, hz] at this; exact this
    have e1 := hc j hj
    obtain rfl := hsp (by omega)
    rw [addr_add, f.cell (p := ⟨b, off + j, none⟩) (cell_lt e1) (fun h => h), e1, ← hu, rowOf_get zs j (by omega)]

end Go.Proofs.Ytkndnibmgohcaaa
