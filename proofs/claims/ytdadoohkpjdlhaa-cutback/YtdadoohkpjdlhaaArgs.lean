/-
  Slices that come in as arguments, read.
-/
import Derived.Test.YtdadoohkpjdlhaaRows
import Derived.Test.YtdadoohkpjdlhaaFrame
import Derived.Test.YtdadoohkpjdlhaaMem
import Derived.ProofKit
import Derived.OpenShut
import Derived.ShutString
import Derived.ChangeOld
import Derived.Deep.Slices
import Derived.Deep.Strs
import Derived.Deep.Grids
namespace Go.Proofs.Ytdadoohkpjdlhaa
open Go.ChangeShapes Go.WideShapes Go.ChangeAt Go.RowKit Go.Deep

theorem own : ownKnob Try.prog.godebug = none := by kernel_rfl
theorem laidOut : laidOutB Try.prog = true := by kernel_rfl

theorem addr_add (b off j : Nat) : (⟨b, off, none⟩ : Addr).add j = ⟨b, off + j, none⟩ := by
  unfold Addr.add
  split
  · simp_all
  · rfl

/-- Cells that came in: element i is V i. -/
def CellsIn (w : World) (a : Option Addr) (len cap : Nat) (V : Nat → Value) : Prop :=
  len ≤ cap ∧ cap ≤ maxLen ∧ ((a = none ∧ len = 0 ∧ cap = 0) ∨ ∃ b off spot, a = some ⟨b, off, spot⟩ ∧ (0 < len → spot = none) ∧ ∀ j, j < len → w.cell? ⟨b, off + j, none⟩ = some (V j))

theorem CellsIn.at {w : World} {a : Option Addr} {len cap : Nat} {V : Nat → Value} (h : CellsIn w a len cap V) {j : Nat} (hj : j < len) : ∃ b off, a = some ⟨b, off, none⟩ ∧ ∀ i, i < len → w.cell? ⟨b, off + i, none⟩ = some (V i) := by
  rcases h.2.2 with ⟨_, h0, _⟩ | ⟨b, off, spot, rfl, hs, hc⟩
  · omega
  · obtain rfl := hs (by omega)
    exact ⟨b, off, rfl, hc⟩

theorem cellsIn_of_addr {w : World} {x : Addr} {len cap : Nat} {V : Nat → Value} (hl : len ≤ cap) (hm : cap ≤ maxLen) (h : ∀ i, i < len → w.cell? (x.add i) = some (V i)) : CellsIn w (some x) len cap V := by
  refine ⟨hl, hm, .inr ?_⟩
  obtain ⟨b, off, spot⟩ := x
  have hsp : 0 < len → spot = none := by
    intro hpos
    have := h 0 hpos
    simpa [Addr.add] using World.cell?_spot this
  refine ⟨b, off, spot, rfl, hsp, fun j hj => ?_⟩
  obtain rfl := hsp (by omega)
  have := h j hj
  rwa [addr_add] at this

theorem bytesIn_of {H : Type} {enc : TypeId × Value → H} {W : World} {a : Option Addr} {len cap : Nat} {d : DataW H} {ps : List MemPlace}
    (h : DataW.Trod enc Try.prog W 0 (fun _ => true) true 22 (.slice a len cap) d ps) : ∃ zs : List Nat, zs.length = len ∧ (∀ z ∈ zs, z < 256) ∧ CellsIn W a len cap (fun i => .int .u8 ((zs.getD i 0 : Nat) : Int)) := by
  obtain ⟨fuel, hf⟩ := h
  rcases open_ints Try.underlying22 Try.underlying5 (by kernel_rfl) hf with ⟨hcs, _⟩ | ⟨x, l, c, zs, hcs, _, hl, hm, hz, _, hcell, hwz⟩
  · simp [Value.cells] at hcs
    obtain ⟨rfl, rfl, rfl⟩ := hcs
    exact ⟨[], rfl, by simp, ⟨Nat.le_refl _, Nat.zero_le _, .inl ⟨rfl, rfl, rfl⟩⟩⟩
  · simp [Value.cells] at hcs
    obtain ⟨rfl, rfl, rfl⟩ := hcs
    have hz' : zs.length = cap := by simpa using hz
    refine ⟨(zs.take len).map Int.toNat, by simp; omega, ?_, cellsIn_of_addr hl hm fun i hi => ?_⟩
    · intro z hz
      obtain ⟨y, hy, rfl⟩ := List.mem_map.1 hz
      have := bounds_u8 (hwz y (List.mem_of_mem_take hy))
      omega
    · rw [hcell i (by omega)]
      have b0 := bounds_u8 (hwz (zs.getD i 0) (by simp [List.getD, show i < zs.length by omega]))
      simp [List.getD, show i < zs.length by omega, hi]
      simp [List.getD, show i < zs.length by omega] at b0
      omega

theorem u32sIn_of {H : Type} {enc : TypeId × Value → H} {W : World} {a : Option Addr} {len cap : Nat} {d : DataW H} {ps : List MemPlace}
    (h : DataW.Trod enc Try.prog W 0 (fun _ => true) true 56 (.slice a len cap) d ps) : ∃ U : Nat → Nat, CellsIn W a len cap (fun i => .int .u32 ((U i : Nat) : Int)) ∧ ∀ i, U i < 4294967296 := by
  obtain ⟨fuel, hf⟩ := h
  rcases open_ints Try.underlying56 Try.underlying57 (by kernel_rfl) hf with ⟨hcs, _⟩ | ⟨x, l, c, zs, hcs, _, hl, hm, hz, _, hcell, hwz⟩
  · simp [Value.cells] at hcs
    obtain ⟨rfl, rfl, rfl⟩ := hcs
    exact ⟨fun _ => 0, ⟨Nat.le_refl _, Nat.zero_le _, .inl ⟨rfl, rfl, rfl⟩⟩, fun _ => (by decide : (0 : Nat) < 4294967296)⟩
  · simp [Value.cells] at hcs
    obtain ⟨rfl, rfl, rfl⟩ := hcs
    have hz' : zs.length = cap := by simpa using hz
    have hb : ∀ i, 0 ≤ zs.getD i 0 ∧ zs.getD i 0 < 4294967296 := by
      intro i
      by_cases hi : i < zs.length
      · have := bounds_u32 (hwz (zs.getD i 0) (by simp [List.getD, hi]))
        omega
      · simp [List.getD, List.getElem?_eq_none (show zs.length ≤ i by omega)]
    refine ⟨fun i => (zs.getD i 0).toNat, cellsIn_of_addr hl hm fun i hi => ?_, fun i => show (zs.getD i 0).toNat < 4294967296 by have := hb i; omega⟩
    rw [hcell i (by omega), Int.toNat_of_nonneg (hb i).1]

theorem Reads.of_in {w : World} {a : Option Addr} {len cap : Nat} {zs : List Nat} (hl : zs.length = len) (h : CellsIn w a len cap (fun i => .int .u8 ((zs.getD i 0 : Nat) : Int))) : Reads w (.slice a len cap) (rowOf zs) := by
  refine ⟨a, cap, by rw [rowOf_length, hl], fun hp => ?_⟩
  rw [rowOf_length, hl] at hp
  obtain ⟨b, off, rfl, hc⟩ := h.at hp
  refine ⟨_, rfl, fun j u hu => ?_⟩
  have hj : j < zs.length := by
    have := (List.getElem?_eq_some_iff.1 hu).1
    rwa [rowOf_length] at this
  rw [addr_add, hc j (by omega), ← hu, rowOf_get zs j hj]

theorem CellsIn.fr {w w' : World} {a : Option Addr} {len cap : Nat} {V : Nat → Value} (h : CellsIn w a len cap V) (f : Fr (fun _ => False) w w') : CellsIn w' a len cap V := by
  refine ⟨h.1, h.2.1, ?_⟩
  rcases h.2.2 with h | ⟨b, off, spot, rfl, hs, hc⟩
  · exact .inl h
  · exact .inr ⟨b, off, spot, rfl, hs, fun j hj => (f.cell (p := ⟨b, off + j, none⟩) (cell_lt (hc j hj)) (fun h => h)).trans (hc j hj)⟩

end Go.Proofs.Ytdadoohkpjdlhaa
