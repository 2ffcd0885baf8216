/-
  'append(b, make([]byte, n)...)' of bytes that are owned.
-/
import Derived.Test.YtkaldidfpgipfaaArithY
import Derived.Lib.AppendZerosOnto
namespace Go.Proofs.Ytkaldidfpgipfaa
open Go.RowKit

theorem zeroCells_one (v : Value) (k : Nat) : Builtin.zeroCells #[v] k = (List.replicate k v).toArray := by
  apply Array.ext_getElem?
  intro i
  by_cases h : i < k
  · simp [Builtin.zeroCells, h, Nat.mod_one]
  · simp [Builtin.zeroCells, h]

theorem rowOf_zeros (k : Nat) : rowOf (List.replicate k 0) = List.replicate k (.int .u8 0) := by simp [rowOf]

theorem run_append_zeros (w : World) (base g cap : Nat) (ys : List Nat) (hown : w.ownsRow base 5 1 (.slice (some ⟨g, 0, none⟩) ys.length cap) ys.length (rowOf ys)) (k : Nat) (hk : k ≤ 255) (hy : ys.length ≤ 1000000000) (hbase : base ≤ w.heap.size) (ty : TypeId) :
    ∃ v' w', (Builtin.append_ #[31, 5] ty #[.slice (some ⟨g, 0, none⟩) ys.length cap, .int .u8 (k : Int)]).run Try.prog w = .ok v' w' ∧ w'.ownsRow base 5 1 v' (ys ++ List.replicate k 0).length (rowOf (ys ++ List.replicate k 0)) ∧ Fr (fun j => j = g) w w' := by
  obtain ⟨i0, hi, hz0, hz1, hz2⟩ := info_parts Try.info_u8
  have hlen : (ys ++ List.replicate k 0).length = ys.length + k := by simp
  rcases hown.2 with ⟨h2, _⟩ | ⟨g', cap', cur, hv, hbg, hg, hnc, hcm, hcs, htake⟩
  · cases h2
  simp at hv
  obtain ⟨rfl, rfl⟩ := hv
  have hw : IntKind.i64.wrap (k : Int) = k := by rw [IntKind.wrap_i64]; omega
  have hneg : ¬ ((k : Int) < 0) := by omega
  have h48i : ¬ (281474976710656 < (k : Int)) := by omega
  by_cases hroom : ys.length + k ≤ cap
  · have hnl : (List.replicate k (Value.int .u8 0)).length = k := by simp
    have hst := run_storeCells_at Try.prog g ys.length 5 (List.replicate k (.int .u8 0)) 0 cur w hg (by simp; omega) (by intro u hu; rw [List.mem_replicate] at hu; rw [hu.2]; rfl)
    simp only [Nat.add_zero] at hst
    refine ⟨.slice (some ⟨g, 0, none⟩) (ys.length + k) cap, w.setRow g (cur.toList.take ys.length ++ List.replicate k (Value.int .u8 0) ++ cur.toList.drop (ys.length + (List.replicate k (Value.int .u8 0)).length)).toArray, ?_, ?_, (Fr.refl (fun j => j = g) w).setRow (fun _ => rfl) _⟩
    · by_cases h0 : k = 0
      · subst h0
        simp at hst
        have hw0 : IntKind.i64.wrap 0 = 0 := by decide
        simp [Builtin.append_, run_underlying Try.underlying31, run_underlying Try.underlying5, sizeOf, typeInfo, hi, hz1, hz2, asInt, asIntOf, hw0, hnc, Addr.add_lit, hst]
      · have hzc : Builtin.zeroCells (Value.int .u8 0).cells k = (List.replicate k (Value.int .u8 0)).toArray := zeroCells_one _ k
        simp [Builtin.append_, run_underlying Try.underlying31, run_underlying Try.underlying5, sizeOf, typeInfo, zeroValue, hi, hz0, hz1, hz2, asInt, asIntOf, hw, hneg, h48i, h0, hroom, Addr.add_lit, hzc, hst]
    · rw [hlen]
      have hsz : (rowOf (ys ++ List.replicate k 0)).length = ys.length + k := by rw [rowOf_length, hlen]
      refine ⟨by omega, .inr ⟨g, cap, _, rfl, hbg, setRow_heap w g cur _ 5 _ hg, hroom, hcm, ?_, ?_⟩⟩
      · simp; omega
      · rw [Nat.mul_one] at htake ⊢
        rw [htake, rowOf_append, rowOf_zeros]
        have : ys.length + k = (rowOf ys ++ List.replicate k (Value.int .u8 0)).length := by rw [List.length_append, rowOf_length, List.length_replicate]
        rw [this]
        exact List.take_left
  · have hrun := Lib.run_append_grow_zeros (P := Try.prog) w 31 5 ty 5 i0 (.int .u8 0) .u8 .u8 Try.underlying31 Try.underlying5 hi hz0 (some ⟨g, 0, none⟩) ys.length cap (rowOf ys) (by rw [hz1]; exact run_firstCells_some (P := Try.prog) w.drew 1 ys.length ⟨g, 0, none⟩ ys.length cap (rowOf ys) (by rw [rowOf_length]; omega) (hown.cells (g := g) rfl)) k (by omega) (by omega) (by omega) (by omega) (by rw [hz2]; omega) (by rw [hz2]; exact growslice_fits (by omega) (by omega))
    have hge := grownCap_ge w (ys.length + k) cap 5
    have hcm2 := grownCap_le_maxLen w (ys.length + k) cap 5 (by unfold maxLen; omega)
    refine ⟨_, _, hrun, ?_, ((Fr.refl _ w).drew).alloc _⟩
    rw [hlen]
    refine ⟨by rw [rowOf_length, hlen]; omega, .inr ⟨w.heap.size, _, _, rfl, hbase, heap_alloc_new w.drew _, hge, hcm2, ?_, ?_⟩⟩
    · simp only [Array.size_append, List.size_toArray, size_zeroCells, rowOf_length]
      have e1 : (Value.int IntKind.u8 0).cells.size = 1 := rfl
      rw [e1]
      omega
    · have hzc : Builtin.zeroCells (Value.int .u8 0).cells k = (List.replicate k (Value.int .u8 0)).toArray := zeroCells_one _ k
      rw [hzc, Nat.mul_one, rowOf_append, rowOf_zeros]
      simp only [Array.toList_append, List.append_assoc]
      rw [← List.append_assoc]
      have : ys.length + k = (rowOf ys ++ List.replicate k (Value.int .u8 0)).length := by rw [List.length_append, rowOf_length, List.length_replicate]
      rw [this]
      exact List.take_left
end Go.Proofs.Ytkaldidfpgipfaa
