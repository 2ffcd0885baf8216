/-
  A new row of numbers, filled by copy.
-/
import Derived.Test.YtkndnibmgohcaaaPlaneM
namespace Go.Proofs.Ytkndnibmgohcaaa
open Go.RowKit

theorem mapV_one (n : Nat) (V : Nat → Int) : ∀ u ∈ (List.range n).map (fun j => Value.int .i64 (V j)), u.oneCell' = true := by
  intro u hu
  simp at hu
  obtain ⟨z, _, rfl⟩ := hu
  rfl

/-- What copy leaves where all of a new row of numbers is filled. -/
theorem copy_nums (w : World) (a : Option Addr) (n cap : Nat) (V : Nat → Int) (b : Nat) (h : Nums w a n cap V b) (t : TypeId) :
    ∃ w', (Builtin.copy_ #[24, 24] t #[.slice (some ⟨w.heap.size, 0, none⟩) n n, .slice a n cap]).run Try.prog (w.alloc (.cells (madeCells #[.int .i64 0] n) 3)) = .ok (.int .i64 (n : Int)) w' ∧
      Row w' w.heap.size n V ∧ Fr (fun _ => False) w w' := by
  have hsz : (Try.prog.info? 3).map (·.size) = some 1 := by
    obtain ⟨i0, hi, _, hz1, _⟩ := info_parts Try.info_int
    rw [hi]; simp [hz1]
  by_cases h0 : n = 0
  · refine ⟨w.alloc (.cells (madeCells #[.int .i64 0] n) 3), ?_, (Row.made w n).congr (fun j hj => by omega), (Fr.refl _ w).alloc _⟩
    have := run_copy_none (P := Try.prog) (w.alloc (.cells (madeCells #[.int .i64 0] n) 3)) 24 24 t 3 (some ⟨w.heap.size, 0, none⟩) a n n n cap Try.underlying24 hsz (by simp [h0])
    rw [this, h0]; rfl
  · obtain ⟨off, rfl, hc⟩ := h.at' (by omega)
    have hlt : ∀ j v, ((List.range n).map (fun j => Value.int .i64 (V j)))[j]? = some v → (w.alloc (.cells (madeCells #[.int .i64 0] n) 3)).cell? ((⟨b, off, none⟩ : Addr).add j) = some v := by
      intro j v hv
      have hadd : (⟨b, off, none⟩ : Addr).add j = ⟨b, off + j, none⟩ := by unfold Addr.add; split <;> simp_all
      have hj : j < n := by
        have := (List.getElem?_eq_some_iff.1 hv).1
        simpa using this
      have hcj := hc j hj
      rw [hadd, World.cell?_of_block (w := w) (Below.heap_alloc _ _ _ (cell_lt hcj)), hcj]
      rw [← hv]; simp [hj]
    have := run_copy_row (P := Try.prog) (w.alloc (.cells (madeCells #[.int .i64 0] n) 3)) 24 24 t 3 w.heap.size 0 n n ⟨b, off, none⟩ n cap (madeCells #[.int .i64 0] n) 3 ((List.range n).map (fun j => Value.int .i64 (V j))) Try.underlying24 hsz (heap_alloc_new w _) (by simp) hlt (by simp [size_madeCells]) (mapV_one n V)
    have e : ((madeCells #[.int .i64 0] n).toList.take 0 ++ (List.range n).map (fun j => Value.int .i64 (V j)) ++ (madeCells #[.int .i64 0] n).toList.drop (0 + ((List.range n).map (fun j => Value.int .i64 (V j))).length)) = (List.range n).map (fun j => Value.int .i64 (V j)) := by
      simp [toList_madeCells_one]
    rw [e, List.length_map, List.length_range] at this
    refine ⟨_, this, ⟨((List.range n).map (fun j => Value.int .i64 (V j))).toArray, ?_, by simp, fun j hj => by simp [hj]⟩, ?_⟩
    · exact setRow_heap (w.alloc (.cells (madeCells #[.int .i64 0] n) 3)) w.heap.size (madeCells #[.int .i64 0] n) _ 3 (0, 0) (heap_alloc_new w _)
    · exact ((Fr.refl _ w).alloc _).setRow (fun hlt => absurd hlt (by simp)) _

end Go.Proofs.Ytkndnibmgohcaaa
