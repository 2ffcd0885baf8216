/-
  Frames of a writer's steps seen from outside; bytes as a string.
-/
import Derived.Test.YtjjcekmmdngekaaBitsR
import Derived.Laws.BytesArg
namespace Go.Proofs.Ytjjcekmmdngekaa
open Go.RowKit

theorem WrStep.outer {w w0 w' : World} {p : Nat} {v v' : Value} (st : WrStep p v v' w0 w') (f : Fr (fun _ => False) w w0) (hp : w.heap.size ≤ p) (hv : ∀ k, v.ownBlock = some k → w.heap.size ≤ k) :
    Fr (fun _ => False) w w' ∧ ∀ k, v'.ownBlock = some k → w.heap.size ≤ k := by
  constructor
  · refine f.trans st.fr ?_
    intro i hi hk
    rcases hk with rfl | hk
    · omega
    · have := hv i hk; omega
  · rcases st.at' with e | e
    · rw [e]; exact hv
    · intro k hk; exact Nat.le_trans f.size (e k hk)

theorem Reads.new (w : World) (zs : List Nat) (t : TypeId) (n : Nat) (hn : n = zs.length) : Reads (w.alloc (.cells (rowOf zs).toArray t)) (.slice (some ⟨w.heap.size, 0, none⟩) n n) (rowOf zs) := by
  subst hn
  refine ⟨_, _, by rw [rowOf_length], fun _ => ⟨_, rfl, fun j u hu => ?_⟩⟩
  exact World.news_of_block (heap_alloc_new w _) j u hu

/-- Bytes as a string. -/
def strOf (zs : List Nat) : ByteArray := strOfNums (zs.map fun (z : Nat) => (z : Int))

theorem conv_bytes (w : World) (q : Nat) (zs : List Nat) (cap : Nat) (t : TypeId) (h : Blk w q (rowOf zs).toArray t) :
    (convert 24 9 (.slice (some ⟨q, 0, none⟩) zs.length cap)).run Try.prog w = .ok (.string (strOf zs)) w := by
  refine run_convert_bytes_arg (P := Try.prog) w 24 5 Try.underlying24 Try.underlying5 q 0 zs.length cap (zs.map fun (z : Nat) => (z : Int)) (by simp) ?_ 9 Try.underlying9
  intro i hi
  rw [Nat.zero_add, h.cell i, List.getElem?_toArray, rowOf_get zs i hi]
  simp [List.getD, hi]
end Go.Proofs.Ytjjcekmmdngekaa
