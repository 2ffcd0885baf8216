/-
  Law package 5: what is asked ahead of every statement.
-/
import Derived.Test.YthabklgeopdlhaaArithS
import Derived.Test.YthabklgeopdlhaaArithY
import Derived.Test.YthabklgeopdlhaaArithD
import Derived.Test.YthabklgeopdlhaaRef5
namespace Go.Proofs.Ythabklgeopdlhaa
open Go.RowKit

/-- A block of numbers reads. -/
theorem reads_blkI {w : World} {q n : Nat} {P : List Int} (h : Blk w q (intRow P).toArray 3) (hn : P.length = n) : Reads w (.slice (some ⟨q, 0, none⟩) n n) (intRow P) := by
  subst hn
  exact ⟨_, _, by rw [intRow_length], fun _ => ⟨_, rfl, fun j u hu => World.news_of_block h j u (by simpa using hu)⟩⟩

theorem runC_len (n : Nat) (l : List (Int × Bool)) : (runC n (startC n) l).P.length = n := (runC_good n l _ (Good.first n)).fair.1

theorem ctx2 : ctxN 2 = 2 := by decide

end Go.Proofs.Ythabklgeopdlhaa
