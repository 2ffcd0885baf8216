/-
  Package plane: the number at a place (At); are two planes alike (alike, slices.Equal, Same); a copy of numbers (fresh).
-/
import Derived.Test.YtgmainbgliejhaaPlaneP
namespace Go.Proofs.Ytgmainbgliejhaa
open Go.RowKit

/-- Two right planes of like sides? -/
def likeP (X Y : Int) (n : Nat) (X' Y' : Int) (n' : Nat) : Bool := rightP X Y n && rightP X' Y' n' && decide (X = X') && decide (Y = Y')

end Go.Proofs.Ytgmainbgliejhaa
