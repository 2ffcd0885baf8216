/-
  Frames of a writer's steps seen from outside; bytes as a string.
-/
import Derived.Test.YthabklgeopdlhaaBitsR
import Derived.Laws.BytesArg
namespace Go.Proofs.Ythabklgeopdlhaa
open Go.RowKit

end Go.Proofs.Ythabklgeopdlhaa
