/-
  Frames of a writer's steps seen from outside; bytes as a string.
-/
import Derived.Test.YtkaldidfpgipfaaBitsR
import Derived.Laws.BytesArg
namespace Go.Proofs.Ytkaldidfpgipfaa
open Go.RowKit

end Go.Proofs.Ytkaldidfpgipfaa
