/-
  Package lift: the steps of the filters.
-/
import Derived.Test.YtgmainbgliejhaaLiftP
namespace Go.Proofs.Ytgmainbgliejhaa
open Go.RowKit

theorem wrap64_wide (p q r s c : Int) : wrap64 (wrap64 (wrap64 (wrap64 (9 * wrap64 (q + r)) - p) - s) + c) = wrap64 (-p + 9 * q + 9 * r - s + c) := by unfold wrap64; omega

end Go.Proofs.Ytgmainbgliejhaa
