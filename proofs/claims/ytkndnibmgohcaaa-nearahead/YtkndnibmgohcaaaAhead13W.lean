/-
  NearAhead: its ways joined.
-/
import Derived.Test.YtkndnibmgohcaaaAhead13
namespace Go.Proofs.Ytkndnibmgohcaaa
open Go.RowKit

theorem ahead13_walk (X Y : Int) (a : Option Addr) (n cap : Nat) (V : Nat → Int) (X' Y' : Int) (a' : Option Addr) (n' cap' : Nat) (V' : Nat → Int) (k0 k1 k2 k3 : Int) (w : World) (hc : CellsIn w a n cap (fun i => .int .i64 (V i))) (hc' : CellsIn w a' n' cap' (fun i => .int .i64 (V' i))) :
    Calls Try.prog 4 #[.agg #[.int .i64 X, .int .i64 Y, .slice a n cap], .agg #[.int .i64 X', .int .i64 Y', .slice a' n' cap'], .agg #[.int .i64 k0, .int .i64 k1, .int .i64 k2, .int .i64 k3]] w fun e w' => e = .returned (.bool true) ∧ Below w.heap.size w w' := by
  obtain ⟨b, h, _⟩ := Nums.of_in hc
  obtain ⟨b', h', _⟩ := Nums.of_in hc'
  by_cases hn : 2000 < n
  · exact ahead13_long X Y a n cap X' Y' a' n' cap' k0 k1 k2 k3 w hn
  · cases hR : rightP X Y n with
    | false => exact ahead13_bad X Y a n cap X' Y' a' n' cap' k0 k1 k2 k3 w (by omega) hR
    | true =>
      obtain ⟨x, y, rfl, rfl, hx, hx', hy, hy', hxy⟩ := rightP_nat hR
      exact ahead13_go x y a n cap V b X' Y' a' n' cap' V' b' k0 k1 k2 k3 w h h' (by omega) hx hx' hy hy' hxy
end Go.Proofs.Ytkndnibmgohcaaa
