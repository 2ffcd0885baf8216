/-
  Law 7, PlaneBack: its walk over arguments as they come in.
-/
import Derived.Test.YthhhecdnnbgddaaBack7
namespace Go.Proofs.Ythhhecdnnbgddaa
open Go.RowKit

theorem back7_walk (X Y : Int) (a : Option Addr) (n cap : Nat) (V : Nat → Int) (X' Y' : Int) (a' : Option Addr) (n' cap' : Nat) (V' : Nat → Int) (m0 m1 : Nat) (w : World) (c : CellsIn w a n cap (fun i => .int .i64 (V i))) (c' : CellsIn w a' n' cap' (fun i => .int .i64 (V' i))) (hV : ∀ j, -9223372036854775808 ≤ V j ∧ V j ≤ 9223372036854775807) (h0 : m0 < 256) (h1 : m1 < 256) :
    Calls Try.prog 5 #[.agg #[.int .i64 X, .int .i64 Y, .slice a n cap], .agg #[.int .i64 X', .int .i64 Y', .slice a' n' cap'], .agg #[.int .u8 (m0 : Int), .int .u8 (m1 : Int)]] w fun e w' => e = .returned (.bool true) ∧ Below w.heap.size w w' := by
  obtain ⟨b, hn, _⟩ := Nums.of_in c
  obtain ⟨b', hn', _⟩ := Nums.of_in c'
  exact (back7_any X Y a n cap V b X' Y' a' n' cap' V' b' m0 m1 w hn hn' (fun j _ => hV j) h0 h1).mono (fun e w' h => ⟨h.1, h.2.below (Nat.le_refl _) (fun _ _ h => h)⟩)
end Go.Proofs.Ythhhecdnnbgddaa
