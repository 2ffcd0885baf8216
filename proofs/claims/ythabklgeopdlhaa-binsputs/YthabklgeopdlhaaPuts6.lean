/-
  Law package 6: how any numbers are coded, by any set (BinsPuts): the walk.
-/
import Derived.Test.YthabklgeopdlhaaPuts6T
import Derived.Test.YthabklgeopdlhaaPuts6F
namespace Go.Proofs.Ythabklgeopdlhaa
open Go.RowKit

theorem puts6_walk (a2 : Option Addr) (n cap2 : Nat) (V : Nat → Int) (D S : Int) (cc : Int) (a : Option Addr) (len cap : Nat) (L : Nat → Int) (w : World) (hF : CellsIn w a2 n cap2 (fun i => .int .i64 (V i))) (h0 : CellsIn w a len cap (fun i => .int .i64 (L i))) (hb : ∀ i, -9223372036854775808 ≤ L i ∧ L i ≤ 9223372036854775807) :
    Calls Try.prog 3 #[.agg #[.slice a2 n cap2, .int .i64 D, .int .i64 S], .int .i64 cc, .slice a len cap] w fun e w' => e = .returned (.bool true) ∧ Below w.heap.size w w' := by
  by_cases h100 : 100 < n
  · have h100' : (100 : Int) < (n : Int) := by omega
    have hnl : (n : Int) ≤ 9223372036854775807 := by have := hF.1; have := hF.2.1; unfold maxLen at *; omega
    obtain ⟨W, hW⟩ : ∃ W, W = w.alloc (.cells #[.slice a2 n cap2, .int .i64 D, .int .i64 S] 24) := ⟨_, rfl⟩
    have F0 : Fr (fun _ => False) w W := by rw [hW]; exact (Fr.refl _ w).alloc _
    have B0 : Blk W w.heap.size #[.slice a2 n cap2, .int .i64 D, .int .i64 S] 24 := by rw [hW]; exact Blk.new w _ _
    have HW := hid hW
    clear hW hF h0 hb
    go_enter Try.func3, Try.ntmps3
    go_wp2_with fail
    rw [← HW.out]
    refine (first6_any _).mono ?_
    rintro e w1 ⟨rfl, F1⟩
    have k0 : w1.cell? ⟨w.heap.size, 0, none⟩ = some (.slice a2 n cap2) := by rw [(B0.fr F1 (fun h => h)).cell]; rfl
    go_wp2
    go_ret
    exact ⟨rfl, (F0.trans' F1).below (Nat.le_refl _) (fun _ _ h => h)⟩
  · cases hr : rightS V n D S (ctxN cc) with
    | true => exact puts6_T a2 n cap2 V D S cc a len cap L w hF h0 hb h100 hr
    | false => exact puts6_F a2 n cap2 V D S cc a len cap L w hF h0 hb h100 hr
end Go.Proofs.Ythabklgeopdlhaa
