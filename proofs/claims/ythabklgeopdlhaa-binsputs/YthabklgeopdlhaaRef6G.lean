/-
  The document's own answers of layer 6 (package shingleref06), walked: the steps of a number with its sign; steps put.
-/
import Derived.Test.YthabklgeopdlhaaRef6S
import Derived.Test.YthabklgeopdlhaaRef5B
namespace Go.Proofs.Ythabklgeopdlhaa
open Go.RowKit

set_option maxRecDepth 100000 in
set_option maxHeartbeats 2000000 in
/-- Signed. -/
theorem rsigned_any (w : World) (a : Option Addr) (n cap : Nat) (V : Nat → Int) (b : Nat) (D S : Int) (z : Int) (h : SetV w a n cap V b) (z0 : -9223372036854775808 ≤ z) :
    Calls Try.prog 12 #[.agg #[.slice a n cap, .int .i64 D, .int .i64 S], .int .i64 z] w fun e w' => ∃ vs, e = .returned (.tuple #[vs, .bool (okN (unsN z) && decide (0 < n))]) ∧ w'.ownsRow w.heap.size 71 2 vs (sgnL V n D S z).length (bitRow (sgnL V n D S z)) ∧ Fr (fun _ => False) w w' := by
  rw [← sgnM_ok z z0]
  have HL := hid (sgnL_eq V n D S z z0)
  have hlen := stepsL_len V n D (sgnM z)
  obtain ⟨y, hy⟩ : ∃ y, y = sgnM z := ⟨_, rfl⟩
  rw [← hy] at HL hlen ⊢
  obtain ⟨W, hW⟩ : ∃ W, W = w.alloc (.cells #[.slice a n cap, .int .i64 D, .int .i64 S] 24) := ⟨_, rfl⟩
  have F0 : Fr (fun _ => False) w W := by rw [hW]; exact (Fr.refl _ w).alloc _
  have B0 : Blk W w.heap.size #[.slice a n cap, .int .i64 D, .int .i64 S] 24 := by rw [hW]; exact Blk.new w _ _
  have hWs : w.heap.size ≤ W.heap.size := F0.size
  have HS : Hid (Calls Try.prog 11 #[.agg #[.slice a n cap, .int .i64 D, .int .i64 S], .int .i64 y] W fun e w' => ∃ vs, e = .returned (.tuple #[vs, .bool (okN y && decide (0 < n))]) ∧ w'.ownsRow W.heap.size 71 2 vs (stepsL V n D y).length (bitRow (stepsL V n D y)) ∧ Fr (fun _ => False) W w' ∧ Blk w' w.heap.size #[.slice a n cap, .int .i64 D, .int .i64 S] 24) := by
    refine (rsteps_any W a n cap V b D S y (h.quiet F0)).mono ?_
    rintro e w1 ⟨vs, rfl, o1, f1⟩
    exact ⟨vs, rfl, o1, f1, B0.fr f1 (fun h => h)⟩
  have HW := hid hW
  clear hW B0
  by_cases c0 : z < 0
  · have hz : ¬ z = 0 := by omega
    by_cases c1 : -2199023255550 ≤ z
    · have HY : Hid (y = -z) := hy.trans (if_pos ⟨c0, c1⟩)
      clear hy
      cases hok : okN y && decide (0 < n) with
      | false =>
        rw [hok, if_neg (by decide)] at HL
        rw [hok] at HS
        go_enter Try.func12, Try.ntmps12
        go_wp2_with fail
        rw [← HY.out, ← HW.out]
        refine HS.out.mono ?_
        rintro e w1 ⟨vs, rfl, o1, f1, B1⟩
        go_wp2
        go_ret2
        refine ⟨vs, rfl, ?_, F0.trans' f1⟩
        have e0 : stepsL V n D y = [] := by unfold stepsL; rw [hok]; rfl
        rw [HL.out]
        rw [e0] at o1
        exact ownsRow_lower o1 hWs
      | true =>
        rw [hok, if_pos rfl] at HL
        rw [hok] at HS
        rw [if_neg hz] at HL
        have hz0 : (z != 0) = true := by simpa using hz
        obtain ⟨is, his, hs0, hs1, hs2⟩ := info_parts Try.info_step6
        have htt : decide (z < 0) = true := by simpa using c0
        rw [htt] at HL
        go_enter Try.func12, Try.ntmps12
        go_wp2_with fail
        rw [← HY.out, ← HW.out]
        refine HS.out.mono ?_
        rintro e w1 ⟨vs, rfl, o1, f1, B1⟩
        have k2 : w1.cell? ⟨w.heap.size, 2, none⟩ = some (.int .i64 S) := by rw [B1.cell]; rfl
        have o2 := (ownsRow_lower o1 hWs).alloc (.cells #[.int .i64 S, .bool true] 71)
        have F2 := (F0.trans' f1).alloc (.cells #[.int .i64 S, .bool true] 71)
        have hlo := fun k hk => (o1.lt k hk).1
        have hsz3 : w.heap.size ≤ w1.heap.size := (F0.trans' f1).size
        have HO1 := hid o1
        clear o1
        go_wp2_with (at_builtin; refine wpList_append_lies _ rfl _ _ 33 rfl w.heap.size 71 is (.agg #[.int .i64 0, .bool false]) 2 16 Try.underlying33 his hs0 hs1 hs2 rfl (by decide) _ (stepsL V n D y).length (bitRow (stepsL V n D y)) rfl o2 ⟨w1.heap.size, 0, none⟩ 1 1 [.int .i64 S, .bool true] rfl rfl ?c1 ?c2 (by decide) ?c3 ?c4 ?c5 (w1.heap.size + 1) (by simp) ?_)
        case c1 => exact World.news_of_block (heap_alloc_new _ _)
        case c2 => intro u hu; simp at hu; rcases hu with rfl | rfl <;> rfl
        case c3 => unfold maxLen; omega
        case c4 => omega
        case c5 => simp; omega
        intro g4 cap4 w4 hown hgrow hat hlt4
        have F4 : Fr (fun _ => False) w w4 := F2.grown hgrow (fun k hk hl => by have := hlo k hk; omega)
        rw [← bitRow_snoc _ (S, true), ← HL.out] at hown
        have HNL : Hid ((sgnL V n D S z).length = (stepsL V n D y).length + 1) := by show _ = _; rw [HL.out, List.length_append]; rfl
        have HO := hid hown
        clear hown hgrow hat o2 F2
        go_wp2
        go_ret2
        refine ⟨_, rfl, ?_, F4⟩
        rw [HNL.out]
        exact HO.out
    · have c1d : decide (-2199023255550 ≤ z) = false := by simpa using c1
      obtain rfl : y = z := hy.trans (if_neg (fun h => c1 h.2))
      clear hy
      have hok : (okN y && decide (0 < n)) = false := by
        have : okN y = false := by unfold okN; rw [decide_eq_false_iff_not]; omega
        rw [this]; rfl
      rw [hok]
      rw [hok, if_neg (by decide)] at HL
      rw [hok] at HS
      go_enter Try.func12, Try.ntmps12
      go_wp2_with fail
      rw [← HW.out]
      refine HS.out.mono ?_
      rintro e w1 ⟨vs, rfl, o1, f1, B1⟩
      go_wp2
      go_ret2
      refine ⟨vs, rfl, ?_, F0.trans' f1⟩
      have e0 : stepsL V n D y = [] := by unfold stepsL; rw [hok]; rfl
      rw [HL.out]
      rw [e0] at o1
      exact ownsRow_lower o1 hWs
  · have c0d : decide (z < 0) = false := by simpa using c0
    obtain rfl : y = z := hy.trans (if_neg (fun h => c0 h.1))
    clear hy
    cases hok : okN y && decide (0 < n) with
    | false =>
      rw [hok, if_neg (by decide)] at HL
      rw [hok] at HS
      go_enter Try.func12, Try.ntmps12
      go_wp2_with fail
      rw [← HW.out]
      refine HS.out.mono ?_
      rintro e w1 ⟨vs, rfl, o1, f1, B1⟩
      go_wp2
      go_ret2
      refine ⟨vs, rfl, ?_, F0.trans' f1⟩
      have e0 : stepsL V n D y = [] := by unfold stepsL; rw [hok]; rfl
      rw [HL.out]
      rw [e0] at o1
      exact ownsRow_lower o1 hWs
    | true =>
      rw [hok, if_pos rfl] at HL
      rw [hok] at HS
      by_cases hz : y = 0
      · subst hz
        rw [if_pos rfl] at HL
        have hz0 : ((0 : Int) != 0) = false := by decide
        go_enter Try.func12, Try.ntmps12
        go_wp2_with fail
        rw [← HW.out]
        refine HS.out.mono ?_
        rintro e w1 ⟨vs, rfl, o1, f1, B1⟩
        go_wp2
        go_ret2
        refine ⟨vs, rfl, ?_, F0.trans' f1⟩
        rw [HL.out]
        exact ownsRow_lower o1 hWs
      · have c0' := c0
        rw [if_neg hz] at HL
        have hz0 : (y != 0) = true := by simpa using hz
        obtain ⟨is, his, hs0, hs1, hs2⟩ := info_parts Try.info_step6
        have htt : decide (y < 0) = false := by simpa using c0
        rw [htt] at HL
        go_enter Try.func12, Try.ntmps12
        go_wp2_with fail
        rw [← HW.out]
        refine HS.out.mono ?_
        rintro e w1 ⟨vs, rfl, o1, f1, B1⟩
        have k2 : w1.cell? ⟨w.heap.size, 2, none⟩ = some (.int .i64 S) := by rw [B1.cell]; rfl
        have o2 := (ownsRow_lower o1 hWs).alloc (.cells #[.int .i64 S, .bool false] 71)
        have F2 := (F0.trans' f1).alloc (.cells #[.int .i64 S, .bool false] 71)
        have hlo := fun k hk => (o1.lt k hk).1
        have hsy3 : w.heap.size ≤ w1.heap.size := (F0.trans' f1).size
        have HO1 := hid o1
        clear o1
        go_wp2_with (at_builtin; refine wpList_append_lies _ rfl _ _ 33 rfl w.heap.size 71 is (.agg #[.int .i64 0, .bool false]) 2 16 Try.underlying33 his hs0 hs1 hs2 rfl (by decide) _ (stepsL V n D y).length (bitRow (stepsL V n D y)) rfl o2 ⟨w1.heap.size, 0, none⟩ 1 1 [.int .i64 S, .bool false] rfl rfl ?c1 ?c2 (by decide) ?c3 ?c4 ?c5 (w1.heap.size + 1) (by simp) ?_)
        case c1 => exact World.news_of_block (heap_alloc_new _ _)
        case c2 => intro u hu; simp at hu; rcases hu with rfl | rfl <;> rfl
        case c3 => unfold maxLen; omega
        case c4 => omega
        case c5 => simp; omega
        intro g4 cap4 w4 hown hgrow hat hlt4
        have F4 : Fr (fun _ => False) w w4 := F2.grown hgrow (fun k hk hl => by have := hlo k hk; omega)
        rw [← bitRow_snoc _ (S, false), ← HL.out] at hown
        have HNL : Hid ((sgnL V n D S y).length = (stepsL V n D y).length + 1) := by show _ = _; rw [HL.out, List.length_append]; rfl
        have HO := hid hown
        clear hown hgrow hat o2 F2
        go_wp2
        go_ret2
        refine ⟨_, rfl, ?_, F4⟩
        rw [HNL.out]
        exact HO.out
end Go.Proofs.Ythabklgeopdlhaa
