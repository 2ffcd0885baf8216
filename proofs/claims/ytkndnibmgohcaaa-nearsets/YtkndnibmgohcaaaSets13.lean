/-
  NearSets: the walk.
-/
import Derived.Test.YtkndnibmgohcaaaFirst13
import Derived.Test.YtkndnibmgohcaaaRef13
namespace Go.Proofs.Ytkndnibmgohcaaa
open Go.RowKit

set_option maxHeartbeats 2000000 in
theorem sets13_walk (pa be : Bool) (s : Int) (w : World) :
    Calls Try.prog 3 #[.bool pa, .bool be, .int .i64 s] w fun e w' => e = .returned (.bool true) ∧ Below w.heap.size w w' := by
  go_enter Try.func3, Try.ntmps3
  go_wp2_with fail
  refine (first13_any _).mono ?_
  rintro e w1 ⟨rfl, f1⟩
  go_wp2_with fail
  refine (nset_any _ _ _ _).mono ?_
  rintro e w2 ⟨b2, rfl, n2, _, f2⟩
  have HN2 := hid n2
  have F2 := f1.trans' f2
  clear n2 f2 f1
  go_wp2_with fail
  refine (rcontexts_any _ _ _ _).mono ?_
  rintro e w3 ⟨b3, rfl, n3, _, f3⟩
  have HS := hid (rsame13_self b2 b3 (followL pa be) 17 (signC s : Nat) w3 (HN2.out.quiet f3) n3 (by rw [followL_length]; omega))
  have F3 := F2.trans' f3
  clear n3 f3 F2 HN2
  go_wp2_with fail
  refine HS.out.mono ?_
  rintro e w4 ⟨rfl, f4⟩
  have F4 := F3.trans' f4
  clear F3 f4 HS
  go_wp2_with fail
  refine (nshift_any _).mono ?_
  rintro e w5 ⟨b5, rfl, n5, _, f5⟩
  have F5 := F4.trans' f5
  obtain ⟨W6, hW6⟩ : ∃ W6, W6 = w5.alloc (.cells #[.int .i64 19] 3) := ⟨_, rfl⟩
  have f6 : Fr (fun _ => False) w5 W6 := by rw [hW6]; exact (Fr.refl _ w5).alloc _
  have n6 : Nums W6 (some ⟨w5.heap.size, 0, none⟩) 1 1 (listN [19]) w5.heap.size := Nums.listN _ _ [19] (by decide) (by rw [hW6]; exact Blk.new _ _ _)
  have HS := hid (rsame13_self b5 w5.heap.size [19] 20 21 W6 (n5.quiet f6) n6 (by decide))
  have F6 := F5.trans' f6
  have HW6 := hid hW6
  clear hW6 n5 n6 f5 f6 F4 F5
  go_wp2_with fail
  rw [← HW6.out]
  refine HS.out.mono ?_
  rintro e w7 ⟨rfl, f7⟩
  have F7 := F6.trans' f7
  clear F6 f7 HS HW6
  go_wp2
  go_ret
  exact ⟨rfl, F7.below (Nat.le_refl _) (fun _ _ h => h)⟩
end Go.Proofs.Ytkndnibmgohcaaa
