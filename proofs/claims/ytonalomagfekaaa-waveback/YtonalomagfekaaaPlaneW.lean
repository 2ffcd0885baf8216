/-
  Package plane: Pad of what isn't right, or to sides that are less.
-/
import Derived.Test.YtonalomagfekaaaPlaneV
namespace Go.Proofs.Ytonalomagfekaaa
open Go.RowKit

theorem ppad_zero (X Y : Int) (a : Option Addr) (n cap : Nat) (u v : Int) (w : World) (hR : rightP X Y n = false ∨ u < X ∨ v < Y) :
    Calls Try.prog 35 #[.agg #[.int .i64 X, .int .i64 Y, .slice a n cap], .int .i64 u, .int .i64 v] w fun e w' => Made w w' e 0 0 0 (fun _ => 0) := by
  obtain ⟨W, hW⟩ : ∃ W, W = ((w.alloc (.cells #[.int .i64 X, .int .i64 Y, .slice a n cap] 25)).alloc (.cells #[.int .i64 0, .int .i64 0, .slice none 0 0] 25)) := ⟨_, rfl⟩
  have F0 : Fr (fun _ => False) w W := by rw [hW]; exact (((Fr.refl _ w).alloc _).alloc _)
  have hsz : W.heap.size = w.heap.size + 2 := by rw [hW]; simp
  have O0 : Blk W w.heap.size #[.int .i64 X, .int .i64 Y, .slice a n cap] 25 := by
    rw [hW]
    have := Blk.new (w) #[.int .i64 X, .int .i64 Y, .slice a n cap] 25
    first | exact (this.alloc _) | (simp at this; exact (this.alloc _))
  have O1 : Blk W (w.heap.size + 1) #[.int .i64 0, .int .i64 0, .slice none 0 0] 25 := by
    rw [hW]
    have := Blk.new ((w.alloc (.cells #[.int .i64 X, .int .i64 Y, .slice a n cap] 25))) #[.int .i64 0, .int .i64 0, .slice none 0 0] 25
    first | exact this | (simp at this; exact this)
  have HW := hid hW
  clear hW
  have c0 : W.cell? ⟨w.heap.size, 0, none⟩ = some (.int .i64 X) := by rw [O0.cell]; rfl
  have c1 : W.cell? ⟨w.heap.size, 1, none⟩ = some (.int .i64 Y) := by rw [O0.cell]; rfl
  have c2 : W.cell? ⟨w.heap.size, 2, none⟩ = some (.slice a n cap) := by rw [O0.cell]; rfl
  rw [HW.out] at c0 c1 c2
  have RB := O1
  have FB := F0
  by_cases h1 : u < X
  · have hd1 : decide (u < X) = true := decide_eq_true h1
    have hRl := RB.lt
    have z0 : W.cell? ⟨w.heap.size + 1, 0, none⟩ = some (.int .i64 0) := by rw [RB.cell]; rfl
    have z1 : W.cell? ⟨w.heap.size + 1, 1, none⟩ = some (.int .i64 0) := by rw [RB.cell]; rfl
    have z2 : W.cell? ⟨w.heap.size + 1, 2, none⟩ = some (.slice none 0 0) := by rw [RB.cell]; rfl
    have zf := RB.thaw
    have HB2 := hid RB
    have HF3 := hid FB
    clear RB FB
    rw [HW.out] at z0 z1 z2 zf
    clear O0 O1 F0
    go_enter Try.func35, Try.ntmps35
    go_wp2
    rw [← HW.out]
    refine bodyPost_ret (v := .agg #[.int .i64 0, .int .i64 0, .slice none 0 0]) ?_ rfl (Made.zero ?_ _)
    · refine results_cell_row rfl _ _ (w.heap.size + 1) 25 _ (0, 0) _ rfl (show Blk _ _ _ _ from ?_) Try.underlying25 rfl Try.info_plane
      first | exact HB2.out | simpa using ((HB2.out.set 0 (.int .i64 0)).set 1 (.int .i64 0)).set 2 (.slice none 0 0)
    · first | exact HF3.out | exact (((HF3.out.setNew (by show _ ≤ w.heap.size + 1; omega) _).setNew (by show _ ≤ w.heap.size + 1; omega) _).setNew (by show _ ≤ w.heap.size + 1; omega) _)
  by_cases h2 : v < Y
  · have hd2 : decide (v < Y) = true := decide_eq_true h2
    have hRl := RB.lt
    have z0 : W.cell? ⟨w.heap.size + 1, 0, none⟩ = some (.int .i64 0) := by rw [RB.cell]; rfl
    have z1 : W.cell? ⟨w.heap.size + 1, 1, none⟩ = some (.int .i64 0) := by rw [RB.cell]; rfl
    have z2 : W.cell? ⟨w.heap.size + 1, 2, none⟩ = some (.slice none 0 0) := by rw [RB.cell]; rfl
    have zf := RB.thaw
    have HB2 := hid RB
    have HF3 := hid FB
    clear RB FB
    rw [HW.out] at z0 z1 z2 zf
    clear O0 O1 F0
    go_enter Try.func35, Try.ntmps35
    go_wp2
    rw [← HW.out]
    refine bodyPost_ret (v := .agg #[.int .i64 0, .int .i64 0, .slice none 0 0]) ?_ rfl (Made.zero ?_ _)
    · refine results_cell_row rfl _ _ (w.heap.size + 1) 25 _ (0, 0) _ rfl (show Blk _ _ _ _ from ?_) Try.underlying25 rfl Try.info_plane
      first | exact HB2.out | simpa using ((HB2.out.set 0 (.int .i64 0)).set 1 (.int .i64 0)).set 2 (.slice none 0 0)
    · first | exact HF3.out | exact (((HF3.out.setNew (by show _ ≤ w.heap.size + 1; omega) _).setNew (by show _ ≤ w.heap.size + 1; omega) _).setNew (by show _ ≤ w.heap.size + 1; omega) _)
  have hR' : rightP X Y n = false := by rcases hR with h | h | h
                                        · exact h
                                        · omega
                                        · omega
  go_enter Try.func35, Try.ntmps35
  go_wp2_with fail
  rw [← HW.out]
  refine (plaid_bad X Y a n cap u v W hR').mono ?_
  intro e w3 hM
  clear O0 O1 F0 HW c0 c1 c2
  obtain ⟨a1, cap1, b1, rfl, hn1, hb1, f3⟩ := hM
  have B2 := RB.fr f3 (fun h => h)
  have hRl := RB.lt
  have z0 : w3.cell? ⟨w.heap.size + 1, 0, none⟩ = some (.int .i64 0) := by rw [B2.cell]; rfl
  have z1 : w3.cell? ⟨w.heap.size + 1, 1, none⟩ = some (.int .i64 0) := by rw [B2.cell]; rfl
  have z2 : w3.cell? ⟨w.heap.size + 1, 2, none⟩ = some (.slice none 0 0) := by rw [B2.cell]; rfl
  have zf := B2.thaw
  have HB2 := hid B2
  have HN1 := hid hn1
  have HF3 := hid (FB.trans' f3)
  clear B2 hn1 f3 RB FB
  go_wp2
  refine bodyPost_ret (v := .agg #[.int .i64 0, .int .i64 0, .slice a1 0 cap1]) ?_ rfl ⟨a1, cap1, b1, rfl, ?_, fun h => ⟨by have := (hb1 h).1; omega, ?_⟩, ?_⟩
  · refine results_cell_row rfl _ _ (w.heap.size + 1) 25 _ (0, 0) _ rfl (show Blk _ _ _ _ from ?_) Try.underlying25 rfl Try.info_plane
    simpa using ((HB2.out.set 0 (.int .i64 0)).set 1 (.int .i64 0)).set 2 (.slice a1 0 cap1)
  · exact HN1.out.fr ((((Fr.refl (fun j => j = w.heap.size + 1) w3).setCell (fun _ => rfl) _).setCell (fun _ => rfl) _).setCell (fun _ => rfl) _) (fun h e => by have := (hb1 h).1; omega)
  · exact (hb1 h).2.fr ((((Fr.refl (fun j => j = w.heap.size + 1) w3).setCell (fun _ => rfl) _).setCell (fun _ => rfl) _).setCell (fun _ => rfl) _) (fun e => by have := (hb1 h).1; omega)
  · exact (((HF3.out.setNew (by show _ ≤ w.heap.size + 1; omega) _).setNew (by show _ ≤ w.heap.size + 1; omega) _).setNew (by show _ ≤ w.heap.size + 1; omega) _)
theorem ppad_bad (X Y : Int) (a : Option Addr) (n cap : Nat) (u v : Int) (w : World) (hR : rightP X Y n = false) :
    Calls Try.prog 35 #[.agg #[.int .i64 X, .int .i64 Y, .slice a n cap], .int .i64 u, .int .i64 v] w fun e w' => Made w w' e 0 0 0 (fun _ => 0) := ppad_zero X Y a n cap u v w (.inl hR)
end Go.Proofs.Ytonalomagfekaaa
