/-
  Package plane: Pad and Crop of what isn't right; added, subtracted and clipped planes (turned, Add, Sub, Clip).
-/
import Derived.Test.YthhhecdnnbgddaaPlaneV
import Derived.Test.YthhhecdnnbgddaaPlaneJ
namespace Go.Proofs.Ythhhecdnnbgddaa
open Go.RowKit

theorem ppad_bad (X Y : Int) (a : Option Addr) (n cap : Nat) (u v : Int) (w : World) (hR : rightP X Y n = false) :
    Calls Try.prog 23 #[.agg #[.int .i64 X, .int .i64 Y, .slice a n cap], .int .i64 u, .int .i64 v] w fun e w' => Made w w' e 0 0 0 (fun _ => 0) := by
  obtain ⟨W, hW⟩ : ∃ W, W = ((w.alloc (.cells #[.int .i64 X, .int .i64 Y, .slice a n cap] 24)).alloc (.cells #[.int .i64 0, .int .i64 0, .slice none 0 0] 24)) := ⟨_, rfl⟩
  have F0 : Fr (fun _ => False) w W := by rw [hW]; exact (((Fr.refl _ w).alloc _).alloc _)
  have hsz : W.heap.size = w.heap.size + 2 := by rw [hW]; simp
  have O0 : Blk W w.heap.size #[.int .i64 X, .int .i64 Y, .slice a n cap] 24 := by
    rw [hW]
    have := Blk.new (w) #[.int .i64 X, .int .i64 Y, .slice a n cap] 24
    first | exact (this.alloc _) | (simp at this; exact (this.alloc _))
  have O1 : Blk W (w.heap.size + 1) #[.int .i64 0, .int .i64 0, .slice none 0 0] 24 := by
    rw [hW]
    have := Blk.new ((w.alloc (.cells #[.int .i64 X, .int .i64 Y, .slice a n cap] 24))) #[.int .i64 0, .int .i64 0, .slice none 0 0] 24
    first | exact this | (simp at this; exact this)
  have HW := hid hW
  clear hW
  have c0 : W.cell? ⟨w.heap.size, 0, none⟩ = some (.int .i64 X) := by rw [O0.cell]; rfl
  have c1 : W.cell? ⟨w.heap.size, 1, none⟩ = some (.int .i64 Y) := by rw [O0.cell]; rfl
  have c2 : W.cell? ⟨w.heap.size, 2, none⟩ = some (.slice a n cap) := by rw [O0.cell]; rfl
  rw [HW.out] at c0 c1 c2
  have RB := O1
  have FB := F0
  by_cases h1 : u < X
  · have hd1 : decide (u < X) = true := decide_eq_true h1
    have hRl := RB.lt
    have z0 : W.cell? ⟨w.heap.size + 1, 0, none⟩ = some (.int .i64 0) := by rw [RB.cell]; rfl
    have z1 : W.cell? ⟨w.heap.size + 1, 1, none⟩ = some (.int .i64 0) := by rw [RB.cell]; rfl
    have z2 : W.cell? ⟨w.heap.size + 1, 2, none⟩ = some (.slice none 0 0) := by rw [RB.cell]; rfl
    have zf := RB.thaw
    have HB2 := hid RB
    have HF3 := hid FB
    clear RB FB
    rw [HW.out] at z0 z1 z2 zf
    clear O0 O1 F0
    go_enter Try.func23, Try.ntmps23
    go_wp2
    rw [← HW.out]
    refine bodyPost_ret (v := .agg #[.int .i64 0, .int .i64 0, .slice none 0 0]) ?_ rfl (Made.zero ?_ _)
    · refine results_cell_row rfl _ _ (w.heap.size + 1) 24 _ (0, 0) _ rfl (show Blk _ _ _ _ from ?_) Try.underlying24 rfl Try.info_plane
      first | exact HB2.out | simpa using ((HB2.out.set 0 (.int .i64 0)).set 1 (.int .i64 0)).set 2 (.slice none 0 0)
    · first | exact HF3.out | exact (((HF3.out.setNew (by show _ ≤ w.heap.size + 1; omega) _).setNew (by show _ ≤ w.heap.size + 1; omega) _).setNew (by show _ ≤ w.heap.size + 1; omega) _)
  by_cases h2 : v < Y
  · have hd2 : decide (v < Y) = true := decide_eq_true h2
    have hRl := RB.lt
    have z0 : W.cell? ⟨w.heap.size + 1, 0, none⟩ = some (.int .i64 0) := by rw [RB.cell]; rfl
    have z1 : W.cell? ⟨w.heap.size + 1, 1, none⟩ = some (.int .i64 0) := by rw [RB.cell]; rfl
    have z2 : W.cell? ⟨w.heap.size + 1, 2, none⟩ = some (.slice none 0 0) := by rw [RB.cell]; rfl
    have zf := RB.thaw
    have HB2 := hid RB
    have HF3 := hid FB
    clear RB FB
    rw [HW.out] at z0 z1 z2 zf
    clear O0 O1 F0
    go_enter Try.func23, Try.ntmps23
    go_wp2
    rw [← HW.out]
    refine bodyPost_ret (v := .agg #[.int .i64 0, .int .i64 0, .slice none 0 0]) ?_ rfl (Made.zero ?_ _)
    · refine results_cell_row rfl _ _ (w.heap.size + 1) 24 _ (0, 0) _ rfl (show Blk _ _ _ _ from ?_) Try.underlying24 rfl Try.info_plane
      first | exact HB2.out | simpa using ((HB2.out.set 0 (.int .i64 0)).set 1 (.int .i64 0)).set 2 (.slice none 0 0)
    · first | exact HF3.out | exact (((HF3.out.setNew (by show _ ≤ w.heap.size + 1; omega) _).setNew (by show _ ≤ w.heap.size + 1; omega) _).setNew (by show _ ≤ w.heap.size + 1; omega) _)
  have hR' : rightP X Y n = false := by exact hR
  go_enter Try.func23, Try.ntmps23
  go_wp2_with fail
  rw [← HW.out]
  refine (plaid_bad X Y a n cap u v W hR').mono ?_
  intro e w3 hM
  clear O0 O1 F0 HW c0 c1 c2
  obtain ⟨a1, cap1, b1, rfl, hn1, hb1, f3⟩ := hM
  have B2 := RB.fr f3 (fun h => h)
  have hRl := RB.lt
  have z0 : w3.cell? ⟨w.heap.size + 1, 0, none⟩ = some (.int .i64 0) := by rw [B2.cell]; rfl
  have z1 : w3.cell? ⟨w.heap.size + 1, 1, none⟩ = some (.int .i64 0) := by rw [B2.cell]; rfl
  have z2 : w3.cell? ⟨w.heap.size + 1, 2, none⟩ = some (.slice none 0 0) := by rw [B2.cell]; rfl
  have zf := B2.thaw
  have HB2 := hid B2
  have HN1 := hid hn1
  have HF3 := hid (FB.trans' f3)
  clear B2 hn1 f3 RB FB
  go_wp2
  refine bodyPost_ret (v := .agg #[.int .i64 0, .int .i64 0, .slice a1 0 cap1]) ?_ rfl ⟨a1, cap1, b1, rfl, ?_, fun h => ⟨by have := (hb1 h).1; omega, ?_⟩, ?_⟩
  · refine results_cell_row rfl _ _ (w.heap.size + 1) 24 _ (0, 0) _ rfl (show Blk _ _ _ _ from ?_) Try.underlying24 rfl Try.info_plane
    simpa using ((HB2.out.set 0 (.int .i64 0)).set 1 (.int .i64 0)).set 2 (.slice a1 0 cap1)
  · exact HN1.out.fr ((((Fr.refl (fun j => j = w.heap.size + 1) w3).setCell (fun _ => rfl) _).setCell (fun _ => rfl) _).setCell (fun _ => rfl) _) (fun h e => by have := (hb1 h).1; omega)
  · exact (hb1 h).2.fr ((((Fr.refl (fun j => j = w.heap.size + 1) w3).setCell (fun _ => rfl) _).setCell (fun _ => rfl) _).setCell (fun _ => rfl) _) (fun e => by have := (hb1 h).1; omega)
  · exact (((HF3.out.setNew (by show _ ≤ w.heap.size + 1; omega) _).setNew (by show _ ≤ w.heap.size + 1; omega) _).setNew (by show _ ≤ w.heap.size + 1; omega) _)

theorem pcrop_bad (X Y : Int) (a : Option Addr) (n cap : Nat) (u v : Int) (w : World) (hR : rightP X Y n = false ∨ X < u ∨ Y < v) :
    Calls Try.prog 22 #[.agg #[.int .i64 X, .int .i64 Y, .slice a n cap], .int .i64 u, .int .i64 v] w fun e w' => Made w w' e 0 0 0 (fun _ => 0) := by
  obtain ⟨W, hW⟩ : ∃ W, W = ((w.alloc (.cells #[.int .i64 X, .int .i64 Y, .slice a n cap] 24)).alloc (.cells #[.int .i64 0, .int .i64 0, .slice none 0 0] 24)) := ⟨_, rfl⟩
  have F0 : Fr (fun _ => False) w W := by rw [hW]; exact (((Fr.refl _ w).alloc _).alloc _)
  have hsz : W.heap.size = w.heap.size + 2 := by rw [hW]; simp
  have O0 : Blk W w.heap.size #[.int .i64 X, .int .i64 Y, .slice a n cap] 24 := by
    rw [hW]
    have := Blk.new (w) #[.int .i64 X, .int .i64 Y, .slice a n cap] 24
    first | exact (this.alloc _) | (simp at this; exact (this.alloc _))
  have O1 : Blk W (w.heap.size + 1) #[.int .i64 0, .int .i64 0, .slice none 0 0] 24 := by
    rw [hW]
    have := Blk.new ((w.alloc (.cells #[.int .i64 X, .int .i64 Y, .slice a n cap] 24))) #[.int .i64 0, .int .i64 0, .slice none 0 0] 24
    first | exact this | (simp at this; exact this)
  have HW := hid hW
  clear hW
  have c0 : W.cell? ⟨w.heap.size, 0, none⟩ = some (.int .i64 X) := by rw [O0.cell]; rfl
  have c1 : W.cell? ⟨w.heap.size, 1, none⟩ = some (.int .i64 Y) := by rw [O0.cell]; rfl
  have c2 : W.cell? ⟨w.heap.size, 2, none⟩ = some (.slice a n cap) := by rw [O0.cell]; rfl
  rw [HW.out] at c0 c1 c2
  have RB := O1
  have FB := F0
  by_cases h1 : X < u
  · have hd1 : decide (X < u) = true := decide_eq_true h1
    have hRl := RB.lt
    have z0 : W.cell? ⟨w.heap.size + 1, 0, none⟩ = some (.int .i64 0) := by rw [RB.cell]; rfl
    have z1 : W.cell? ⟨w.heap.size + 1, 1, none⟩ = some (.int .i64 0) := by rw [RB.cell]; rfl
    have z2 : W.cell? ⟨w.heap.size + 1, 2, none⟩ = some (.slice none 0 0) := by rw [RB.cell]; rfl
    have zf := RB.thaw
    have HB2 := hid RB
    have HF3 := hid FB
    clear RB FB
    rw [HW.out] at z0 z1 z2 zf
    clear O0 O1 F0
    go_enter Try.func22, Try.ntmps22
    go_wp2
    rw [← HW.out]
    refine bodyPost_ret (v := .agg #[.int .i64 0, .int .i64 0, .slice none 0 0]) ?_ rfl (Made.zero ?_ _)
    · refine results_cell_row rfl _ _ (w.heap.size + 1) 24 _ (0, 0) _ rfl (show Blk _ _ _ _ from ?_) Try.underlying24 rfl Try.info_plane
      first | exact HB2.out | simpa using ((HB2.out.set 0 (.int .i64 0)).set 1 (.int .i64 0)).set 2 (.slice none 0 0)
    · first | exact HF3.out | exact (((HF3.out.setNew (by show _ ≤ w.heap.size + 1; omega) _).setNew (by show _ ≤ w.heap.size + 1; omega) _).setNew (by show _ ≤ w.heap.size + 1; omega) _)
  by_cases h2 : Y < v
  · have hd2 : decide (Y < v) = true := decide_eq_true h2
    have hRl := RB.lt
    have z0 : W.cell? ⟨w.heap.size + 1, 0, none⟩ = some (.int .i64 0) := by rw [RB.cell]; rfl
    have z1 : W.cell? ⟨w.heap.size + 1, 1, none⟩ = some (.int .i64 0) := by rw [RB.cell]; rfl
    have z2 : W.cell? ⟨w.heap.size + 1, 2, none⟩ = some (.slice none 0 0) := by rw [RB.cell]; rfl
    have zf := RB.thaw
    have HB2 := hid RB
    have HF3 := hid FB
    clear RB FB
    rw [HW.out] at z0 z1 z2 zf
    clear O0 O1 F0
    go_enter Try.func22, Try.ntmps22
    go_wp2
    rw [← HW.out]
    refine bodyPost_ret (v := .agg #[.int .i64 0, .int .i64 0, .slice none 0 0]) ?_ rfl (Made.zero ?_ _)
    · refine results_cell_row rfl _ _ (w.heap.size + 1) 24 _ (0, 0) _ rfl (show Blk _ _ _ _ from ?_) Try.underlying24 rfl Try.info_plane
      first | exact HB2.out | simpa using ((HB2.out.set 0 (.int .i64 0)).set 1 (.int .i64 0)).set 2 (.slice none 0 0)
    · first | exact HF3.out | exact (((HF3.out.setNew (by show _ ≤ w.heap.size + 1; omega) _).setNew (by show _ ≤ w.heap.size + 1; omega) _).setNew (by show _ ≤ w.heap.size + 1; omega) _)
  have hR' : rightP X Y n = false := by exact hR.elim id (fun h => h.elim (fun h => absurd h h1) (fun h => absurd h h2))
  go_enter Try.func22, Try.ntmps22
  go_wp2_with fail
  rw [← HW.out]
  refine (plaid_bad X Y a n cap u v W hR').mono ?_
  intro e w3 hM
  clear O0 O1 F0 HW c0 c1 c2
  obtain ⟨a1, cap1, b1, rfl, hn1, hb1, f3⟩ := hM
  have B2 := RB.fr f3 (fun h => h)
  have hRl := RB.lt
  have z0 : w3.cell? ⟨w.heap.size + 1, 0, none⟩ = some (.int .i64 0) := by rw [B2.cell]; rfl
  have z1 : w3.cell? ⟨w.heap.size + 1, 1, none⟩ = some (.int .i64 0) := by rw [B2.cell]; rfl
  have z2 : w3.cell? ⟨w.heap.size + 1, 2, none⟩ = some (.slice none 0 0) := by rw [B2.cell]; rfl
  have zf := B2.thaw
  have HB2 := hid B2
  have HN1 := hid hn1
  have HF3 := hid (FB.trans' f3)
  clear B2 hn1 f3 RB FB
  go_wp2
  refine bodyPost_ret (v := .agg #[.int .i64 0, .int .i64 0, .slice a1 0 cap1]) ?_ rfl ⟨a1, cap1, b1, rfl, ?_, fun h => ⟨by have := (hb1 h).1; omega, ?_⟩, ?_⟩
  · refine results_cell_row rfl _ _ (w.heap.size + 1) 24 _ (0, 0) _ rfl (show Blk _ _ _ _ from ?_) Try.underlying24 rfl Try.info_plane
    simpa using ((HB2.out.set 0 (.int .i64 0)).set 1 (.int .i64 0)).set 2 (.slice a1 0 cap1)
  · exact HN1.out.fr ((((Fr.refl (fun j => j = w.heap.size + 1) w3).setCell (fun _ => rfl) _).setCell (fun _ => rfl) _).setCell (fun _ => rfl) _) (fun h e => by have := (hb1 h).1; omega)
  · exact (hb1 h).2.fr ((((Fr.refl (fun j => j = w.heap.size + 1) w3).setCell (fun _ => rfl) _).setCell (fun _ => rfl) _).setCell (fun _ => rfl) _) (fun e => by have := (hb1 h).1; omega)
  · exact (((HF3.out.setNew (by show _ ≤ w.heap.size + 1; omega) _).setNew (by show _ ≤ w.heap.size + 1; omega) _).setNew (by show _ ≤ w.heap.size + 1; omega) _)

theorem padd_go (x y : Nat) (a : Option Addr) (cap : Nat) (V : Nat → Int) (b : Nat) (a' : Option Addr) (cap' : Nat) (V' : Nat → Int) (b' : Nat) (w : World) (hx : 1 ≤ x) (hx' : x ≤ 1024) (hy : 1 ≤ y) (hy' : y ≤ 1024) (h : Nums w a (x * y) cap V b) (h' : Nums w a' (x * y) cap' V' b') :
    Calls Try.prog 9 #[.agg #[.int .i64 (x : Int), .int .i64 (y : Int), .slice a (x * y) cap], .agg #[.int .i64 (x : Int), .int .i64 (y : Int), .slice a' (x * y) cap']] w fun e w' => Made w w' e x y (x * y) (fun j => wrap64 (V j + V' j)) := by
  have HT := hid (fun (w1 : World) (f : Fr (fun _ => False) w w1) => pjoin_add_go x y a cap V b a' cap' V' b' w1 hx hx' hy hy' (h.quiet f) (h'.quiet f))
  obtain ⟨m, hm⟩ : ∃ m : Nat, x * y = m := ⟨_, rfl⟩
  rw [hm] at HT ⊢
  clear h h' hm
  obtain ⟨W, hW⟩ : ∃ W, W = (((w.alloc (.cells #[.int .i64 (x : Int), .int .i64 (y : Int), .slice a m cap] 24)).alloc (.cells #[.int .i64 (x : Int), .int .i64 (y : Int), .slice a' m cap'] 24)).alloc (.cells #[.int .i64 0, .int .i64 0, .slice none 0 0] 24)) := ⟨_, rfl⟩
  have F0 : Fr (fun _ => False) w W := by rw [hW]; exact ((((Fr.refl _ w).alloc _).alloc _).alloc _)
  have hsz : W.heap.size = w.heap.size + 3 := by rw [hW]; simp
  have O0 : Blk W w.heap.size #[.int .i64 (x : Int), .int .i64 (y : Int), .slice a m cap] 24 := by
    rw [hW]
    have := Blk.new (w) #[.int .i64 (x : Int), .int .i64 (y : Int), .slice a m cap] 24
    first | exact ((this.alloc _).alloc _) | (simp at this; exact ((this.alloc _).alloc _))
  have O1 : Blk W (w.heap.size + 1) #[.int .i64 (x : Int), .int .i64 (y : Int), .slice a' m cap'] 24 := by
    rw [hW]
    have := Blk.new ((w.alloc (.cells #[.int .i64 (x : Int), .int .i64 (y : Int), .slice a m cap] 24))) #[.int .i64 (x : Int), .int .i64 (y : Int), .slice a' m cap'] 24
    first | exact (this.alloc _) | (simp at this; exact (this.alloc _))
  have O2 : Blk W (w.heap.size + 2) #[.int .i64 0, .int .i64 0, .slice none 0 0] 24 := by
    rw [hW]
    have := Blk.new (((w.alloc (.cells #[.int .i64 (x : Int), .int .i64 (y : Int), .slice a m cap] 24)).alloc (.cells #[.int .i64 (x : Int), .int .i64 (y : Int), .slice a' m cap'] 24))) #[.int .i64 0, .int .i64 0, .slice none 0 0] 24
    first | exact this | (simp at this; exact this)
  have HW := hid hW
  clear hW
  have c00 : W.cell? ⟨w.heap.size, 0, none⟩ = some (.int .i64 (x : Int)) := by rw [O0.cell]; rfl
  have c01 : W.cell? ⟨w.heap.size, 1, none⟩ = some (.int .i64 (y : Int)) := by rw [O0.cell]; rfl
  have c02 : W.cell? ⟨w.heap.size, 2, none⟩ = some (.slice a m cap) := by rw [O0.cell]; rfl
  have c10 : W.cell? ⟨w.heap.size + 1, 0, none⟩ = some (.int .i64 (x : Int)) := by rw [O1.cell]; rfl
  have c11 : W.cell? ⟨w.heap.size + 1, 1, none⟩ = some (.int .i64 (y : Int)) := by rw [O1.cell]; rfl
  have c12 : W.cell? ⟨w.heap.size + 1, 2, none⟩ = some (.slice a' m cap') := by rw [O1.cell]; rfl
  rw [HW.out] at c00 c01 c02 c10 c11 c12
  go_enter Try.func9, Try.ntmps9
  go_wp2_with fail
  rw [← HW.out]
  have RB := O2
  have FB := F0
  refine (HT.out W FB).mono ?_
  intro e w3 hM
  clear HT O0 O1 O2 F0 HW c00 c01 c02 c10 c11 c12
  obtain ⟨a1, cap1, b1, rfl, hn1, hb1, f3⟩ := hM
  have B2 := RB.fr f3 (fun h => h)
  have hRl := RB.lt
  have z0 : w3.cell? ⟨w.heap.size + 2, 0, none⟩ = some (.int .i64 0) := by rw [B2.cell]; rfl
  have z1 : w3.cell? ⟨w.heap.size + 2, 1, none⟩ = some (.int .i64 0) := by rw [B2.cell]; rfl
  have z2 : w3.cell? ⟨w.heap.size + 2, 2, none⟩ = some (.slice none 0 0) := by rw [B2.cell]; rfl
  have zf := B2.thaw
  have HB2 := hid B2
  have HN1 := hid hn1
  have HF3 := hid (FB.trans' f3)
  clear B2 hn1 f3 RB FB
  go_wp2
  refine bodyPost_ret (v := .agg #[.int .i64 (x : Int), .int .i64 (y : Int), .slice a1 m cap1]) ?_ rfl ⟨a1, cap1, b1, rfl, ?_, fun h => ⟨by have := (hb1 h).1; omega, ?_⟩, ?_⟩
  · refine results_cell_row rfl _ _ (w.heap.size + 2) 24 _ (0, 0) _ rfl (show Blk _ _ _ _ from ?_) Try.underlying24 rfl Try.info_plane
    simpa using ((HB2.out.set 0 (.int .i64 (x : Int))).set 1 (.int .i64 (y : Int))).set 2 (.slice a1 m cap1)
  · exact HN1.out.fr ((((Fr.refl (fun j => j = w.heap.size + 2) w3).setCell (fun _ => rfl) _).setCell (fun _ => rfl) _).setCell (fun _ => rfl) _) (fun h e => by have := (hb1 h).1; omega)
  · exact (hb1 h).2.fr ((((Fr.refl (fun j => j = w.heap.size + 2) w3).setCell (fun _ => rfl) _).setCell (fun _ => rfl) _).setCell (fun _ => rfl) _) (fun e => by have := (hb1 h).1; omega)
  · exact (((HF3.out.setNew (by show _ ≤ w.heap.size + 2; omega) _).setNew (by show _ ≤ w.heap.size + 2; omega) _).setNew (by show _ ≤ w.heap.size + 2; omega) _)

theorem padd_bad (X Y : Int) (a : Option Addr) (n cap : Nat) (X' Y' : Int) (a' : Option Addr) (n' cap' : Nat) (w : World) (hL : likeP X Y n X' Y' n' = false) :
    Calls Try.prog 9 #[.agg #[.int .i64 X, .int .i64 Y, .slice a n cap], .agg #[.int .i64 X', .int .i64 Y', .slice a' n' cap']] w fun e w' => Made w w' e 0 0 0 (fun _ => 0) := by
  obtain ⟨W, hW⟩ : ∃ W, W = (((w.alloc (.cells #[.int .i64 X, .int .i64 Y, .slice a n cap] 24)).alloc (.cells #[.int .i64 X', .int .i64 Y', .slice a' n' cap'] 24)).alloc (.cells #[.int .i64 0, .int .i64 0, .slice none 0 0] 24)) := ⟨_, rfl⟩
  have F0 : Fr (fun _ => False) w W := by rw [hW]; exact ((((Fr.refl _ w).alloc _).alloc _).alloc _)
  have hsz : W.heap.size = w.heap.size + 3 := by rw [hW]; simp
  have O0 : Blk W w.heap.size #[.int .i64 X, .int .i64 Y, .slice a n cap] 24 := by
    rw [hW]
    have := Blk.new (w) #[.int .i64 X, .int .i64 Y, .slice a n cap] 24
    first | exact ((this.alloc _).alloc _) | (simp at this; exact ((this.alloc _).alloc _))
  have O1 : Blk W (w.heap.size + 1) #[.int .i64 X', .int .i64 Y', .slice a' n' cap'] 24 := by
    rw [hW]
    have := Blk.new ((w.alloc (.cells #[.int .i64 X, .int .i64 Y, .slice a n cap] 24))) #[.int .i64 X', .int .i64 Y', .slice a' n' cap'] 24
    first | exact (this.alloc _) | (simp at this; exact (this.alloc _))
  have O2 : Blk W (w.heap.size + 2) #[.int .i64 0, .int .i64 0, .slice none 0 0] 24 := by
    rw [hW]
    have := Blk.new (((w.alloc (.cells #[.int .i64 X, .int .i64 Y, .slice a n cap] 24)).alloc (.cells #[.int .i64 X', .int .i64 Y', .slice a' n' cap'] 24))) #[.int .i64 0, .int .i64 0, .slice none 0 0] 24
    first | exact this | (simp at this; exact this)
  have HW := hid hW
  clear hW
  have c00 : W.cell? ⟨w.heap.size, 0, none⟩ = some (.int .i64 X) := by rw [O0.cell]; rfl
  have c01 : W.cell? ⟨w.heap.size, 1, none⟩ = some (.int .i64 Y) := by rw [O0.cell]; rfl
  have c02 : W.cell? ⟨w.heap.size, 2, none⟩ = some (.slice a n cap) := by rw [O0.cell]; rfl
  have c10 : W.cell? ⟨w.heap.size + 1, 0, none⟩ = some (.int .i64 X') := by rw [O1.cell]; rfl
  have c11 : W.cell? ⟨w.heap.size + 1, 1, none⟩ = some (.int .i64 Y') := by rw [O1.cell]; rfl
  have c12 : W.cell? ⟨w.heap.size + 1, 2, none⟩ = some (.slice a' n' cap') := by rw [O1.cell]; rfl
  rw [HW.out] at c00 c01 c02 c10 c11 c12
  go_enter Try.func9, Try.ntmps9
  go_wp2_with fail
  rw [← HW.out]
  have RB := O2
  have FB := F0
  refine (pjoin_add_bad X Y a n cap X' Y' a' n' cap' W hL).mono (R' := fun e w' => Made W w' e 0 0 0 (fun _ => 0)) (fun e w' h => by obtain ⟨rfl, f⟩ := h; exact Made.zero f _) |>.mono ?_
  intro e w3 hM
  clear O0 O1 O2 F0 HW c00 c01 c02 c10 c11 c12
  obtain ⟨a1, cap1, b1, rfl, hn1, hb1, f3⟩ := hM
  have B2 := RB.fr f3 (fun h => h)
  have hRl := RB.lt
  have z0 : w3.cell? ⟨w.heap.size + 2, 0, none⟩ = some (.int .i64 0) := by rw [B2.cell]; rfl
  have z1 : w3.cell? ⟨w.heap.size + 2, 1, none⟩ = some (.int .i64 0) := by rw [B2.cell]; rfl
  have z2 : w3.cell? ⟨w.heap.size + 2, 2, none⟩ = some (.slice none 0 0) := by rw [B2.cell]; rfl
  have zf := B2.thaw
  have HB2 := hid B2
  have HN1 := hid hn1
  have HF3 := hid (FB.trans' f3)
  clear B2 hn1 f3 RB FB
  go_wp2
  refine bodyPost_ret (v := .agg #[.int .i64 0, .int .i64 0, .slice a1 0 cap1]) ?_ rfl ⟨a1, cap1, b1, rfl, ?_, fun h => ⟨by have := (hb1 h).1; omega, ?_⟩, ?_⟩
  · refine results_cell_row rfl _ _ (w.heap.size + 2) 24 _ (0, 0) _ rfl (show Blk _ _ _ _ from ?_) Try.underlying24 rfl Try.info_plane
    simpa using ((HB2.out.set 0 (.int .i64 0)).set 1 (.int .i64 0)).set 2 (.slice a1 0 cap1)
  · exact HN1.out.fr ((((Fr.refl (fun j => j = w.heap.size + 2) w3).setCell (fun _ => rfl) _).setCell (fun _ => rfl) _).setCell (fun _ => rfl) _) (fun h e => by have := (hb1 h).1; omega)
  · exact (hb1 h).2.fr ((((Fr.refl (fun j => j = w.heap.size + 2) w3).setCell (fun _ => rfl) _).setCell (fun _ => rfl) _).setCell (fun _ => rfl) _) (fun e => by have := (hb1 h).1; omega)
  · exact (((HF3.out.setNew (by show _ ≤ w.heap.size + 2; omega) _).setNew (by show _ ≤ w.heap.size + 2; omega) _).setNew (by show _ ≤ w.heap.size + 2; omega) _)

theorem psub_go (x y : Nat) (a : Option Addr) (cap : Nat) (V : Nat → Int) (b : Nat) (a' : Option Addr) (cap' : Nat) (V' : Nat → Int) (b' : Nat) (w : World) (hx : 1 ≤ x) (hx' : x ≤ 1024) (hy : 1 ≤ y) (hy' : y ≤ 1024) (h : Nums w a (x * y) cap V b) (h' : Nums w a' (x * y) cap' V' b') :
    Calls Try.prog 11 #[.agg #[.int .i64 (x : Int), .int .i64 (y : Int), .slice a (x * y) cap], .agg #[.int .i64 (x : Int), .int .i64 (y : Int), .slice a' (x * y) cap']] w fun e w' => Made w w' e x y (x * y) (fun j => wrap64 (V j - V' j)) := by
  have HT := hid (fun (w1 : World) (f : Fr (fun _ => False) w w1) => pjoin_sub_go x y a cap V b a' cap' V' b' w1 hx hx' hy hy' (h.quiet f) (h'.quiet f))
  obtain ⟨m, hm⟩ : ∃ m : Nat, x * y = m := ⟨_, rfl⟩
  rw [hm] at HT ⊢
  clear h h' hm
  obtain ⟨W, hW⟩ : ∃ W, W = (((w.alloc (.cells #[.int .i64 (x : Int), .int .i64 (y : Int), .slice a m cap] 24)).alloc (.cells #[.int .i64 (x : Int), .int .i64 (y : Int), .slice a' m cap'] 24)).alloc (.cells #[.int .i64 0, .int .i64 0, .slice none 0 0] 24)) := ⟨_, rfl⟩
  have F0 : Fr (fun _ => False) w W := by rw [hW]; exact ((((Fr.refl _ w).alloc _).alloc _).alloc _)
  have hsz : W.heap.size = w.heap.size + 3 := by rw [hW]; simp
  have O0 : Blk W w.heap.size #[.int .i64 (x : Int), .int .i64 (y : Int), .slice a m cap] 24 := by
    rw [hW]
    have := Blk.new (w) #[.int .i64 (x : Int), .int .i64 (y : Int), .slice a m cap] 24
    first | exact ((this.alloc _).alloc _) | (simp at this; exact ((this.alloc _).alloc _))
  have O1 : Blk W (w.heap.size + 1) #[.int .i64 (x : Int), .int .i64 (y : Int), .slice a' m cap'] 24 := by
    rw [hW]
    have := Blk.new ((w.alloc (.cells #[.int .i64 (x : Int), .int .i64 (y : Int), .slice a m cap] 24))) #[.int .i64 (x : Int), .int .i64 (y : Int), .slice a' m cap'] 24
    first | exact (this.alloc _) | (simp at this; exact (this.alloc _))
  have O2 : Blk W (w.heap.size + 2) #[.int .i64 0, .int .i64 0, .slice none 0 0] 24 := by
    rw [hW]
    have := Blk.new (((w.alloc (.cells #[.int .i64 (x : Int), .int .i64 (y : Int), .slice a m cap] 24)).alloc (.cells #[.int .i64 (x : Int), .int .i64 (y : Int), .slice a' m cap'] 24))) #[.int .i64 0, .int .i64 0, .slice none 0 0] 24
    first | exact this | (simp at this; exact this)
  have HW := hid hW
  clear hW
  have c00 : W.cell? ⟨w.heap.size, 0, none⟩ = some (.int .i64 (x : Int)) := by rw [O0.cell]; rfl
  have c01 : W.cell? ⟨w.heap.size, 1, none⟩ = some (.int .i64 (y : Int)) := by rw [O0.cell]; rfl
  have c02 : W.cell? ⟨w.heap.size, 2, none⟩ = some (.slice a m cap) := by rw [O0.cell]; rfl
  have c10 : W.cell? ⟨w.heap.size + 1, 0, none⟩ = some (.int .i64 (x : Int)) := by rw [O1.cell]; rfl
  have c11 : W.cell? ⟨w.heap.size + 1, 1, none⟩ = some (.int .i64 (y : Int)) := by rw [O1.cell]; rfl
  have c12 : W.cell? ⟨w.heap.size + 1, 2, none⟩ = some (.slice a' m cap') := by rw [O1.cell]; rfl
  rw [HW.out] at c00 c01 c02 c10 c11 c12
  go_enter Try.func11, Try.ntmps11
  go_wp2_with fail
  rw [← HW.out]
  have RB := O2
  have FB := F0
  refine (HT.out W FB).mono ?_
  intro e w3 hM
  clear HT O0 O1 O2 F0 HW c00 c01 c02 c10 c11 c12
  obtain ⟨a1, cap1, b1, rfl, hn1, hb1, f3⟩ := hM
  have B2 := RB.fr f3 (fun h => h)
  have hRl := RB.lt
  have z0 : w3.cell? ⟨w.heap.size + 2, 0, none⟩ = some (.int .i64 0) := by rw [B2.cell]; rfl
  have z1 : w3.cell? ⟨w.heap.size + 2, 1, none⟩ = some (.int .i64 0) := by rw [B2.cell]; rfl
  have z2 : w3.cell? ⟨w.heap.size + 2, 2, none⟩ = some (.slice none 0 0) := by rw [B2.cell]; rfl
  have zf := B2.thaw
  have HB2 := hid B2
  have HN1 := hid hn1
  have HF3 := hid (FB.trans' f3)
  clear B2 hn1 f3 RB FB
  go_wp2
  refine bodyPost_ret (v := .agg #[.int .i64 (x : Int), .int .i64 (y : Int), .slice a1 m cap1]) ?_ rfl ⟨a1, cap1, b1, rfl, ?_, fun h => ⟨by have := (hb1 h).1; omega, ?_⟩, ?_⟩
  · refine results_cell_row rfl _ _ (w.heap.size + 2) 24 _ (0, 0) _ rfl (show Blk _ _ _ _ from ?_) Try.underlying24 rfl Try.info_plane
    simpa using ((HB2.out.set 0 (.int .i64 (x : Int))).set 1 (.int .i64 (y : Int))).set 2 (.slice a1 m cap1)
  · exact HN1.out.fr ((((Fr.refl (fun j => j = w.heap.size + 2) w3).setCell (fun _ => rfl) _).setCell (fun _ => rfl) _).setCell (fun _ => rfl) _) (fun h e => by have := (hb1 h).1; omega)
  · exact (hb1 h).2.fr ((((Fr.refl (fun j => j = w.heap.size + 2) w3).setCell (fun _ => rfl) _).setCell (fun _ => rfl) _).setCell (fun _ => rfl) _) (fun e => by have := (hb1 h).1; omega)
  · exact (((HF3.out.setNew (by show _ ≤ w.heap.size + 2; omega) _).setNew (by show _ ≤ w.heap.size + 2; omega) _).setNew (by show _ ≤ w.heap.size + 2; omega) _)

theorem psub_bad (X Y : Int) (a : Option Addr) (n cap : Nat) (X' Y' : Int) (a' : Option Addr) (n' cap' : Nat) (w : World) (hL : likeP X Y n X' Y' n' = false) :
    Calls Try.prog 11 #[.agg #[.int .i64 X, .int .i64 Y, .slice a n cap], .agg #[.int .i64 X', .int .i64 Y', .slice a' n' cap']] w fun e w' => Made w w' e 0 0 0 (fun _ => 0) := by
  obtain ⟨W, hW⟩ : ∃ W, W = (((w.alloc (.cells #[.int .i64 X, .int .i64 Y, .slice a n cap] 24)).alloc (.cells #[.int .i64 X', .int .i64 Y', .slice a' n' cap'] 24)).alloc (.cells #[.int .i64 0, .int .i64 0, .slice none 0 0] 24)) := ⟨_, rfl⟩
  have F0 : Fr (fun _ => False) w W := by rw [hW]; exact ((((Fr.refl _ w).alloc _).alloc _).alloc _)
  have hsz : W.heap.size = w.heap.size + 3 := by rw [hW]; simp
  have O0 : Blk W w.heap.size #[.int .i64 X, .int .i64 Y, .slice a n cap] 24 := by
    rw [hW]
    have := Blk.new (w) #[.int .i64 X, .int .i64 Y, .slice a n cap] 24
    first | exact ((this.alloc _).alloc _) | (simp at this; exact ((this.alloc _).alloc _))
  have O1 : Blk W (w.heap.size + 1) #[.int .i64 X', .int .i64 Y', .slice a' n' cap'] 24 := by
    rw [hW]
    have := Blk.new ((w.alloc (.cells #[.int .i64 X, .int .i64 Y, .slice a n cap] 24))) #[.int .i64 X', .int .i64 Y', .slice a' n' cap'] 24
    first | exact (this.alloc _) | (simp at this; exact (this.alloc _))
  have O2 : Blk W (w.heap.size + 2) #[.int .i64 0, .int .i64 0, .slice none 0 0] 24 := by
    rw [hW]
    have := Blk.new (((w.alloc (.cells #[.int .i64 X, .int .i64 Y, .slice a n cap] 24)).alloc (.cells #[.int .i64 X', .int .i64 Y', .slice a' n' cap'] 24))) #[.int .i64 0, .int .i64 0, .slice none 0 0] 24
    first | exact this | (simp at this; exact this)
  have HW := hid hW
  clear hW
  have c00 : W.cell? ⟨w.heap.size, 0, none⟩ = some (.int .i64 X) := by rw [O0.cell]; rfl
  have c01 : W.cell? ⟨w.heap.size, 1, none⟩ = some (.int .i64 Y) := by rw [O0.cell]; rfl
  have c02 : W.cell? ⟨w.heap.size, 2, none⟩ = some (.slice a n cap) := by rw [O0.cell]; rfl
  have c10 : W.cell? ⟨w.heap.size + 1, 0, none⟩ = some (.int .i64 X') := by rw [O1.cell]; rfl
  have c11 : W.cell? ⟨w.heap.size + 1, 1, none⟩ = some (.int .i64 Y') := by rw [O1.cell]; rfl
  have c12 : W.cell? ⟨w.heap.size + 1, 2, none⟩ = some (.slice a' n' cap') := by rw [O1.cell]; rfl
  rw [HW.out] at c00 c01 c02 c10 c11 c12
  go_enter Try.func11, Try.ntmps11
  go_wp2_with fail
  rw [← HW.out]
  have RB := O2
  have FB := F0
  refine (pjoin_sub_bad X Y a n cap X' Y' a' n' cap' W hL).mono (R' := fun e w' => Made W w' e 0 0 0 (fun _ => 0)) (fun e w' h => by obtain ⟨rfl, f⟩ := h; exact Made.zero f _) |>.mono ?_
  intro e w3 hM
  clear O0 O1 O2 F0 HW c00 c01 c02 c10 c11 c12
  obtain ⟨a1, cap1, b1, rfl, hn1, hb1, f3⟩ := hM
  have B2 := RB.fr f3 (fun h => h)
  have hRl := RB.lt
  have z0 : w3.cell? ⟨w.heap.size + 2, 0, none⟩ = some (.int .i64 0) := by rw [B2.cell]; rfl
  have z1 : w3.cell? ⟨w.heap.size + 2, 1, none⟩ = some (.int .i64 0) := by rw [B2.cell]; rfl
  have z2 : w3.cell? ⟨w.heap.size + 2, 2, none⟩ = some (.slice none 0 0) := by rw [B2.cell]; rfl
  have zf := B2.thaw
  have HB2 := hid B2
  have HN1 := hid hn1
  have HF3 := hid (FB.trans' f3)
  clear B2 hn1 f3 RB FB
  go_wp2
  refine bodyPost_ret (v := .agg #[.int .i64 0, .int .i64 0, .slice a1 0 cap1]) ?_ rfl ⟨a1, cap1, b1, rfl, ?_, fun h => ⟨by have := (hb1 h).1; omega, ?_⟩, ?_⟩
  · refine results_cell_row rfl _ _ (w.heap.size + 2) 24 _ (0, 0) _ rfl (show Blk _ _ _ _ from ?_) Try.underlying24 rfl Try.info_plane
    simpa using ((HB2.out.set 0 (.int .i64 0)).set 1 (.int .i64 0)).set 2 (.slice a1 0 cap1)
  · exact HN1.out.fr ((((Fr.refl (fun j => j = w.heap.size + 2) w3).setCell (fun _ => rfl) _).setCell (fun _ => rfl) _).setCell (fun _ => rfl) _) (fun h e => by have := (hb1 h).1; omega)
  · exact (hb1 h).2.fr ((((Fr.refl (fun j => j = w.heap.size + 2) w3).setCell (fun _ => rfl) _).setCell (fun _ => rfl) _).setCell (fun _ => rfl) _) (fun e => by have := (hb1 h).1; omega)
  · exact (((HF3.out.setNew (by show _ ≤ w.heap.size + 2; omega) _).setNew (by show _ ≤ w.heap.size + 2; omega) _).setNew (by show _ ≤ w.heap.size + 2; omega) _)

set_option maxHeartbeats 1000000 in
theorem pturned_go (x y : Nat) (a : Option Addr) (cap : Nat) (V : Nat → Int) (b bl bm : Nat) (lo hi : Int) (w : World) (hx : 1 ≤ x) (hx' : x ≤ 1024) (hy : 1 ≤ y) (hy' : y ≤ 1024) (h : Nums w a (x * y) cap V b) (hBl : Blk w bl #[.int .i64 lo] 3) (hBm : Blk w bm #[.int .i64 hi] 3) :
    Calls Try.prog 30 #[.agg #[.int .i64 (x : Int), .int .i64 (y : Int), .slice a (x * y) cap], .func (.func 31) #[] #[.pointer (some ⟨bl, 0, none⟩), .pointer (some ⟨bm, 0, none⟩)]] w fun e w' => Made w w' e x y (x * y) (fun j => clipV lo hi (V j)) := by
  have hm := mul_most hx' hy'
  have hR := rightP_of hx hx' hy hy'
  have hpos : 0 < x * y := Nat.mul_pos (by omega) (by omega)
  have HNew := hid (fun w => pnew_go x y hx hx' hy hy' w)
  have hb := h.lt hpos
  have hbl := hBl.lt
  have hbm := hBm.lt
  obtain ⟨off, rfl, hc⟩ := h.at' hpos
  obtain ⟨m, hxy⟩ : ∃ m : Nat, x * y = m := ⟨_, rfl⟩
  rw [hxy] at hm hR hpos HNew hc h ⊢
  clear hxy hx hx' hy hy' h
  have HC := hid hc
  clear hc
  obtain ⟨W, hW⟩ : ∃ W, W = ((w.alloc (.cells #[.int .i64 (x : Int), .int .i64 (y : Int), .slice (some ⟨b, off, none⟩) m cap] 24)).alloc (.cells #[.int .i64 0, .int .i64 0, .slice none 0 0] 24)) := ⟨_, rfl⟩
  have F0 : Fr (fun _ => False) w W := by rw [hW]; exact (((Fr.refl _ w).alloc _).alloc _)
  have hsz : W.heap.size = w.heap.size + 2 := by rw [hW]; simp
  have O0 : Blk W w.heap.size #[.int .i64 (x : Int), .int .i64 (y : Int), .slice (some ⟨b, off, none⟩) m cap] 24 := by
    rw [hW]
    have := Blk.new (w) #[.int .i64 (x : Int), .int .i64 (y : Int), .slice (some ⟨b, off, none⟩) m cap] 24
    first | exact (this.alloc _) | (simp at this; exact (this.alloc _))
  have O1 : Blk W (w.heap.size + 1) #[.int .i64 0, .int .i64 0, .slice none 0 0] 24 := by
    rw [hW]
    have := Blk.new ((w.alloc (.cells #[.int .i64 (x : Int), .int .i64 (y : Int), .slice (some ⟨b, off, none⟩) m cap] 24))) #[.int .i64 0, .int .i64 0, .slice none 0 0] 24
    first | exact this | (simp at this; exact this)
  have HW := hid hW
  clear hW
  go_enter Try.func30, Try.ntmps30
  go_wp2_with fail
  rw [← HW.out]
  refine (pright_any x y _ m cap W).mono ?_
  rintro e w1 ⟨rfl, f1⟩
  rw [hR]
  have P0 := O0.fr f1 (fun h => h)
  have P2 := O1.fr f1 (fun h => h)
  have F1 := F0.trans' f1
  have s1 := f1.size
  clear O0 O1 F0 f1 HW
  have c0 : w1.cell? ⟨w.heap.size, 0, none⟩ = some (.int .i64 (x : Int)) := by rw [P0.cell]; rfl
  have c1 : w1.cell? ⟨w.heap.size, 1, none⟩ = some (.int .i64 (y : Int)) := by rw [P0.cell]; rfl
  go_wp2_with fail
  refine (HNew.out w1).mono ?_
  rintro e w2 ⟨g, rfl, hrow, hg, f2⟩
  have hgl := hrow.lt
  have Q0 := P0.fr f2 (fun h => h)
  have Q2 := P2.fr f2 (fun h => h)
  have F2 := F1.trans' f2
  clear P0 P2 F1 f2 c0 c1 HNew
  obtain ⟨W3, hW3⟩ : ∃ W3, W3 = w2.alloc (.cells #[.int .i64 (x : Int), .int .i64 (y : Int), .slice (some ⟨g, 0, none⟩) m m] 24) := ⟨_, rfl⟩
  have F3 : Fr (fun _ => False) w W3 := by rw [hW3]; exact F2.alloc _
  have r3 : Row W3 g m (fun _ => 0) := by rw [hW3]; exact hrow.quiet ((Fr.refl _ w2).alloc _)
  have R0 : Blk W3 w.heap.size #[.int .i64 (x : Int), .int .i64 (y : Int), .slice (some ⟨b, off, none⟩) m cap] 24 := by rw [hW3]; exact Q0.alloc _
  have R2 : Blk W3 (w.heap.size + 1) #[.int .i64 0, .int .i64 0, .slice none 0 0] 24 := by rw [hW3]; exact Q2.alloc _
  have R3 : Blk W3 w2.heap.size #[.int .i64 (x : Int), .int .i64 (y : Int), .slice (some ⟨g, 0, none⟩) m m] 24 := by rw [hW3]; exact Blk.new _ _ _
  have HW3 := hid hW3
  clear hW3 Q0 Q2 F2 hrow
  have HK : Hid (∀ wr k, Fr (fun j => j = g) W3 wr → k < m → wr.cell? ⟨w2.heap.size, 2, none⟩ = some (.slice (some ⟨g, 0, none⟩) m m) ∧ wr.cell? ⟨b, off + k, none⟩ = some (.int .i64 (V k)) ∧ wr.cell? ⟨bl, 0, none⟩ = some (.int .i64 lo) ∧ wr.cell? ⟨bm, 0, none⟩ = some (.int .i64 hi)) := by
    intro wr k f hk
    have e1 := HC.out k hk
    have e3 := (F3.cell (p := ⟨b, off + k, none⟩) (cell_lt e1) (fun h => h)).trans e1
    refine ⟨by rw [(R3.fr f (by omega)).cell]; rfl, (f.cell (p := ⟨b, off + k, none⟩) (cell_lt e3) (by show ¬ b = g; omega)).trans e3, by rw [((hBl.fr F3 (fun h => h)).fr f (by omega)).cell]; rfl, by rw [((hBm.fr F3 (fun h => h)).fr f (by omega)).cell]; rfl⟩
  have HE : Hid (∀ wr, Fr (fun j => j = g) W3 wr → Blk wr (w.heap.size + 1) #[.int .i64 0, .int .i64 0, .slice none 0 0] 24 ∧ Blk wr w2.heap.size #[.int .i64 (x : Int), .int .i64 (y : Int), .slice (some ⟨g, 0, none⟩) m m] 24) := fun wr f => ⟨R2.fr f (by omega), R3.fr f (by omega)⟩
  have d0 : W3.cell? ⟨w.heap.size, 2, none⟩ = some (.slice (some ⟨b, off, none⟩) m cap) := by rw [R0.cell]; rfl
  clear R0 R2 R3 HC hBl hBm
  rw [HW3.out] at d0
  go_wp2
  rw [← HW3.out]
  go_loopw [20] (fun i wr => ∃ k : Nat, k ≤ m ∧ i = .int .i64 (k : Int) ∧ Row wr g m (fun j => if j < k then clipV lo hi (V j) else 0) ∧ Fr (fun j => j = g) W3 wr) (fun i _ => m - (intOf i).toNat)
  case atStart => exact ⟨0, Nat.zero_le _, rfl, r3.congr (fun j _ => by simp), Fr.refl _ _⟩
  case round =>
    obtain ⟨k, hk, rfl, hr, F⟩ := hrel
    by_cases hlt : k < m
    · have hki : (k : Int) < (m : Int) := by omega
      obtain ⟨e1, e3, e7, e8⟩ := HK.out wr k F hlt
      have e5 := hr.cell hlt
      have e6 := hr.thaw k
      have HR := hid hr
      clear hr
      obtain ⟨u, hu⟩ : ∃ u, V k = u := ⟨_, rfl⟩
      rw [hu] at e3
      rw [if_neg (Nat.lt_irrefl k)] at e5
      have HU := hid hu
      clear hu
      go_wp2
      refine wp_region_still_tail 7 (by kernel_rfl) (by kernel_rfl) ?_
      show wpStill Try.prog _ wr.drew (fun a' => wpList Try.prog _ _ _ a' wr.drew) _ _
      simp only [List.take_succ_cons, List.take_zero, List.drop_succ_cons, List.drop_zero]
      repeat still_step
      still_call (pclip1_any u lo hi bl bm wr.drew e7 e8)
      repeat still_step
      refine wpStill_nil ?_
      go_wp2
      go_roundw
      case rel =>
        refine ⟨k + 1, by omega, by go_num, ?_, (F.setCell (p := ⟨g, k, none⟩) (fun _ => rfl) _).drew⟩
        refine ((HR.out.set k (clipV lo hi u)).congr fun j hj => ?_).fr (Fr.refl (fun _ => False) _).drew (fun h => h)
        by_cases ejk : j = k
        · subst ejk; rw [if_pos rfl, if_pos (by omega), HU.out]
        · rw [if_neg ejk]
          by_cases hjk : j < k
          · rw [if_pos hjk, if_pos (by omega)]
          · rw [if_neg hjk, if_neg (by omega)]
      case measure => simp [intOf]; omega
    · have hki : ¬ (k : Int) < (m : Int) := by omega
      obtain rfl : k = m := by omega
      obtain ⟨B2, B3⟩ := HE.out wr F
      have q0 : wr.cell? ⟨w2.heap.size, 0, none⟩ = some (.int .i64 (x : Int)) := by rw [B3.cell]; rfl
      have q1 : wr.cell? ⟨w2.heap.size, 1, none⟩ = some (.int .i64 (y : Int)) := by rw [B3.cell]; rfl
      have q2 : wr.cell? ⟨w2.heap.size, 2, none⟩ = some (.slice (some ⟨g, 0, none⟩) k k) := by rw [B3.cell]; rfl
      have z0 : wr.cell? ⟨w.heap.size + 1, 0, none⟩ = some (.int .i64 0) := by rw [B2.cell]; rfl
      have z1 : wr.cell? ⟨w.heap.size + 1, 1, none⟩ = some (.int .i64 0) := by rw [B2.cell]; rfl
      have z2 : wr.cell? ⟨w.heap.size + 1, 2, none⟩ = some (.slice none 0 0) := by rw [B2.cell]; rfl
      have zf := B2.thaw
      have HR := hid hr
      have HB2 := hid B2
      clear hr B2 B3
      go_wp2
      refine bodyPost_ret (v := .agg #[.int .i64 (x : Int), .int .i64 (y : Int), .slice (some ⟨g, 0, none⟩) k k]) ?_ rfl ⟨some ⟨g, 0, none⟩, k, g, rfl, ?_, fun _ => ⟨by omega, ?_⟩, ?_⟩
      · refine results_cell_row rfl _ _ (w.heap.size + 1) 24 _ (0, 0) _ rfl (show Blk _ _ _ _ from ?_) Try.underlying24 rfl Try.info_plane
        simpa using ((HB2.out.set 0 _).set 1 _).set 2 _
      · refine ((((HR.out.fr (((Fr.refl (fun j => j = w.heap.size + 1) wr).setCell (fun _ => rfl) _).setCell (fun _ => rfl) _ |>.setCell (fun _ => rfl) _) (by omega)).congr fun j hj => ?_)).nums (by unfold maxLen; omega))
        rw [if_pos hj]
      · exact (HR.out.fr (((Fr.refl (fun j => j = w.heap.size + 1) wr).setCell (fun _ => rfl) _).setCell (fun _ => rfl) _ |>.setCell (fun _ => rfl) _) (by omega)).intB
      · exact ((((F3.trans F (fun i hi e => by omega)).setNew (by show _ ≤ _ + 1; omega) _).setNew (by show _ ≤ _ + 1; omega) _).setNew (by show _ ≤ _ + 1; omega) _)

theorem pturned_bad (X Y : Int) (a : Option Addr) (n cap : Nat) (f : Value) (w : World) (hR : rightP X Y n = false) :
    Calls Try.prog 30 #[.agg #[.int .i64 X, .int .i64 Y, .slice a n cap], f] w fun e w' => Made w w' e 0 0 0 (fun _ => 0) := by
  obtain ⟨W, hW⟩ : ∃ W, W = ((w.alloc (.cells #[.int .i64 X, .int .i64 Y, .slice a n cap] 24)).alloc (.cells #[.int .i64 0, .int .i64 0, .slice none 0 0] 24)) := ⟨_, rfl⟩
  have F0 : Fr (fun _ => False) w W := by rw [hW]; exact (((Fr.refl _ w).alloc _).alloc _)
  have hsz : W.heap.size = w.heap.size + 2 := by rw [hW]; simp
  have O0 : Blk W w.heap.size #[.int .i64 X, .int .i64 Y, .slice a n cap] 24 := by
    rw [hW]
    have := Blk.new (w) #[.int .i64 X, .int .i64 Y, .slice a n cap] 24
    first | exact (this.alloc _) | (simp at this; exact (this.alloc _))
  have O1 : Blk W (w.heap.size + 1) #[.int .i64 0, .int .i64 0, .slice none 0 0] 24 := by
    rw [hW]
    have := Blk.new ((w.alloc (.cells #[.int .i64 X, .int .i64 Y, .slice a n cap] 24))) #[.int .i64 0, .int .i64 0, .slice none 0 0] 24
    first | exact this | (simp at this; exact this)
  have HW := hid hW
  clear hW
  go_enter Try.func30, Try.ntmps30
  go_wp2_with fail
  rw [← HW.out]
  refine (pright_any X Y a n cap W).mono ?_
  rintro e w1 ⟨rfl, f1⟩
  rw [hR]
  have RB := O1.fr f1 (fun h => h)
  have FB := F0.trans' f1
  clear O0 O1 F0 f1 HW
  have hRl := RB.lt
  have z0 : w1.cell? ⟨w.heap.size + 1, 0, none⟩ = some (.int .i64 0) := by rw [RB.cell]; rfl
  have z1 : w1.cell? ⟨w.heap.size + 1, 1, none⟩ = some (.int .i64 0) := by rw [RB.cell]; rfl
  have z2 : w1.cell? ⟨w.heap.size + 1, 2, none⟩ = some (.slice none 0 0) := by rw [RB.cell]; rfl
  have zf := RB.thaw
  have HB2 := hid RB
  have HF3 := hid FB
  clear RB FB
  go_wp2
  refine bodyPost_ret (v := .agg #[.int .i64 0, .int .i64 0, .slice none 0 0]) ?_ rfl (Made.zero ?_ _)
  · refine results_cell_row rfl _ _ (w.heap.size + 1) 24 _ (0, 0) _ rfl (show Blk _ _ _ _ from ?_) Try.underlying24 rfl Try.info_plane
    simpa using ((HB2.out.set 0 (.int .i64 0)).set 1 (.int .i64 0)).set 2 (.slice none 0 0)
  · exact (((HF3.out.setNew (by show _ ≤ w.heap.size + 1; omega) _).setNew (by show _ ≤ w.heap.size + 1; omega) _).setNew (by show _ ≤ w.heap.size + 1; omega) _)

theorem pclip_go (x y : Nat) (a : Option Addr) (cap : Nat) (V : Nat → Int) (b : Nat) (lo hi : Int) (w : World) (hx : 1 ≤ x) (hx' : x ≤ 1024) (hy : 1 ≤ y) (hy' : y ≤ 1024) (h : Nums w a (x * y) cap V b) :
    Calls Try.prog 12 #[.agg #[.int .i64 (x : Int), .int .i64 (y : Int), .slice a (x * y) cap], .int .i64 lo, .int .i64 hi] w fun e w' => Made w w' e x y (x * y) (fun j => clipV lo hi (V j)) := by
  have HT := hid (fun (w1 : World) (f : Fr (fun _ => False) w w1) (hBl : Blk w1 (w.heap.size + 1) #[.int .i64 lo] 3) (hBm : Blk w1 (w.heap.size + 2) #[.int .i64 hi] 3) => pturned_go x y a cap V b (w.heap.size + 1) (w.heap.size + 2) lo hi w1 hx hx' hy hy' (h.quiet f) hBl hBm)
  obtain ⟨m, hm⟩ : ∃ m : Nat, x * y = m := ⟨_, rfl⟩
  rw [hm] at HT ⊢
  clear h hm
  obtain ⟨W, hW⟩ : ∃ W, W = ((((w.alloc (.cells #[.int .i64 (x : Int), .int .i64 (y : Int), .slice a m cap] 24)).alloc (.cells #[.int .i64 lo] 3)).alloc (.cells #[.int .i64 hi] 3)).alloc (.cells #[.int .i64 0, .int .i64 0, .slice none 0 0] 24)) := ⟨_, rfl⟩
  have F0 : Fr (fun _ => False) w W := by rw [hW]; exact (((((Fr.refl _ w).alloc _).alloc _).alloc _).alloc _)
  have hsz : W.heap.size = w.heap.size + 4 := by rw [hW]; simp
  have O0 : Blk W w.heap.size #[.int .i64 (x : Int), .int .i64 (y : Int), .slice a m cap] 24 := by
    rw [hW]
    have := Blk.new (w) #[.int .i64 (x : Int), .int .i64 (y : Int), .slice a m cap] 24
    first | exact (((this.alloc _).alloc _).alloc _) | (simp at this; exact (((this.alloc _).alloc _).alloc _))
  have O1 : Blk W (w.heap.size + 1) #[.int .i64 lo] 3 := by
    rw [hW]
    have := Blk.new ((w.alloc (.cells #[.int .i64 (x : Int), .int .i64 (y : Int), .slice a m cap] 24))) #[.int .i64 lo] 3
    first | exact ((this.alloc _).alloc _) | (simp at this; exact ((this.alloc _).alloc _))
  have O2 : Blk W (w.heap.size + 2) #[.int .i64 hi] 3 := by
    rw [hW]
    have := Blk.new (((w.alloc (.cells #[.int .i64 (x : Int), .int .i64 (y : Int), .slice a m cap] 24)).alloc (.cells #[.int .i64 lo] 3))) #[.int .i64 hi] 3
    first | exact (this.alloc _) | (simp at this; exact (this.alloc _))
  have O3 : Blk W (w.heap.size + 3) #[.int .i64 0, .int .i64 0, .slice none 0 0] 24 := by
    rw [hW]
    have := Blk.new ((((w.alloc (.cells #[.int .i64 (x : Int), .int .i64 (y : Int), .slice a m cap] 24)).alloc (.cells #[.int .i64 lo] 3)).alloc (.cells #[.int .i64 hi] 3))) #[.int .i64 0, .int .i64 0, .slice none 0 0] 24
    first | exact this | (simp at this; exact this)
  have HW := hid hW
  clear hW
  have c00 : W.cell? ⟨w.heap.size, 0, none⟩ = some (.int .i64 (x : Int)) := by rw [O0.cell]; rfl
  have c01 : W.cell? ⟨w.heap.size, 1, none⟩ = some (.int .i64 (y : Int)) := by rw [O0.cell]; rfl
  have c02 : W.cell? ⟨w.heap.size, 2, none⟩ = some (.slice a m cap) := by rw [O0.cell]; rfl
  rw [HW.out] at c00 c01 c02
  go_enter Try.func12, Try.ntmps12
  go_wp2_with fail
  rw [← HW.out]
  have RB := O3
  have FB := F0
  refine (HT.out W FB O1 O2).mono ?_
  intro e w3 hM
  clear HT O0 O1 O2 O3 F0 HW c00 c01 c02
  obtain ⟨a1, cap1, b1, rfl, hn1, hb1, f3⟩ := hM
  have B2 := RB.fr f3 (fun h => h)
  have hRl := RB.lt
  have z0 : w3.cell? ⟨w.heap.size + 3, 0, none⟩ = some (.int .i64 0) := by rw [B2.cell]; rfl
  have z1 : w3.cell? ⟨w.heap.size + 3, 1, none⟩ = some (.int .i64 0) := by rw [B2.cell]; rfl
  have z2 : w3.cell? ⟨w.heap.size + 3, 2, none⟩ = some (.slice none 0 0) := by rw [B2.cell]; rfl
  have zf := B2.thaw
  have HB2 := hid B2
  have HN1 := hid hn1
  have HF3 := hid (FB.trans' f3)
  clear B2 hn1 f3 RB FB
  go_wp2
  refine bodyPost_ret (v := .agg #[.int .i64 (x : Int), .int .i64 (y : Int), .slice a1 m cap1]) ?_ rfl ⟨a1, cap1, b1, rfl, ?_, fun h => ⟨by have := (hb1 h).1; omega, ?_⟩, ?_⟩
  · refine results_cell_row rfl _ _ (w.heap.size + 3) 24 _ (0, 0) _ rfl (show Blk _ _ _ _ from ?_) Try.underlying24 rfl Try.info_plane
    simpa using ((HB2.out.set 0 (.int .i64 (x : Int))).set 1 (.int .i64 (y : Int))).set 2 (.slice a1 m cap1)
  · exact HN1.out.fr ((((Fr.refl (fun j => j = w.heap.size + 3) w3).setCell (fun _ => rfl) _).setCell (fun _ => rfl) _).setCell (fun _ => rfl) _) (fun h e => by have := (hb1 h).1; omega)
  · exact (hb1 h).2.fr ((((Fr.refl (fun j => j = w.heap.size + 3) w3).setCell (fun _ => rfl) _).setCell (fun _ => rfl) _).setCell (fun _ => rfl) _) (fun e => by have := (hb1 h).1; omega)
  · exact (((HF3.out.setNew (by show _ ≤ w.heap.size + 3; omega) _).setNew (by show _ ≤ w.heap.size + 3; omega) _).setNew (by show _ ≤ w.heap.size + 3; omega) _)

theorem pclip_bad (X Y : Int) (a : Option Addr) (n cap : Nat) (lo hi : Int) (w : World) (hR : rightP X Y n = false) :
    Calls Try.prog 12 #[.agg #[.int .i64 X, .int .i64 Y, .slice a n cap], .int .i64 lo, .int .i64 hi] w fun e w' => Made w w' e 0 0 0 (fun _ => 0) := by
  obtain ⟨W, hW⟩ : ∃ W, W = ((((w.alloc (.cells #[.int .i64 X, .int .i64 Y, .slice a n cap] 24)).alloc (.cells #[.int .i64 lo] 3)).alloc (.cells #[.int .i64 hi] 3)).alloc (.cells #[.int .i64 0, .int .i64 0, .slice none 0 0] 24)) := ⟨_, rfl⟩
  have F0 : Fr (fun _ => False) w W := by rw [hW]; exact (((((Fr.refl _ w).alloc _).alloc _).alloc _).alloc _)
  have hsz : W.heap.size = w.heap.size + 4 := by rw [hW]; simp
  have O0 : Blk W w.heap.size #[.int .i64 X, .int .i64 Y, .slice a n cap] 24 := by
    rw [hW]
    have := Blk.new (w) #[.int .i64 X, .int .i64 Y, .slice a n cap] 24
    first | exact (((this.alloc _).alloc _).alloc _) | (simp at this; exact (((this.alloc _).alloc _).alloc _))
  have O1 : Blk W (w.heap.size + 1) #[.int .i64 lo] 3 := by
    rw [hW]
    have := Blk.new ((w.alloc (.cells #[.int .i64 X, .int .i64 Y, .slice a n cap] 24))) #[.int .i64 lo] 3
    first | exact ((this.alloc _).alloc _) | (simp at this; exact ((this.alloc _).alloc _))
  have O2 : Blk W (w.heap.size + 2) #[.int .i64 hi] 3 := by
    rw [hW]
    have := Blk.new (((w.alloc (.cells #[.int .i64 X, .int .i64 Y, .slice a n cap] 24)).alloc (.cells #[.int .i64 lo] 3))) #[.int .i64 hi] 3
    first | exact (this.alloc _) | (simp at this; exact (this.alloc _))
  have O3 : Blk W (w.heap.size + 3) #[.int .i64 0, .int .i64 0, .slice none 0 0] 24 := by
    rw [hW]
    have := Blk.new ((((w.alloc (.cells #[.int .i64 X, .int .i64 Y, .slice a n cap] 24)).alloc (.cells #[.int .i64 lo] 3)).alloc (.cells #[.int .i64 hi] 3))) #[.int .i64 0, .int .i64 0, .slice none 0 0] 24
    first | exact this | (simp at this; exact this)
  have HW := hid hW
  clear hW
  have c00 : W.cell? ⟨w.heap.size, 0, none⟩ = some (.int .i64 X) := by rw [O0.cell]; rfl
  have c01 : W.cell? ⟨w.heap.size, 1, none⟩ = some (.int .i64 Y) := by rw [O0.cell]; rfl
  have c02 : W.cell? ⟨w.heap.size, 2, none⟩ = some (.slice a n cap) := by rw [O0.cell]; rfl
  rw [HW.out] at c00 c01 c02
  go_enter Try.func12, Try.ntmps12
  go_wp2_with fail
  rw [← HW.out]
  have RB := O3
  have FB := F0
  refine (pturned_bad X Y a n cap _ W hR).mono ?_
  intro e w3 hM
  clear O0 O1 O2 O3 F0 HW c00 c01 c02
  obtain ⟨a1, cap1, b1, rfl, hn1, hb1, f3⟩ := hM
  have B2 := RB.fr f3 (fun h => h)
  have hRl := RB.lt
  have z0 : w3.cell? ⟨w.heap.size + 3, 0, none⟩ = some (.int .i64 0) := by rw [B2.cell]; rfl
  have z1 : w3.cell? ⟨w.heap.size + 3, 1, none⟩ = some (.int .i64 0) := by rw [B2.cell]; rfl
  have z2 : w3.cell? ⟨w.heap.size + 3, 2, none⟩ = some (.slice none 0 0) := by rw [B2.cell]; rfl
  have zf := B2.thaw
  have HB2 := hid B2
  have HN1 := hid hn1
  have HF3 := hid (FB.trans' f3)
  clear B2 hn1 f3 RB FB
  go_wp2
  refine bodyPost_ret (v := .agg #[.int .i64 0, .int .i64 0, .slice a1 0 cap1]) ?_ rfl ⟨a1, cap1, b1, rfl, ?_, fun h => ⟨by have := (hb1 h).1; omega, ?_⟩, ?_⟩
  · refine results_cell_row rfl _ _ (w.heap.size + 3) 24 _ (0, 0) _ rfl (show Blk _ _ _ _ from ?_) Try.underlying24 rfl Try.info_plane
    simpa using ((HB2.out.set 0 (.int .i64 0)).set 1 (.int .i64 0)).set 2 (.slice a1 0 cap1)
  · exact HN1.out.fr ((((Fr.refl (fun j => j = w.heap.size + 3) w3).setCell (fun _ => rfl) _).setCell (fun _ => rfl) _).setCell (fun _ => rfl) _) (fun h e => by have := (hb1 h).1; omega)
  · exact (hb1 h).2.fr ((((Fr.refl (fun j => j = w.heap.size + 3) w3).setCell (fun _ => rfl) _).setCell (fun _ => rfl) _).setCell (fun _ => rfl) _) (fun e => by have := (hb1 h).1; omega)
  · exact (((HF3.out.setNew (by show _ ≤ w.heap.size + 3; omega) _).setNew (by show _ ≤ w.heap.size + 3; omega) _).setNew (by show _ ≤ w.heap.size + 3; omega) _)
end Go.Proofs.Ythhhecdnnbgddaa
