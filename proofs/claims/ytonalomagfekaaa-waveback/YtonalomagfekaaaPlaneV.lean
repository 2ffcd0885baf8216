/-
  Package plane: padded, cropped and turned planes (laid, Pad, Crop, Turn).
-/
import Derived.Test.YtonalomagfekaaaPlaneU
import Derived.Test.YtonalomagfekaaaPlaneE
namespace Go.Proofs.Ytonalomagfekaaa
open Go.RowKit

theorem Made.congr {w w' : World} {e : Ending} {X Y : Int} {n : Nat} {V V' : Nat → Int} (h : Made w w' e X Y n V) (hv : ∀ j, j < n → V j = V' j) : Made w w' e X Y n V' := by
  obtain ⟨a, cap, b, he, hn, r⟩ := h
  exact ⟨a, cap, b, he, hn.congr hv, r⟩

theorem plaid_go (x y u v : Nat) (a : Option Addr) (cap : Nat) (V : Nat → Int) (b : Nat) (w : World) (hu : 1 ≤ u) (hu' : u ≤ 1024) (hv : 1 ≤ v) (hv' : v ≤ 1024) (hx : 1 ≤ x) (hx' : x ≤ 1024) (hy : 1 ≤ y) (hy' : y ≤ 1024) (h : Nums w a (x * y) cap V b) :
    Calls Try.prog 54 #[.agg #[.int .i64 (x : Int), .int .i64 (y : Int), .slice a (x * y) cap], .int .i64 (u : Int), .int .i64 (v : Int)] w fun e w' => Made w w' e u v (u * v) (sizedV x y V u) := by
  have hR := rightP_of hx hx' hy hy'
  obtain ⟨m, hm⟩ : ∃ m : Nat, x * y = m := ⟨_, rfl⟩
  have HT := hid (fun (w1 : World) (f : Fr (fun _ => False) w w1) (hB : Blk w1 w.heap.size #[.int .i64 (x : Int), .int .i64 (y : Int), .slice a (x * y) cap] 25) => (ptold_laid u v x y a cap V b w.heap.size w1 hu hu' hv hv' hx hx' hy hy' (h.quiet f) hB).mono (R' := fun e w' => Made w1 w' e u v (u * v) (sizedV x y V u)) (fun e w' hM => hM.congr (fun j _ => by rw [nearI_nat (by omega), nearI_nat (by omega)]; rfl)))
  rw [hm] at HT hR ⊢
  clear h
  obtain ⟨W, hW⟩ : ∃ W, W = ((w.alloc (.cells #[.int .i64 (x : Int), .int .i64 (y : Int), .slice a m cap] 25)).alloc (.cells #[.int .i64 0, .int .i64 0, .slice none 0 0] 25)) := ⟨_, rfl⟩
  have F0 : Fr (fun _ => False) w W := by rw [hW]; exact (((Fr.refl _ w).alloc _).alloc _)
  have hsz : W.heap.size = w.heap.size + 2 := by rw [hW]; simp
  have O0 : Blk W w.heap.size #[.int .i64 (x : Int), .int .i64 (y : Int), .slice a m cap] 25 := by
    rw [hW]
    have := Blk.new (w) #[.int .i64 (x : Int), .int .i64 (y : Int), .slice a m cap] 25
    first | exact (this.alloc _) | (simp at this; exact (this.alloc _))
  have O1 : Blk W (w.heap.size + 1) #[.int .i64 0, .int .i64 0, .slice none 0 0] 25 := by
    rw [hW]
    have := Blk.new ((w.alloc (.cells #[.int .i64 (x : Int), .int .i64 (y : Int), .slice a m cap] 25))) #[.int .i64 0, .int .i64 0, .slice none 0 0] 25
    first | exact this | (simp at this; exact this)
  have HW := hid hW
  clear hW
  go_enter Try.func54, Try.ntmps54
  go_wp2_with fail
  rw [← HW.out]
  refine (pright_any x y a m cap W).mono ?_
  rintro e w1 ⟨rfl, f1⟩
  rw [hR]
  have P0 := O0.fr f1 (fun h => h)
  have RB := O1.fr f1 (fun h => h)
  have FB := F0.trans' f1
  clear O0 O1 F0 f1 HW
  go_wp2_with fail
  refine (HT.out w1 FB P0).mono ?_
  intro e w3 hM
  clear HT P0 hR hm
  obtain ⟨a1, cap1, b1, rfl, hn1, hb1, f3⟩ := hM
  have B2 := RB.fr f3 (fun h => h)
  have hRl := RB.lt
  have z0 : w3.cell? ⟨w.heap.size + 1, 0, none⟩ = some (.int .i64 0) := by rw [B2.cell]; rfl
  have z1 : w3.cell? ⟨w.heap.size + 1, 1, none⟩ = some (.int .i64 0) := by rw [B2.cell]; rfl
  have z2 : w3.cell? ⟨w.heap.size + 1, 2, none⟩ = some (.slice none 0 0) := by rw [B2.cell]; rfl
  have zf := B2.thaw
  have HB2 := hid B2
  have HN1 := hid hn1
  have HF3 := hid (FB.trans' f3)
  clear B2 hn1 f3 RB FB
  go_wp2
  refine bodyPost_ret (v := .agg #[.int .i64 (u : Int), .int .i64 (v : Int), .slice a1 (u * v) cap1]) ?_ rfl ⟨a1, cap1, b1, rfl, ?_, fun h => ⟨by have := (hb1 h).1; omega, ?_⟩, ?_⟩
  · refine results_cell_row rfl _ _ (w.heap.size + 1) 25 _ (0, 0) _ rfl (show Blk _ _ _ _ from ?_) Try.underlying25 rfl Try.info_plane
    simpa using ((HB2.out.set 0 (.int .i64 (u : Int))).set 1 (.int .i64 (v : Int))).set 2 (.slice a1 (u * v) cap1)
  · exact HN1.out.fr ((((Fr.refl (fun j => j = w.heap.size + 1) w3).setCell (fun _ => rfl) _).setCell (fun _ => rfl) _).setCell (fun _ => rfl) _) (fun h e => by have := (hb1 h).1; omega)
  · exact (hb1 h).2.fr ((((Fr.refl (fun j => j = w.heap.size + 1) w3).setCell (fun _ => rfl) _).setCell (fun _ => rfl) _).setCell (fun _ => rfl) _) (fun e => by have := (hb1 h).1; omega)
  · exact (((HF3.out.setNew (by show _ ≤ w.heap.size + 1; omega) _).setNew (by show _ ≤ w.heap.size + 1; omega) _).setNew (by show _ ≤ w.heap.size + 1; omega) _)

theorem plaid_bad (X Y : Int) (a : Option Addr) (n cap : Nat) (u v : Int) (w : World) (hR : rightP X Y n = false) :
    Calls Try.prog 54 #[.agg #[.int .i64 X, .int .i64 Y, .slice a n cap], .int .i64 u, .int .i64 v] w fun e w' => Made w w' e 0 0 0 (fun _ => 0) := by
  obtain ⟨W, hW⟩ : ∃ W, W = ((w.alloc (.cells #[.int .i64 X, .int .i64 Y, .slice a n cap] 25)).alloc (.cells #[.int .i64 0, .int .i64 0, .slice none 0 0] 25)) := ⟨_, rfl⟩
  have F0 : Fr (fun _ => False) w W := by rw [hW]; exact (((Fr.refl _ w).alloc _).alloc _)
  have hsz : W.heap.size = w.heap.size + 2 := by rw [hW]; simp
  have O0 : Blk W w.heap.size #[.int .i64 X, .int .i64 Y, .slice a n cap] 25 := by
    rw [hW]
    have := Blk.new (w) #[.int .i64 X, .int .i64 Y, .slice a n cap] 25
    first | exact (this.alloc _) | (simp at this; exact (this.alloc _))
  have O1 : Blk W (w.heap.size + 1) #[.int .i64 0, .int .i64 0, .slice none 0 0] 25 := by
    rw [hW]
    have := Blk.new ((w.alloc (.cells #[.int .i64 X, .int .i64 Y, .slice a n cap] 25))) #[.int .i64 0, .int .i64 0, .slice none 0 0] 25
    first | exact this | (simp at this; exact this)
  have HW := hid hW
  clear hW
  go_enter Try.func54, Try.ntmps54
  go_wp2_with fail
  rw [← HW.out]
  refine (pright_any X Y a n cap W).mono ?_
  rintro e w1 ⟨rfl, f1⟩
  rw [hR]
  have RB := O1.fr f1 (fun h => h)
  have FB := F0.trans' f1
  clear O0 O1 F0 f1 HW
  have hRl := RB.lt
  have z0 : w1.cell? ⟨w.heap.size + 1, 0, none⟩ = some (.int .i64 0) := by rw [RB.cell]; rfl
  have z1 : w1.cell? ⟨w.heap.size + 1, 1, none⟩ = some (.int .i64 0) := by rw [RB.cell]; rfl
  have z2 : w1.cell? ⟨w.heap.size + 1, 2, none⟩ = some (.slice none 0 0) := by rw [RB.cell]; rfl
  have zf := RB.thaw
  have HB2 := hid RB
  have HF3 := hid FB
  clear RB FB
  go_wp2
  refine bodyPost_ret (v := .agg #[.int .i64 0, .int .i64 0, .slice none 0 0]) ?_ rfl (Made.zero ?_ _)
  · refine results_cell_row rfl _ _ (w.heap.size + 1) 25 _ (0, 0) _ rfl (show Blk _ _ _ _ from ?_) Try.underlying25 rfl Try.info_plane
    simpa using ((HB2.out.set 0 (.int .i64 0)).set 1 (.int .i64 0)).set 2 (.slice none 0 0)
  · exact (((HF3.out.setNew (by show _ ≤ w.heap.size + 1; omega) _).setNew (by show _ ≤ w.heap.size + 1; omega) _).setNew (by show _ ≤ w.heap.size + 1; omega) _)

theorem ppad_go (x y u v : Nat) (a : Option Addr) (cap : Nat) (V : Nat → Int) (b : Nat) (w : World) (hu : 1 ≤ u) (hu' : u ≤ 1024) (hv : 1 ≤ v) (hv' : v ≤ 1024) (hx : 1 ≤ x) (hx' : x ≤ 1024) (hy : 1 ≤ y) (hy' : y ≤ 1024) (hxu : x ≤ u) (hyv : y ≤ v) (h : Nums w a (x * y) cap V b) :
    Calls Try.prog 35 #[.agg #[.int .i64 (x : Int), .int .i64 (y : Int), .slice a (x * y) cap], .int .i64 (u : Int), .int .i64 (v : Int)] w fun e w' => Made w w' e u v (u * v) (sizedV x y V u) := by
  have hc1 : ¬ (u : Int) < (x : Int) := by omega
  have hc2 : ¬ (v : Int) < (y : Int) := by omega
  obtain ⟨m, hm⟩ : ∃ m : Nat, x * y = m := ⟨_, rfl⟩
  have HT := hid (fun (w1 : World) (f : Fr (fun _ => False) w w1) => plaid_go x y u v a cap V b w1 hu hu' hv hv' hx hx' hy hy' (h.quiet f))
  rw [hm] at HT ⊢
  clear h
  obtain ⟨W, hW⟩ : ∃ W, W = ((w.alloc (.cells #[.int .i64 (x : Int), .int .i64 (y : Int), .slice a m cap] 25)).alloc (.cells #[.int .i64 0, .int .i64 0, .slice none 0 0] 25)) := ⟨_, rfl⟩
  have F0 : Fr (fun _ => False) w W := by rw [hW]; exact (((Fr.refl _ w).alloc _).alloc _)
  have hsz : W.heap.size = w.heap.size + 2 := by rw [hW]; simp
  have O0 : Blk W w.heap.size #[.int .i64 (x : Int), .int .i64 (y : Int), .slice a m cap] 25 := by
    rw [hW]
    have := Blk.new (w) #[.int .i64 (x : Int), .int .i64 (y : Int), .slice a m cap] 25
    first | exact (this.alloc _) | (simp at this; exact (this.alloc _))
  have O1 : Blk W (w.heap.size + 1) #[.int .i64 0, .int .i64 0, .slice none 0 0] 25 := by
    rw [hW]
    have := Blk.new ((w.alloc (.cells #[.int .i64 (x : Int), .int .i64 (y : Int), .slice a m cap] 25))) #[.int .i64 0, .int .i64 0, .slice none 0 0] 25
    first | exact this | (simp at this; exact this)
  have HW := hid hW
  clear hW
  have c0 : W.cell? ⟨w.heap.size, 0, none⟩ = some (.int .i64 (x : Int)) := by rw [O0.cell]; rfl
  have c1 : W.cell? ⟨w.heap.size, 1, none⟩ = some (.int .i64 (y : Int)) := by rw [O0.cell]; rfl
  have c2 : W.cell? ⟨w.heap.size, 2, none⟩ = some (.slice a m cap) := by rw [O0.cell]; rfl
  rw [HW.out] at c0 c1 c2
  go_enter Try.func35, Try.ntmps35
  go_wp2_with fail
  rw [← HW.out]
  have RB := O1
  have FB := F0
  refine (HT.out W FB).mono ?_
  intro e w3 hM
  clear HT O0 O1 F0 HW hm c0 c1 c2
  obtain ⟨a1, cap1, b1, rfl, hn1, hb1, f3⟩ := hM
  have B2 := RB.fr f3 (fun h => h)
  have hRl := RB.lt
  have z0 : w3.cell? ⟨w.heap.size + 1, 0, none⟩ = some (.int .i64 0) := by rw [B2.cell]; rfl
  have z1 : w3.cell? ⟨w.heap.size + 1, 1, none⟩ = some (.int .i64 0) := by rw [B2.cell]; rfl
  have z2 : w3.cell? ⟨w.heap.size + 1, 2, none⟩ = some (.slice none 0 0) := by rw [B2.cell]; rfl
  have zf := B2.thaw
  have HB2 := hid B2
  have HN1 := hid hn1
  have HF3 := hid (FB.trans' f3)
  clear B2 hn1 f3 RB FB
  go_wp2
  refine bodyPost_ret (v := .agg #[.int .i64 (u : Int), .int .i64 (v : Int), .slice a1 (u * v) cap1]) ?_ rfl ⟨a1, cap1, b1, rfl, ?_, fun h => ⟨by have := (hb1 h).1; omega, ?_⟩, ?_⟩
  · refine results_cell_row rfl _ _ (w.heap.size + 1) 25 _ (0, 0) _ rfl (show Blk _ _ _ _ from ?_) Try.underlying25 rfl Try.info_plane
    simpa using ((HB2.out.set 0 (.int .i64 (u : Int))).set 1 (.int .i64 (v : Int))).set 2 (.slice a1 (u * v) cap1)
  · exact HN1.out.fr ((((Fr.refl (fun j => j = w.heap.size + 1) w3).setCell (fun _ => rfl) _).setCell (fun _ => rfl) _).setCell (fun _ => rfl) _) (fun h e => by have := (hb1 h).1; omega)
  · exact (hb1 h).2.fr ((((Fr.refl (fun j => j = w.heap.size + 1) w3).setCell (fun _ => rfl) _).setCell (fun _ => rfl) _).setCell (fun _ => rfl) _) (fun e => by have := (hb1 h).1; omega)
  · exact (((HF3.out.setNew (by show _ ≤ w.heap.size + 1; omega) _).setNew (by show _ ≤ w.heap.size + 1; omega) _).setNew (by show _ ≤ w.heap.size + 1; omega) _)

end Go.Proofs.Ytonalomagfekaaa
