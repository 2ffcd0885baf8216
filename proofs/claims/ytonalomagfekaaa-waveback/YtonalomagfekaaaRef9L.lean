/-
  The document's answer for layer 9: a level of a plane by itself, there.
-/
import Derived.Test.YtonalomagfekaaaRef9R
namespace Go.Proofs.Ytonalomagfekaaa
open Go.RowKit

/-- Rows that are columns, turned as rows, are columns again. -/
theorem turn_rows {x y : Nat} {G : Grid} (L : (Nat → Int) → Nat → Int) (hL : ∀ U U' : Nat → Int, (∀ j, j < y → U j = U' j) → ∀ i, i < y → L U i = L U' i) {V : Nat → Int} (hV : ∀ j, j < x * y → V j = flatG x G j) {j : Nat} (hj : j < x * y) :
    turnV y x (flatG y fun r c => L (gridV y (turnV x y V) r) c) j = flatG x (fun r c => L (fun i => G i c) r) j := by
  have h1 := row_lt hj
  have h2 := col_lt hj
  unfold turnV
  rw [flatG_at h1]
  show _ = L (fun i => G i (j % x)) (j / x)
  refine hL _ _ (fun i hi => ?_) _ h1
  show turnV x y V (j % x * y + i) = G i (j % x)
  rw [turnV_at hi, hV _ (flat_lt h2 hi), flatG_at h2]
theorem RowC.numsC {w : World} {g n cap : Nat} {V : Nat → Int} (h : RowC w g n V) (h1 : n ≤ cap) (h2 : cap ≤ maxLen) : Nums w (some ⟨g, 0, none⟩) n cap V g := h.nums h1 h2

set_option maxHeartbeats 2000000 in
theorem rlevel_go (f : Nat) (hf : f ≤ 4) (x y : Nat) (a : Option Addr) (m cap : Nat) (V : Nat → Int) (b : Nat) (w : World) (ex : Even2 x) (hx' : x ≤ 1024) (ey : Even2 y) (hy' : y ≤ 1024) (hm : x * y = m) (h : Nums w a m cap V b) :
    Calls Try.prog 22 #[.int .i64 (f : Int), .agg #[.int .i64 (x : Int), .int .i64 (y : Int), .slice a m cap]] w fun e w' => ∃ g, e = .returned (.agg #[.int .i64 (x : Int), .int .i64 (y : Int), .slice (some ⟨g, 0, none⟩) m m]) ∧ Row w' g m (flatG x (levelF f x y (gridV x V))) ∧ w.heap.size ≤ g ∧ Fr (fun _ => False) w w' := by
  have hmm : m ≤ 1048576 := by rw [← hm]; exact mul_most hx' hy'
  have hx1 : 2 ≤ x := ex.1
  have hy1 : 2 ≤ y := ey.1
  have hm' : y * x = m := by rw [Nat.mul_comm]; exact hm
  obtain ⟨W, hW⟩ : ∃ W, W = (w.alloc (.cells #[.int .i64 (x : Int), .int .i64 (y : Int), .slice a m cap] 25)).alloc (.cells #[.int .i64 0, .int .i64 0, .slice none 0 0] 25) := ⟨_, rfl⟩
  have F0 : Fr (fun _ => False) w W := by rw [hW]; exact ((Fr.refl _ w).alloc _).alloc _
  have O0 : Blk W w.heap.size #[.int .i64 (x : Int), .int .i64 (y : Int), .slice a m cap] 25 := by rw [hW]; exact (Blk.new _ _ _).alloc _
  have O1 : Blk W (w.heap.size + 1) #[.int .i64 0, .int .i64 0, .slice none 0 0] 25 := by
    rw [hW]
    have := Blk.new (w.alloc (.cells #[.int .i64 (x : Int), .int .i64 (y : Int), .slice a m cap] 25)) #[.int .i64 0, .int .i64 0, .slice none 0 0] 25
    simpa using this
  have N0 := h.quiet F0
  have hb0 : b < w.heap.size := h.lt (by rw [← hm]; exact Nat.mul_pos (by omega) (by omega))
  have hs0 := O1.lt
  have HW := hid hW
  clear hW h
  by_cases h3 : f = 3
  · have hb3 : ((f : Int) == 3) = true := by rw [h3]; rfl
    have hn3 : ((f : Int) != 3) = false := by rw [h3]; rfl
    have HFin : Hid (∀ j, j < x * y → turnV y x (flatG y (rowsF f y (gridV y (turnV x y (flatG x (rowsF f x (gridV x V))))))) j = flatG x (levelF f x y (gridV x V)) j) := fun j hj => by
      have e : dblG f (gridV x V) = gridV x V := by funext r c; unfold dblG; rw [if_pos h3]
      unfold levelF
      rw [e]
      exact turn_rows (fwdL f y) (fun U U' h i hi => fwdL_congr ey.1 ey.2 h hi) (fun _ _ => rfl) hj
    clear h3
    go_enter Try.func22, Try.ntmps22
    have c0 : W.cell? ⟨w.heap.size, 0, none⟩ = some (.int .i64 (x : Int)) := by rw [O0.cell]; rfl
    have c1 : W.cell? ⟨w.heap.size, 1, none⟩ = some (.int .i64 (y : Int)) := by rw [O0.cell]; rfl
    have c2 : W.cell? ⟨w.heap.size, 2, none⟩ = some (.slice a m cap) := by rw [O0.cell]; rfl
    rw [HW.out] at c0 c1 c2
    go_wp2_with fail
    rw [← HW.out]
    clear c0 c1 c2
    refine (rrowsF_go f hf x y a m cap V b W ex hx' (by omega) hy' hm N0).mono ?_
    rintro e w2 ⟨g2, cap2, rfl, r2, l2, k2, lg2, f2⟩
    have F2 := F0.trans' f2
    have P2 := O0.fr f2 (fun h => h)
    have Z2 := O1.fr f2 (fun h => h)
    have hz2 := O1.lt
    have d0 : w2.cell? ⟨w.heap.size, 0, none⟩ = some (.int .i64 (x : Int)) := by rw [P2.cell]; rfl
    have d1 : w2.cell? ⟨w.heap.size, 1, none⟩ = some (.int .i64 (y : Int)) := by rw [P2.cell]; rfl
    have d2 : w2.cell? ⟨w.heap.size, 2, none⟩ = some (.slice a m cap) := by rw [P2.cell]; rfl
    have df := P2.thaw
    obtain ⟨W4, hW4⟩ : ∃ W', W' = stored3 w2 w.heap.size (.int .i64 (x : Int)) (.int .i64 (y : Int)) (.slice (some ⟨g2, 0, none⟩) m cap2) := ⟨_, rfl⟩
    have PW4 : Blk W4 w.heap.size #[.int .i64 (x : Int), .int .i64 (y : Int), .slice (some ⟨g2, 0, none⟩) m cap2] 25 := by rw [hW4]; exact P2.put3 _ _ _
    have ZW4 : Blk W4 (w.heap.size + 1) #[.int .i64 0, .int .i64 0, .slice none 0 0] 25 := by rw [hW4]; exact Z2.fr (fr_put3 _ _ _ _ _) (by omega)
    have FPW4 : Fr (fun j => j = w.heap.size) w2 W4 := by rw [hW4]; exact fr_put3 _ _ _ _ _
    have HPW4 : Hid (W4 = ((w2.setCell ⟨w.heap.size, 0, none⟩ (.int .i64 (x : Int))).setCell ⟨w.heap.size, 1, none⟩ (.int .i64 (y : Int))).setCell ⟨w.heap.size, 2, none⟩ (.slice (some ⟨g2, 0, none⟩) m cap2)) := hW4
    clear hW4
    have r4 := r2.fr FPW4 (by omega)
    have F4 : Fr (fun _ => False) w W4 := F2.trans FPW4 (fun i hi e => by omega)
    have HVV : Hid (∀ j, j < x * y → flatG x (rowsF f x (gridV x V)) j = flatG x (rowsF f x (gridV x V)) j) := fun _ _ => rfl
    clear r2 f2 P2 Z2 F2 FPW4
    have c0 : W4.cell? ⟨w.heap.size, 0, none⟩ = some (.int .i64 (x : Int)) := by rw [PW4.cell]; rfl
    have c1 : W4.cell? ⟨w.heap.size, 1, none⟩ = some (.int .i64 (y : Int)) := by rw [PW4.cell]; rfl
    have c2 : W4.cell? ⟨w.heap.size, 2, none⟩ = some (.slice (some ⟨g2, 0, none⟩) m cap2) := by rw [PW4.cell]; rfl
    rw [HPW4.out] at c0 c1 c2
    go_wp2_with fail
    rw [← HPW4.out]
    clear c0 c1 c2 d0 d1 d2 df
    refine (rturn_go x y _ m cap2 _ g2 W4 (by omega) hx' (by omega) hy' hm (r4.nums l2 k2)).mono ?_
    rintro e w5 ⟨g5, rfl, r5, lg5, f5⟩
    have F5 := F4.trans' f5
    have Z5 := ZW4.fr f5 (fun h => h)
    go_wp2_with fail
    refine (rrowsF_go f hf y x _ m m _ g5 w5 ey hy' (by omega) hx' hm' (r5.nums (by unfold maxLen; omega))).mono ?_
    rintro e w6 ⟨g6, cap6, rfl, r6, l6, k6, lg6, f6⟩
    have F6 := F5.trans' f6
    have Z6 := Z5.fr f6 (fun h => h)
    go_wp2_with fail
    refine (rturn_go y x _ m cap6 _ g6 w6 (by omega) hy' (by omega) hx' hm' (r6.nums l6 k6)).mono ?_
    rintro e w8 ⟨g8, rfl, r8, lg8, f8⟩
    have F8 := F6.trans' f8
    have hz6 := Z6.lt
    have Z8 := Z6.fr f8 (fun h => h)
    have HR8 := hid (r8.congr (V' := flatG x (levelF f x y (gridV x V))) fun j hj => HFin.out _ (by rw [hm]; exact hj))
    have BZ := Z8
    have z0 : w8.cell? ⟨w.heap.size + 1, 0, none⟩ = some (.int .i64 0) := by rw [BZ.cell]; rfl
    have z1 : w8.cell? ⟨w.heap.size + 1, 1, none⟩ = some (.int .i64 0) := by rw [BZ.cell]; rfl
    have z2 : w8.cell? ⟨w.heap.size + 1, 2, none⟩ = some (.slice none 0 0) := by rw [BZ.cell]; rfl
    have zf := BZ.thaw
    have HBZ := hid BZ
    have hg8 : w.heap.size + 1 < g8 := by omega
    have HF8 := hid F8
    clear BZ Z8 Z6 Z5 r4 r5 r6 r8 f5 f6 f8 F4 F5 F6 F8 PW4 ZW4
    go_wp2
    refine bodyPost_ret (v := .agg #[.int .i64 (x : Int), .int .i64 (y : Int), .slice (some ⟨g8, 0, none⟩) m m]) ?_ rfl ⟨g8, rfl, HR8.out.fr (fr_put3 _ _ _ _ _) (by omega), by omega, HF8.out.put3New (by omega) _ _ _⟩
    exact results_cell_row rfl _ _ (w.heap.size + 1) 25 _ (0, 0) _ rfl (show Blk _ _ _ _ from HBZ.out.put3 _ _ _) Try.underlying25 rfl Try.info_plane
  · have hb3 : ((f : Int) == 3) = false := by simp; omega
    have hn3 : ((f : Int) != 3) = true := by simp; omega
    have HFin : Hid (∀ j, j < x * y → turnV y x (flatG y (rowsF f y (gridV y (turnV x y (flatG x (rowsF f x (gridV x fun j => wrap64 (2 * V j)))))))) j = flatG x (levelF f x y (gridV x V)) j) := fun j hj => by
      have e : dblG f (gridV x V) = gridV x fun j => wrap64 (2 * V j) := by funext r c; unfold dblG; rw [if_neg h3]; rfl
      unfold levelF
      rw [e]
      exact turn_rows (fwdL f y) (fun U U' h i hi => fwdL_congr ey.1 ey.2 h hi) (fun _ _ => rfl) hj
    clear h3
    have c0 : W.cell? ⟨w.heap.size, 0, none⟩ = some (.int .i64 (x : Int)) := by rw [O0.cell]; rfl
    have c1 : W.cell? ⟨w.heap.size, 1, none⟩ = some (.int .i64 (y : Int)) := by rw [O0.cell]; rfl
    have c2 : W.cell? ⟨w.heap.size, 2, none⟩ = some (.slice a m cap) := by rw [O0.cell]; rfl
    rw [HW.out] at c0 c1 c2
    go_enter Try.func22, Try.ntmps22
    go_wp2_with fail
    rw [← HW.out]
    clear c0 c1 c2
    refine (rtimes_go x y a m cap V b W (by omega) hx' (by omega) hy' hm N0).mono ?_
    rintro e w1 ⟨g1, rfl, r1, lg1, f1⟩
    have F1 := F0.trans' f1
    have P1 := O0.fr f1 (fun h => h)
    have Z1 := O1.fr f1 (fun h => h)
    have d0 : w1.cell? ⟨w.heap.size, 0, none⟩ = some (.int .i64 (x : Int)) := by rw [P1.cell]; rfl
    have d1 : w1.cell? ⟨w.heap.size, 1, none⟩ = some (.int .i64 (y : Int)) := by rw [P1.cell]; rfl
    have d2 : w1.cell? ⟨w.heap.size, 2, none⟩ = some (.slice a m cap) := by rw [P1.cell]; rfl
    have df := P1.thaw
    obtain ⟨W3, hW3⟩ : ∃ W', W' = stored3 w1 w.heap.size (.int .i64 (x : Int)) (.int .i64 (y : Int)) (.slice (some ⟨g1, 0, none⟩) m m) := ⟨_, rfl⟩
    have PW3 : Blk W3 w.heap.size #[.int .i64 (x : Int), .int .i64 (y : Int), .slice (some ⟨g1, 0, none⟩) m m] 25 := by rw [hW3]; exact P1.put3 _ _ _
    have ZW3 : Blk W3 (w.heap.size + 1) #[.int .i64 0, .int .i64 0, .slice none 0 0] 25 := by rw [hW3]; exact Z1.fr (fr_put3 _ _ _ _ _) (by omega)
    have FPW3 : Fr (fun j => j = w.heap.size) w1 W3 := by rw [hW3]; exact fr_put3 _ _ _ _ _
    have HPW3 : Hid (W3 = ((w1.setCell ⟨w.heap.size, 0, none⟩ (.int .i64 (x : Int))).setCell ⟨w.heap.size, 1, none⟩ (.int .i64 (y : Int))).setCell ⟨w.heap.size, 2, none⟩ (.slice (some ⟨g1, 0, none⟩) m m)) := hW3
    clear hW3
    have r3 := r1.fr FPW3 (by omega)
    have n3 := r3.nums (by unfold maxLen; omega)
    have F3 : Fr (fun _ => False) w W3 := F1.trans FPW3 (fun i hi e => by omega)
    clear r1 f1 P1 Z1 F1 FPW3
    have c0 : W3.cell? ⟨w.heap.size, 0, none⟩ = some (.int .i64 (x : Int)) := by rw [PW3.cell]; rfl
    have c1 : W3.cell? ⟨w.heap.size, 1, none⟩ = some (.int .i64 (y : Int)) := by rw [PW3.cell]; rfl
    have c2 : W3.cell? ⟨w.heap.size, 2, none⟩ = some (.slice (some ⟨g1, 0, none⟩) m m) := by rw [PW3.cell]; rfl
    rw [HPW3.out] at c0 c1 c2
    go_wp2_with fail
    rw [← HPW3.out]
    clear c0 c1 c2 d0 d1 d2 df
    refine (rrowsF_go f hf x y (some ⟨g1, 0, none⟩) m m (fun j => wrap64 (2 * V j)) g1 W3 ex hx' (by omega) hy' hm n3).mono ?_
    rintro e w2 ⟨g2, cap2, rfl, r2, l2, k2, lg2, f2⟩
    have F2 := F3.trans' f2
    have P2 := PW3.fr f2 (fun h => h)
    have Z2 := ZW3.fr f2 (fun h => h)
    have hz2 := ZW3.lt
    have d0 : w2.cell? ⟨w.heap.size, 0, none⟩ = some (.int .i64 (x : Int)) := by rw [P2.cell]; rfl
    have d1 : w2.cell? ⟨w.heap.size, 1, none⟩ = some (.int .i64 (y : Int)) := by rw [P2.cell]; rfl
    have d2 : w2.cell? ⟨w.heap.size, 2, none⟩ = some (.slice (some ⟨g1, 0, none⟩) m m) := by rw [P2.cell]; rfl
    have df := P2.thaw
    obtain ⟨W4, hW4⟩ : ∃ W', W' = stored3 w2 w.heap.size (.int .i64 (x : Int)) (.int .i64 (y : Int)) (.slice (some ⟨g2, 0, none⟩) m cap2) := ⟨_, rfl⟩
    have PW4 : Blk W4 w.heap.size #[.int .i64 (x : Int), .int .i64 (y : Int), .slice (some ⟨g2, 0, none⟩) m cap2] 25 := by rw [hW4]; exact P2.put3 _ _ _
    have ZW4 : Blk W4 (w.heap.size + 1) #[.int .i64 0, .int .i64 0, .slice none 0 0] 25 := by rw [hW4]; exact Z2.fr (fr_put3 _ _ _ _ _) (by omega)
    have FPW4 : Fr (fun j => j = w.heap.size) w2 W4 := by rw [hW4]; exact fr_put3 _ _ _ _ _
    have HPW4 : Hid (W4 = ((w2.setCell ⟨w.heap.size, 0, none⟩ (.int .i64 (x : Int))).setCell ⟨w.heap.size, 1, none⟩ (.int .i64 (y : Int))).setCell ⟨w.heap.size, 2, none⟩ (.slice (some ⟨g2, 0, none⟩) m cap2)) := hW4
    clear hW4
    have r4 := r2.fr FPW4 (by omega)
    have F4 : Fr (fun _ => False) w W4 := F2.trans FPW4 (fun i hi e => by omega)
    have HVV : Hid (∀ j, j < x * y → flatG x (rowsF f x (gridV x (fun j => wrap64 (2 * V j)))) j = flatG x (rowsF f x (gridV x (fun j => wrap64 (2 * V j)))) j) := fun _ _ => rfl
    clear r2 f2 P2 Z2 F2 FPW4
    have c0 : W4.cell? ⟨w.heap.size, 0, none⟩ = some (.int .i64 (x : Int)) := by rw [PW4.cell]; rfl
    have c1 : W4.cell? ⟨w.heap.size, 1, none⟩ = some (.int .i64 (y : Int)) := by rw [PW4.cell]; rfl
    have c2 : W4.cell? ⟨w.heap.size, 2, none⟩ = some (.slice (some ⟨g2, 0, none⟩) m cap2) := by rw [PW4.cell]; rfl
    rw [HPW4.out] at c0 c1 c2
    go_wp2_with fail
    rw [← HPW4.out]
    clear c0 c1 c2 d0 d1 d2 df
    refine (rturn_go x y _ m cap2 _ g2 W4 (by omega) hx' (by omega) hy' hm (r4.nums l2 k2)).mono ?_
    rintro e w5 ⟨g5, rfl, r5, lg5, f5⟩
    have F5 := F4.trans' f5
    have Z5 := ZW4.fr f5 (fun h => h)
    go_wp2_with fail
    refine (rrowsF_go f hf y x _ m m _ g5 w5 ey hy' (by omega) hx' hm' (r5.nums (by unfold maxLen; omega))).mono ?_
    rintro e w6 ⟨g6, cap6, rfl, r6, l6, k6, lg6, f6⟩
    have F6 := F5.trans' f6
    have Z6 := Z5.fr f6 (fun h => h)
    go_wp2_with fail
    refine (rturn_go y x _ m cap6 _ g6 w6 (by omega) hy' (by omega) hx' hm' (r6.nums l6 k6)).mono ?_
    rintro e w8 ⟨g8, rfl, r8, lg8, f8⟩
    have F8 := F6.trans' f8
    have hz6 := Z6.lt
    have Z8 := Z6.fr f8 (fun h => h)
    have HR8 := hid (r8.congr (V' := flatG x (levelF f x y (gridV x V))) fun j hj => HFin.out _ (by rw [hm]; exact hj))
    have BZ := Z8
    have z0 : w8.cell? ⟨w.heap.size + 1, 0, none⟩ = some (.int .i64 0) := by rw [BZ.cell]; rfl
    have z1 : w8.cell? ⟨w.heap.size + 1, 1, none⟩ = some (.int .i64 0) := by rw [BZ.cell]; rfl
    have z2 : w8.cell? ⟨w.heap.size + 1, 2, none⟩ = some (.slice none 0 0) := by rw [BZ.cell]; rfl
    have zf := BZ.thaw
    have HBZ := hid BZ
    have hg8 : w.heap.size + 1 < g8 := by omega
    have HF8 := hid F8
    clear BZ Z8 Z6 Z5 r4 r5 r6 r8 f5 f6 f8 F4 F5 F6 F8 PW4 ZW4
    go_wp2
    refine bodyPost_ret (v := .agg #[.int .i64 (x : Int), .int .i64 (y : Int), .slice (some ⟨g8, 0, none⟩) m m]) ?_ rfl ⟨g8, rfl, HR8.out.fr (fr_put3 _ _ _ _ _) (by omega), by omega, HF8.out.put3New (by omega) _ _ _⟩
    exact results_cell_row rfl _ _ (w.heap.size + 1) 25 _ (0, 0) _ rfl (show Blk _ _ _ _ from HBZ.out.put3 _ _ _) Try.underlying25 rfl Try.info_plane
end Go.Proofs.Ytonalomagfekaaa
