/-
  The document's answer for layer 9: a level of a plane by itself, back.
-/
import Derived.Test.YtonalomagfekaaaRef9L
namespace Go.Proofs.Ytonalomagfekaaa
open Go.RowKit

set_option maxHeartbeats 1000000 in
theorem rback_go (f : Nat) (hf : f ≤ 4) (x y : Nat) (a : Option Addr) (m cap : Nat) (V : Nat → Int) (b : Nat) (w : World) (ex : Even2 x) (hx' : x ≤ 1024) (ey : Even2 y) (hy' : y ≤ 1024) (hm : x * y = m) (h : Nums w a m cap V b) :
    Calls Try.prog 33 #[.int .i64 (f : Int), .agg #[.int .i64 (x : Int), .int .i64 (y : Int), .slice a m cap]] w fun e w' => MadeC w w' e x y m (flatG x (levelB f x y (gridV x V))) := by
  have hmm : m ≤ 1048576 := by rw [← hm]; exact mul_most hx' hy'
  have hx1 : 2 ≤ x := ex.1
  have hy1 : 2 ≤ y := ey.1
  have hm' : y * x = m := by rw [Nat.mul_comm]; exact hm
  obtain ⟨W, hW⟩ : ∃ W, W = (w.alloc (.cells #[.int .i64 (x : Int), .int .i64 (y : Int), .slice a m cap] 25)).alloc (.cells #[.int .i64 0, .int .i64 0, .slice none 0 0] 25) := ⟨_, rfl⟩
  have F0 : Fr (fun _ => False) w W := by rw [hW]; exact ((Fr.refl _ w).alloc _).alloc _
  have O0 : Blk W w.heap.size #[.int .i64 (x : Int), .int .i64 (y : Int), .slice a m cap] 25 := by rw [hW]; exact (Blk.new _ _ _).alloc _
  have O1 : Blk W (w.heap.size + 1) #[.int .i64 0, .int .i64 0, .slice none 0 0] 25 := by
    rw [hW]
    have := Blk.new (w.alloc (.cells #[.int .i64 (x : Int), .int .i64 (y : Int), .slice a m cap] 25)) #[.int .i64 0, .int .i64 0, .slice none 0 0] 25
    simpa using this
  have N0 := h.quiet F0
  have hb0 : b < w.heap.size := h.lt (by rw [← hm]; exact Nat.mul_pos (by omega) (by omega))
  have hs0 := O1.lt
  have HW := hid hW
  clear hW h
  have HG1 : Hid (∀ j, j < x * y → turnV y x (flatG y (rowsB f y (gridV y (turnV x y V)))) j = flatG x (colsB f y (gridV x V)) j) := fun j hj => turn_rows (bwdL f y) (fun U U' h i hi => bwdL_congr ey.1 ey.2 h hi) (fun j _ => (flatG_grid x V j).symm) hj
  have HG2 : Hid (∀ j, j < x * y → flatG x (rowsB f x (gridV x (flatG x (colsB f y (gridV x V))))) j = flatG x (rowsB f x (colsB f y (gridV x V))) j) := fun j hj => flatG_congr (H := y) (rowsB_congr ex fun r c hr hc => gridV_flat hc) hj
  have c0 : W.cell? ⟨w.heap.size, 0, none⟩ = some (.int .i64 (x : Int)) := by rw [O0.cell]; rfl
  have c1 : W.cell? ⟨w.heap.size, 1, none⟩ = some (.int .i64 (y : Int)) := by rw [O0.cell]; rfl
  have c2 : W.cell? ⟨w.heap.size, 2, none⟩ = some (.slice a m cap) := by rw [O0.cell]; rfl
  rw [HW.out] at c0 c1 c2
  go_enter Try.func33, Try.ntmps33
  go_wp2_with fail
  rw [← HW.out]
  clear c0 c1 c2
  refine (rturn_go x y _ m cap _ b W (by omega) hx' (by omega) hy' hm N0).mono ?_
  rintro e w5 ⟨g5, rfl, r5, lg5, f5⟩
  have F5 := F0.trans' f5
  have Z5 := O1.fr f5 (fun h => h)
  have P5 := O0.fr f5 (fun h => h)
  go_wp2_with fail
  refine (rrowsB_go f hf y x _ m m _ g5 w5 ey hy' (by omega) hx' hm' (r5.nums (by unfold maxLen; omega))).mono ?_
  rintro e w6 ⟨g6, cap6, rfl, r6, l6, k6, lg6, f6⟩
  have F6 := F5.trans' f6
  have Z6 := Z5.fr f6 (fun h => h)
  have P6 := P5.fr f6 (fun h => h)
  go_wp2_with fail
  refine (rturn_go y x _ m cap6 _ g6 w6 (by omega) hy' (by omega) hx' hm' (r6.nums l6 k6)).mono ?_
  rintro e w7 ⟨g7, rfl, r7, lg7, f7⟩
  have F7 := F6.trans' f7
  have hz6 := Z6.lt
  have Z7 := Z6.fr f7 (fun h => h)
  have P7 := P6.fr f7 (fun h => h)
  have d0 : w7.cell? ⟨w.heap.size, 0, none⟩ = some (.int .i64 (x : Int)) := by rw [P7.cell]; rfl
  have d1 : w7.cell? ⟨w.heap.size, 1, none⟩ = some (.int .i64 (y : Int)) := by rw [P7.cell]; rfl
  have d2 : w7.cell? ⟨w.heap.size, 2, none⟩ = some (.slice a m cap) := by rw [P7.cell]; rfl
  have df := P7.thaw
  obtain ⟨W3, hW3⟩ : ∃ W', W' = stored3 w7 w.heap.size (.int .i64 (x : Int)) (.int .i64 (y : Int)) (.slice (some ⟨g7, 0, none⟩) m m) := ⟨_, rfl⟩
  have PW3 : Blk W3 w.heap.size #[.int .i64 (x : Int), .int .i64 (y : Int), .slice (some ⟨g7, 0, none⟩) m m] 25 := by rw [hW3]; exact P7.put3 _ _ _
  have ZW3 : Blk W3 (w.heap.size + 1) #[.int .i64 0, .int .i64 0, .slice none 0 0] 25 := by rw [hW3]; exact Z7.fr (fr_put3 _ _ _ _ _) (by omega)
  have FPW3 : Fr (fun j => j = w.heap.size) w7 W3 := by rw [hW3]; exact fr_put3 _ _ _ _ _
  have HPW3 : Hid (W3 = ((w7.setCell ⟨w.heap.size, 0, none⟩ (.int .i64 (x : Int))).setCell ⟨w.heap.size, 1, none⟩ (.int .i64 (y : Int))).setCell ⟨w.heap.size, 2, none⟩ (.slice (some ⟨g7, 0, none⟩) m m)) := hW3
  clear hW3
  have r3 := (r7.fr FPW3 (by omega)).congr (V' := flatG x (colsB f y (gridV x V))) fun j hj => HG1.out j (by rw [hm]; exact hj)
  have F3 : Fr (fun _ => False) w W3 := F7.trans FPW3 (fun i hi e => by omega)
  clear r5 r6 r7 f5 f6 f7 P5 P6 P7 Z5 Z6 Z7 F5 F6 F7 FPW3
  have c0 : W3.cell? ⟨w.heap.size, 0, none⟩ = some (.int .i64 (x : Int)) := by rw [PW3.cell]; rfl
  have c1 : W3.cell? ⟨w.heap.size, 1, none⟩ = some (.int .i64 (y : Int)) := by rw [PW3.cell]; rfl
  have c2 : W3.cell? ⟨w.heap.size, 2, none⟩ = some (.slice (some ⟨g7, 0, none⟩) m m) := by rw [PW3.cell]; rfl
  rw [HPW3.out] at c0 c1 c2
  go_wp2_with fail
  rw [← HPW3.out]
  clear c0 c1 c2 d0 d1 d2 df
  refine (rrowsB_go f hf x y _ m m _ g7 W3 ex hx' (by omega) hy' hm (r3.nums (by unfold maxLen; omega))).mono ?_
  rintro e w8 ⟨g8, cap8, rfl, r8, l8, k8, lg8, f8⟩
  have F8 := F3.trans' f8
  have P8 := PW3.fr f8 (fun h => h)
  have Z8 := ZW3.fr f8 (fun h => h)
  have hz3 := ZW3.lt
  have d0 : w8.cell? ⟨w.heap.size, 0, none⟩ = some (.int .i64 (x : Int)) := by rw [P8.cell]; rfl
  have d1 : w8.cell? ⟨w.heap.size, 1, none⟩ = some (.int .i64 (y : Int)) := by rw [P8.cell]; rfl
  have d2 : w8.cell? ⟨w.heap.size, 2, none⟩ = some (.slice (some ⟨g7, 0, none⟩) m m) := by rw [P8.cell]; rfl
  have df := P8.thaw
  obtain ⟨W4, hW4⟩ : ∃ W', W' = stored3 w8 w.heap.size (.int .i64 (x : Int)) (.int .i64 (y : Int)) (.slice (some ⟨g8, 0, none⟩) m cap8) := ⟨_, rfl⟩
  have PW4 : Blk W4 w.heap.size #[.int .i64 (x : Int), .int .i64 (y : Int), .slice (some ⟨g8, 0, none⟩) m cap8] 25 := by rw [hW4]; exact P8.put3 _ _ _
  have ZW4 : Blk W4 (w.heap.size + 1) #[.int .i64 0, .int .i64 0, .slice none 0 0] 25 := by rw [hW4]; exact Z8.fr (fr_put3 _ _ _ _ _) (by omega)
  have FPW4 : Fr (fun j => j = w.heap.size) w8 W4 := by rw [hW4]; exact fr_put3 _ _ _ _ _
  have HPW4 : Hid (W4 = ((w8.setCell ⟨w.heap.size, 0, none⟩ (.int .i64 (x : Int))).setCell ⟨w.heap.size, 1, none⟩ (.int .i64 (y : Int))).setCell ⟨w.heap.size, 2, none⟩ (.slice (some ⟨g8, 0, none⟩) m cap8)) := hW4
  clear hW4
  have r4 := (r8.fr FPW4 (by omega)).congr (V' := flatG x (rowsB f x (colsB f y (gridV x V)))) fun j hj => HG2.out j (by rw [hm]; exact hj)
  have F4 : Fr (fun _ => False) w W4 := F8.trans FPW4 (fun i hi e => by omega)
  have hg8 : w.heap.size + 1 < g8 := by omega
  have hcap8 : (cap8 : Int) ≤ 9223372036854775807 := by unfold maxLen at k8; omega
  clear r8 f8 P8 Z8 F8 FPW4 r3 PW3 ZW3
  obtain ⟨U, hU⟩ : ∃ U, U = flatG x (rowsB f x (colsB f y (gridV x V))) := ⟨_, rfl⟩
  rw [← hU] at r4
  have HFin : Hid (∀ j, (if f = 3 then U j else wrap64 (U j + 1) / 2) = flatG x (levelB f x y (gridV x V)) j) := fun j => by
    rw [hU]; rfl
  have HC : Hid (∀ wr, Fr (fun j => j = g8) W4 wr → (wr.cell? ⟨w.heap.size, 0, none⟩ = some (.int .i64 (x : Int)) ∧ wr.cell? ⟨w.heap.size, 1, none⟩ = some (.int .i64 (y : Int)) ∧ wr.cell? ⟨w.heap.size, 2, none⟩ = some (.slice (some ⟨g8, 0, none⟩) m cap8)) ∧ Blk wr (w.heap.size + 1) #[.int .i64 0, .int .i64 0, .slice none 0 0] 25 ∧ Fr (fun _ => False) w wr) := by
    intro wr fr
    have B1 := PW4.fr fr (by omega)
    exact ⟨⟨by rw [B1.cell]; rfl, by rw [B1.cell]; rfl, by rw [B1.cell]; rfl⟩, ZW4.fr fr (by omega), F4.trans fr (fun i hi e => by omega)⟩
  have HR4 := hid r4
  clear r4 F4 PW4 ZW4 hU
  obtain ⟨⟨c0, c1, c2⟩, _, _⟩ := HC.out W4 (Fr.refl _ _)
  rw [HPW4.out] at c0 c1 c2
  by_cases h3 : f = 3
  · have hb3 : ((f : Int) == 3) = true := by rw [h3]; rfl
    have hn3 : ((f : Int) != 3) = false := by rw [h3]; rfl
    have HR := hid (HR4.out.congr (V' := flatG x (levelB f x y (gridV x V))) fun j _ => by rw [← HFin.out, if_pos h3])
    clear h3 c0 c1 c2
    obtain ⟨⟨c0, c1, c2⟩, BZ, FE⟩ := HC.out W4 (Fr.refl _ _)
    have z0 : W4.cell? ⟨w.heap.size + 1, 0, none⟩ = some (.int .i64 0) := by rw [BZ.cell]; rfl
    have z1 : W4.cell? ⟨w.heap.size + 1, 1, none⟩ = some (.int .i64 0) := by rw [BZ.cell]; rfl
    have z2 : W4.cell? ⟨w.heap.size + 1, 2, none⟩ = some (.slice none 0 0) := by rw [BZ.cell]; rfl
    have zf := BZ.thaw
    have HBZ := hid BZ
    have HFE := hid FE
    clear BZ FE
    rw [HPW4.out] at c0 c1 c2 z0 z1 z2 zf
    go_wp2
    rw [← HPW4.out]
    refine bodyPost_ret (v := .agg #[.int .i64 (x : Int), .int .i64 (y : Int), .slice (some ⟨g8, 0, none⟩) m cap8]) ?_ rfl ⟨g8, cap8, rfl, HR.out.fr (fr_put3 _ _ _ _ _) (by omega), l8, k8, by omega, HFE.out.put3New (by omega) _ _ _⟩
    exact results_cell_row rfl _ _ (w.heap.size + 1) 25 _ (0, 0) _ rfl (show Blk _ _ _ _ from HBZ.out.put3 _ _ _) Try.underlying25 rfl Try.info_plane
  · have hb3 : ((f : Int) == 3) = false := by simp; omega
    have hn3 : ((f : Int) != 3) = true := by simp; omega
    have HH3 := hid h3
    clear h3
    go_wp2
    rw [← HPW4.out]
    clear c0 c1 c2 d0 d1 d2 df
    go_loopw [19] (fun i wr => ∃ k : Nat, k ≤ m ∧ i = .int .i64 (k : Int) ∧ RowC wr g8 m (fun j => if j < k then wrap64 (U j + 1) / 2 else U j) ∧ Fr (fun j => j = g8) W4 wr) (fun i _ => m - (intOf i).toNat)
    case atStart => exact ⟨0, Nat.zero_le _, rfl, HR4.out.congr (fun j _ => by rw [if_neg (by omega)]), Fr.refl _ _⟩
    case round =>
      obtain ⟨k, hk, rfl, hr, F⟩ := hrel
      by_cases hlt : k < m
      · have hki : (k : Int) < (m : Int) := by omega
        obtain ⟨⟨c0, c1, c2⟩, _, _⟩ := HC.out wr F
        have ck := hr.cell hlt
        have cf := hr.thaw k
        rw [if_neg (Nat.lt_irrefl k)] at ck
        have HSET : Hid (∀ j, (if j = k then wrap64 (U k + 1) / 2 else if j < k then wrap64 (U j + 1) / 2 else U j) = if j < k + 1 then wrap64 (U j + 1) / 2 else U j) := fun j => by
          by_cases e : j = k
          · rw [if_pos e, if_pos (by omega), e]
          · rw [if_neg e]
            by_cases e2 : j < k
            · rw [if_pos e2, if_pos (by omega)]
            · rw [if_neg e2, if_neg (by omega)]
        generalize U k = z at ck HSET
        have hw64 := wrap64_i64 (z + 1)
        have HD := hid (fun w => r8down_any (wrap64 (z + 1)) 2 (by decide) (by decide) hw64.1 hw64.2 w)
        obtain ⟨q, hq⟩ : ∃ q, q = wrap64 (z + 1) := ⟨_, rfl⟩
        have hwq : IntKind.i64.wrap (z + 1) = q := by rw [hq]; first | rfl | (rw [IntKind.wrap_i64]; rfl) | (rw [IntKind.wrap_i64, wrap64])
        have hwq' : wrap64 (z + 1) = q := hq.symm
        rw [← hq] at HD HSET
        have HR := hid hr
        clear hr hw64 hq
        go_wp2
        refine wp_region_still_tail 11 (by kernel_rfl) (by kernel_rfl) ?_
        show wpStill Try.prog _ wr.drew (fun a' => wpList Try.prog _ _ _ a' wr.drew) _ _
        simp only [List.take_succ_cons, List.take_zero, List.drop_succ_cons, List.drop_zero]
        repeat still_step
        still_call (HD.out _)
        repeat still_step
        refine wpStill_nil ?_
        go_wp2
        go_roundw
        case rel => exact ⟨k + 1, by omega, by go_num, ((HR.out.set k _).congr fun j _ => HSET.out j).fr (Fr.refl (fun _ => False) _).drew (fun h => h), (F.setCell (p := ⟨g8, k, none⟩) (fun _ => rfl) _).drew⟩
        case measure => simp [intOf]; omega
      · have hki : ¬ (k : Int) < (m : Int) := by omega
        have HR := hid (hr.congr (V' := flatG x (levelB f x y (gridV x V))) fun j hj => by rw [← HFin.out, if_neg HH3.out, if_pos (by omega)])
        obtain ⟨⟨c0, c1, c2⟩, BZ, FE⟩ := HC.out wr F
        have z0 : wr.cell? ⟨w.heap.size + 1, 0, none⟩ = some (.int .i64 0) := by rw [BZ.cell]; rfl
        have z1 : wr.cell? ⟨w.heap.size + 1, 1, none⟩ = some (.int .i64 0) := by rw [BZ.cell]; rfl
        have z2 : wr.cell? ⟨w.heap.size + 1, 2, none⟩ = some (.slice none 0 0) := by rw [BZ.cell]; rfl
        have zf := BZ.thaw
        have HBZ := hid BZ
        have HFE := hid FE
        clear BZ FE
        clear hr F
        go_wp2
        refine bodyPost_ret (v := .agg #[.int .i64 (x : Int), .int .i64 (y : Int), .slice (some ⟨g8, 0, none⟩) m cap8]) ?_ rfl ⟨g8, cap8, rfl, HR.out.fr (fr_put3 _ _ _ _ _) (by omega), l8, k8, by omega, HFE.out.put3New (by omega) _ _ _⟩
        exact results_cell_row rfl _ _ (w.heap.size + 1) 25 _ (0, 0) _ rfl (show Blk _ _ _ _ from HBZ.out.put3 _ _ _) Try.underlying25 rfl Try.info_plane
end Go.Proofs.Ytonalomagfekaaa
