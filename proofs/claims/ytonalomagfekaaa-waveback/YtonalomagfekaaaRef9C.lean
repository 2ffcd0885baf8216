/-
  The document's answer for layer 9: the part of a plane, a plane whose numbers are multiplied.
-/
import Derived.Test.YtonalomagfekaaaRef9A
namespace Go.Proofs.Ytonalomagfekaaa
open Go.RowKit

theorem rsub_go (x y u v : Nat) (a : Option Addr) (m cap : Nat) (V : Nat → Int) (b : Nat) (r : Nat) (w : World) (hu : 1 ≤ u) (hu' : u ≤ 1024) (hv : 1 ≤ v) (hv' : v ≤ 1024) (hx : 1 ≤ x) (hx' : x ≤ 1024) (hy : 1 ≤ y) (hy' : y ≤ 1024) (hm : x * y = m) (hr : u * v = r) (h : Nums w a m cap V b) :
    Calls Try.prog 31 #[.agg #[.int .i64 (x : Int), .int .i64 (y : Int), .slice a m cap], .int .i64 (u : Int), .int .i64 (v : Int)] w fun e w' => ∃ g, e = .returned (.agg #[.int .i64 (u : Int), .int .i64 (v : Int), .slice (some ⟨g, 0, none⟩) r r]) ∧ Row w' g r (sizedV x y V u) ∧ w.heap.size ≤ g ∧ Fr (fun _ => False) w w' := by
  have HSz := hid (fun (w1 : World) (f : Fr (fun _ => False) w w1) => rsized_go x y u v a m cap V b r w1 hu hu' hv hv' hx hx' hy hy' hm hr (h.quiet f))
  obtain ⟨W, hW⟩ : ∃ W, W = (w.alloc (.cells #[.int .i64 (x : Int), .int .i64 (y : Int), .slice a m cap] 25)).alloc (.cells #[.int .i64 0, .int .i64 0, .slice none 0 0] 25) := ⟨_, rfl⟩
  have F0 : Fr (fun _ => False) w W := by rw [hW]; exact ((Fr.refl _ w).alloc _).alloc _
  have O0 : Blk W w.heap.size #[.int .i64 (x : Int), .int .i64 (y : Int), .slice a m cap] 25 := by rw [hW]; exact (Blk.new _ _ _).alloc _
  have O1 : Blk W (w.heap.size + 1) #[.int .i64 0, .int .i64 0, .slice none 0 0] 25 := by
    rw [hW]
    have := Blk.new (w.alloc (.cells #[.int .i64 (x : Int), .int .i64 (y : Int), .slice a m cap] 25)) #[.int .i64 0, .int .i64 0, .slice none 0 0] 25
    simpa using this
  have c0 : W.cell? ⟨w.heap.size, 0, none⟩ = some (.int .i64 (x : Int)) := by rw [O0.cell]; rfl
  have c1 : W.cell? ⟨w.heap.size, 1, none⟩ = some (.int .i64 (y : Int)) := by rw [O0.cell]; rfl
  have c2 : W.cell? ⟨w.heap.size, 2, none⟩ = some (.slice a m cap) := by rw [O0.cell]; rfl
  have HW := hid hW
  clear hW h
  rw [HW.out] at c0 c1 c2
  go_enter Try.func31, Try.ntmps31
  go_wp2_with fail
  rw [← HW.out]
  clear c0 c1 c2
  refine (HSz.out W F0).mono ?_
  rintro e w2 ⟨g, rfl, r2, lg, f2⟩
  have HR := hid r2
  have hs1 := O1.lt
  have hs2 := f2.size
  have BZ := O1.fr f2 (fun h => h)
  have FE := F0.trans' f2
  clear O0 O1 F0 HW HSz r2 f2
  have z0 : w2.cell? ⟨w.heap.size + 1, 0, none⟩ = some (.int .i64 0) := by rw [BZ.cell]; rfl
  have z1 : w2.cell? ⟨w.heap.size + 1, 1, none⟩ = some (.int .i64 0) := by rw [BZ.cell]; rfl
  have z2 : w2.cell? ⟨w.heap.size + 1, 2, none⟩ = some (.slice none 0 0) := by rw [BZ.cell]; rfl
  have zf := BZ.thaw
  have HBZ := hid BZ
  have HFE := hid FE
  clear BZ FE
  go_wp2
  refine bodyPost_ret (v := .agg #[.int .i64 (u : Int), .int .i64 (v : Int), .slice (some ⟨g, 0, none⟩) r r]) ?_ rfl ⟨g, rfl, HR.out.fr (fr_put3 _ _ _ _ _) (by omega), by omega, HFE.out.put3New (by omega) _ _ _⟩
  exact results_cell_row rfl _ _ (w.heap.size + 1) 25 _ (0, 0) _ rfl (show Blk _ _ _ _ from HBZ.out.put3 _ _ _) Try.underlying25 rfl Try.info_plane

set_option maxHeartbeats 1000000 in
theorem rtimes_go (x y : Nat) (a : Option Addr) (m cap : Nat) (V : Nat → Int) (b : Nat) (w : World) (hx : 1 ≤ x) (hx' : x ≤ 1024) (hy : 1 ≤ y) (hy' : y ≤ 1024) (hm : x * y = m) (h : Nums w a m cap V b) :
    Calls Try.prog 36 #[.agg #[.int .i64 (x : Int), .int .i64 (y : Int), .slice a m cap], .int .i64 2] w fun e w' => ∃ g, e = .returned (.agg #[.int .i64 (x : Int), .int .i64 (y : Int), .slice (some ⟨g, 0, none⟩) m m]) ∧ Row w' g m (fun j => wrap64 (2 * V j)) ∧ w.heap.size ≤ g ∧ Fr (fun _ => False) w w' := by
  have hmm : m ≤ 1048576 := by rw [← hm]; exact mul_most hx' hy'
  have HSz := hid (fun (w1 : World) (f : Fr (fun _ => False) w w1) => rsized_go x y x y a m cap V b m w1 hx hx' hy hy' hx hx' hy hy' hm hm (h.quiet f))
  obtain ⟨W, hW⟩ : ∃ W, W = (w.alloc (.cells #[.int .i64 (x : Int), .int .i64 (y : Int), .slice a m cap] 25)).alloc (.cells #[.int .i64 0, .int .i64 0, .slice none 0 0] 25) := ⟨_, rfl⟩
  have F0 : Fr (fun _ => False) w W := by rw [hW]; exact ((Fr.refl _ w).alloc _).alloc _
  have O0 : Blk W w.heap.size #[.int .i64 (x : Int), .int .i64 (y : Int), .slice a m cap] 25 := by rw [hW]; exact (Blk.new _ _ _).alloc _
  have O1 : Blk W (w.heap.size + 1) #[.int .i64 0, .int .i64 0, .slice none 0 0] 25 := by
    rw [hW]
    have := Blk.new (w.alloc (.cells #[.int .i64 (x : Int), .int .i64 (y : Int), .slice a m cap] 25)) #[.int .i64 0, .int .i64 0, .slice none 0 0] 25
    simpa using this
  have c0 : W.cell? ⟨w.heap.size, 0, none⟩ = some (.int .i64 (x : Int)) := by rw [O0.cell]; rfl
  have c1 : W.cell? ⟨w.heap.size, 1, none⟩ = some (.int .i64 (y : Int)) := by rw [O0.cell]; rfl
  have c2 : W.cell? ⟨w.heap.size, 2, none⟩ = some (.slice a m cap) := by rw [O0.cell]; rfl
  have HW := hid hW
  clear hW h
  rw [HW.out] at c0 c1 c2
  go_enter Try.func36, Try.ntmps36
  go_wp2_with fail
  rw [← HW.out]
  clear c0 c1 c2
  refine (HSz.out W F0).mono ?_
  rintro e w2 ⟨g, rfl, r2, lg, f2⟩
  have hgl := r2.lt
  have Q1 := O1.fr f2 (fun h => h)
  have F2 := F0.trans' f2
  have hs1 := O1.lt
  have hs2 := f2.size
  obtain ⟨W3, hW3⟩ : ∃ W3, W3 = w2.alloc (.cells #[.int .i64 (x : Int), .int .i64 (y : Int), .slice (some ⟨g, 0, none⟩) m m] 25) := ⟨_, rfl⟩
  obtain ⟨br, hbr⟩ : ∃ br, br = w2.heap.size := ⟨_, rfl⟩
  have F3 : Fr (fun _ => False) w W3 := by rw [hW3]; exact F2.alloc _
  have S1 : Blk W3 (w.heap.size + 1) #[.int .i64 0, .int .i64 0, .slice none 0 0] 25 := by rw [hW3]; exact Q1.alloc _
  have S3 : Blk W3 br #[.int .i64 (x : Int), .int .i64 (y : Int), .slice (some ⟨g, 0, none⟩) m m] 25 := by rw [hW3, hbr]; exact Blk.new _ _ _
  have R4 : Row W3 g m V := by rw [hW3]; exact (r2.quiet ((Fr.refl _ w2).alloc _)).congr fun j hj => sizedV_self (by rw [hm]; exact hj)
  have hgbr : g < br := by omega
  have hwg : w.heap.size + 1 < g := by omega
  have HC : Hid (∀ wr, Fr (fun j => j = g) W3 wr → (wr.cell? ⟨br, 0, none⟩ = some (.int .i64 (x : Int)) ∧ wr.cell? ⟨br, 1, none⟩ = some (.int .i64 (y : Int)) ∧ wr.cell? ⟨br, 2, none⟩ = some (.slice (some ⟨g, 0, none⟩) m m))) := by
    intro wr f
    have T3 := S3.fr f (by omega)
    exact ⟨by rw [T3.cell]; rfl, by rw [T3.cell]; rfl, by rw [T3.cell]; rfl⟩
  have HZB : Hid (∀ wr, Fr (fun j => j = g) W3 wr → Blk wr (w.heap.size + 1) #[.int .i64 0, .int .i64 0, .slice none 0 0] 25 ∧ Fr (fun _ => False) w wr) := fun wr f => ⟨S1.fr f (by omega), F3.trans f (fun i hi e => by omega)⟩
  have HBR := hid hbr
  have HW3 := hid hW3
  clear O0 O1 Q1 S1 S3 F0 F2 F3 f2 r2 hW3 hbr HW HSz hs1 hs2 lg
  go_wp2
  rw [← HW3.out, ← HBR.out]
  go_loopw [16] (fun i wr => ∃ k : Nat, k ≤ m ∧ i = .int .i64 (k : Int) ∧ Row wr g m (fun j => if j < k then wrap64 (2 * V j) else V j) ∧ Fr (fun j => j = g) W3 wr) (fun i _ => m - (intOf i).toNat)
  case atStart => exact ⟨0, Nat.zero_le _, rfl, R4.congr (fun j _ => by rw [if_neg (by omega)]), Fr.refl _ _⟩
  case round =>
    obtain ⟨k, hk, rfl, hr, F⟩ := hrel
    by_cases hlt : k < m
    · have hki : (k : Int) < (m : Int) := by omega
      obtain ⟨d0, d1, d2⟩ := HC.out wr F
      have ck := hr.cell hlt
      have cf := hr.thaw k
      rw [if_neg (Nat.lt_irrefl k)] at ck
      have HSET : Hid (∀ j, (if j = k then wrap64 (V k * 2) else if j < k then wrap64 (2 * V j) else V j) = if j < k + 1 then wrap64 (2 * V j) else V j) := fun j => by
        by_cases e : j = k
        · rw [if_pos e, if_pos (by omega), e, Int.mul_comm]
        · rw [if_neg e]
          by_cases e2 : j < k
          · rw [if_pos e2, if_pos (by omega)]
          · rw [if_neg e2, if_neg (by omega)]
      generalize V k = z at ck HSET
      have HR := hid hr
      clear hr
      go_wp2
      go_roundw
      case rel => exact ⟨k + 1, by omega, by go_num, (HR.out.set k _).congr fun j _ => HSET.out j, F.setCell (p := ⟨g, k, none⟩) (fun _ => rfl) _⟩
      case measure => simp [intOf]; omega
    · have hki : ¬ (k : Int) < (m : Int) := by omega
      obtain ⟨d0, d1, d2⟩ := HC.out wr F
      have HR := hid (hr.congr (V' := fun j => wrap64 (2 * V j)) fun j hj => if_pos (by omega))
      obtain ⟨BZ, FE⟩ := HZB.out wr F
      clear hr F
      have z0 : wr.cell? ⟨w.heap.size + 1, 0, none⟩ = some (.int .i64 0) := by rw [BZ.cell]; rfl
      have z1 : wr.cell? ⟨w.heap.size + 1, 1, none⟩ = some (.int .i64 0) := by rw [BZ.cell]; rfl
      have z2 : wr.cell? ⟨w.heap.size + 1, 2, none⟩ = some (.slice none 0 0) := by rw [BZ.cell]; rfl
      have zf := BZ.thaw
      have HBZ := hid BZ
      have HFE := hid FE
      clear BZ FE
      go_wp2
      refine bodyPost_ret (v := .agg #[.int .i64 (x : Int), .int .i64 (y : Int), .slice (some ⟨g, 0, none⟩) m m]) ?_ rfl ⟨g, rfl, HR.out.fr (fr_put3 _ _ _ _ _) (by omega), by omega, HFE.out.put3New (by omega) _ _ _⟩
      exact results_cell_row rfl _ _ (w.heap.size + 1) 25 _ (0, 0) _ rfl (show Blk _ _ _ _ from HBZ.out.put3 _ _ _) Try.underlying25 rfl Try.info_plane
end Go.Proofs.Ytonalomagfekaaa
