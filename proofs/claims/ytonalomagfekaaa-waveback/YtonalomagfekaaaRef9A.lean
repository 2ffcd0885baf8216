/-
  The document's answer for layer 9: a part over a plane.
-/
import Derived.Test.YtonalomagfekaaaRef7C
namespace Go.Proofs.Ytonalomagfekaaa
open Go.RowKit

theorem sizedV_self {x y : Nat} {V : Nat → Int} {j : Nat} (hj : j < x * y) : sizedV x y V x j = V j := by
  unfold sizedV
  rw [atP_in (col_lt hj) (row_lt hj), flat_eq]
set_option maxHeartbeats 2000000 in
/-- A part over a plane. -/
theorem rlay_go (x y u v : Nat) (a : Option Addr) (m cap : Nat) (V : Nat → Int) (b : Nat) (a' : Option Addr) (r cap' : Nat) (V' : Nat → Int) (b' : Nat) (w : World) (hx : 1 ≤ x) (hx' : x ≤ 1024) (hy : 1 ≤ y) (hy' : y ≤ 1024) (hu : 1 ≤ u) (hux : u ≤ x) (hv : 1 ≤ v) (hvy : v ≤ y) (hm : x * y = m) (hr : u * v = r) (h : Nums w a m cap V b) (h' : Nums w a' r cap' V' b') :
    Calls Try.prog 30 #[.agg #[.int .i64 (x : Int), .int .i64 (y : Int), .slice a m cap], .agg #[.int .i64 (u : Int), .int .i64 (v : Int), .slice a' r cap']] w fun e w' => ∃ g, e = .returned (.agg #[.int .i64 (x : Int), .int .i64 (y : Int), .slice (some ⟨g, 0, none⟩) m m]) ∧ Row w' g m (flatG x (layG u v (gridV x V) (gridV u V'))) ∧ w.heap.size ≤ g ∧ Fr (fun _ => False) w w' := by
  have hmm : m ≤ 1048576 := by rw [← hm]; exact mul_most hx' hy'
  have hpos : 0 < r := by rw [← hr]; exact Nat.mul_pos (by omega) (by omega)
  have HSz := hid (fun (w1 : World) (f : Fr (fun _ => False) w w1) => rsized_go x y x y a m cap V b m w1 hx hx' hy hy' hx hx' hy hy' hm hm (h.quiet f))
  obtain ⟨off', rfl, hc⟩ := h'.at' hpos
  have hbl := h'.lt hpos
  obtain ⟨W, hW⟩ : ∃ W, W = ((w.alloc (.cells #[.int .i64 (x : Int), .int .i64 (y : Int), .slice a m cap] 25)).alloc (.cells #[.int .i64 (u : Int), .int .i64 (v : Int), .slice (some ⟨b', off', none⟩) r cap'] 25)).alloc (.cells #[.int .i64 0, .int .i64 0, .slice none 0 0] 25) := ⟨_, rfl⟩
  have F0 : Fr (fun _ => False) w W := by rw [hW]; exact (((Fr.refl _ w).alloc _).alloc _).alloc _
  have O0 : Blk W w.heap.size #[.int .i64 (x : Int), .int .i64 (y : Int), .slice a m cap] 25 := by rw [hW]; exact ((Blk.new _ _ _).alloc _).alloc _
  have O1 : Blk W (w.heap.size + 1) #[.int .i64 (u : Int), .int .i64 (v : Int), .slice (some ⟨b', off', none⟩) r cap'] 25 := by
    rw [hW]
    have := (Blk.new (w.alloc (.cells #[.int .i64 (x : Int), .int .i64 (y : Int), .slice a m cap] 25)) #[.int .i64 (u : Int), .int .i64 (v : Int), .slice (some ⟨b', off', none⟩) r cap'] 25).alloc (.cells #[.int .i64 0, .int .i64 0, .slice none 0 0] 25)
    simpa using this
  have O2 : Blk W (w.heap.size + 2) #[.int .i64 0, .int .i64 0, .slice none 0 0] 25 := by
    rw [hW]
    have := Blk.new ((w.alloc (.cells #[.int .i64 (x : Int), .int .i64 (y : Int), .slice a m cap] 25)).alloc (.cells #[.int .i64 (u : Int), .int .i64 (v : Int), .slice (some ⟨b', off', none⟩) r cap'] 25)) #[.int .i64 0, .int .i64 0, .slice none 0 0] 25
    simpa using this
  have HW := hid hW
  have c0 : W.cell? ⟨w.heap.size, 0, none⟩ = some (.int .i64 (x : Int)) := by rw [O0.cell]; rfl
  have c1 : W.cell? ⟨w.heap.size, 1, none⟩ = some (.int .i64 (y : Int)) := by rw [O0.cell]; rfl
  have c2 : W.cell? ⟨w.heap.size, 2, none⟩ = some (.slice a m cap) := by rw [O0.cell]; rfl
  clear hW h h'
  rw [HW.out] at c0 c1 c2
  go_enter Try.func30, Try.ntmps30
  go_wp2_with fail
  rw [← HW.out]
  clear c0 c1 c2
  refine (HSz.out W F0).mono ?_
  rintro e w2 ⟨g, rfl, r2, lg, f2⟩
  have hgl := r2.lt
  have Q0 := O0.fr f2 (fun h => h)
  have Q1 := O1.fr f2 (fun h => h)
  have Q2 := O2.fr f2 (fun h => h)
  have F2 := F0.trans' f2
  have hs1 := O2.lt
  have hs2 := f2.size
  obtain ⟨W3, hW3⟩ : ∃ W3, W3 = w2.alloc (.cells #[.int .i64 (x : Int), .int .i64 (y : Int), .slice (some ⟨g, 0, none⟩) m m] 25) := ⟨_, rfl⟩
  obtain ⟨br, hbr⟩ : ∃ br, br = w2.heap.size := ⟨_, rfl⟩
  have F3 : Fr (fun _ => False) w W3 := by rw [hW3]; exact F2.alloc _
  have S0 : Blk W3 w.heap.size #[.int .i64 (x : Int), .int .i64 (y : Int), .slice a m cap] 25 := by rw [hW3]; exact Q0.alloc _
  have S1 : Blk W3 (w.heap.size + 1) #[.int .i64 (u : Int), .int .i64 (v : Int), .slice (some ⟨b', off', none⟩) r cap'] 25 := by rw [hW3]; exact Q1.alloc _
  have S2 : Blk W3 (w.heap.size + 2) #[.int .i64 0, .int .i64 0, .slice none 0 0] 25 := by rw [hW3]; exact Q2.alloc _
  have S3 : Blk W3 br #[.int .i64 (x : Int), .int .i64 (y : Int), .slice (some ⟨g, 0, none⟩) m m] 25 := by rw [hW3, hbr]; exact Blk.new _ _ _
  have R4 : Row W3 g m (flatG x (gridV x V)) := by rw [hW3]; exact (r2.quiet ((Fr.refl _ w2).alloc _)).congr fun j hj => by rw [flatG_grid, sizedV_self (by rw [hm]; exact hj)]
  have F4 := Fr.refl (fun j => j = g) W3
  have hgbr : g < br := by omega
  have hwg : w.heap.size + 2 < g := by omega
  have HC : Hid (∀ wr, Fr (fun j => j = g) W3 wr → (wr.cell? ⟨br, 0, none⟩ = some (.int .i64 (x : Int)) ∧ wr.cell? ⟨br, 1, none⟩ = some (.int .i64 (y : Int)) ∧ wr.cell? ⟨br, 2, none⟩ = some (.slice (some ⟨g, 0, none⟩) m m)) ∧ (wr.cell? ⟨w.heap.size, 0, none⟩ = some (.int .i64 (x : Int))) ∧ (wr.cell? ⟨w.heap.size + 1, 0, none⟩ = some (.int .i64 (u : Int)) ∧ wr.cell? ⟨w.heap.size + 1, 1, none⟩ = some (.int .i64 (v : Int)) ∧ wr.cell? ⟨w.heap.size + 1, 2, none⟩ = some (.slice (some ⟨b', off', none⟩) r cap'))) := by
    intro wr f
    have T3 := S3.fr f (by omega)
    have T0 := S0.fr f (by omega)
    have T1 := S1.fr f (by omega)
    exact ⟨⟨by rw [T3.cell]; rfl, by rw [T3.cell]; rfl, by rw [T3.cell]; rfl⟩, by rw [T0.cell]; rfl, ⟨by rw [T1.cell]; rfl, by rw [T1.cell]; rfl, by rw [T1.cell]; rfl⟩⟩
  have HZB : Hid (∀ wr, Fr (fun j => j = g) W3 wr → Blk wr (w.heap.size + 2) #[.int .i64 0, .int .i64 0, .slice none 0 0] 25 ∧ Fr (fun _ => False) w wr) := fun wr f => ⟨S2.fr f (by omega), F3.trans f (fun i hi e => by omega)⟩
  have HS : Hid (∀ wr j, Fr (fun j => j = g) W3 wr → j < r → wr.cell? ⟨b', off' + j, none⟩ = some (.int .i64 (V' j))) := by
    intro wr j f hj
    have e1 := hc j hj
    exact ((HZB.out wr f).2.cell (p := ⟨b', off' + j, none⟩) (cell_lt e1) (fun h => h)).trans e1
  have HBR := hid hbr
  have HW3 := hid hW3
  have hrr : r ≤ 1048576 := by rw [← hr]; exact mul_most (by omega) (by omega)
  clear O0 O1 O2 Q0 Q1 Q2 S0 S1 S2 S3 F0 F2 F3 f2 r2 hW3 hbr HW HSz hs1 hs2 lg hc
  go_wp2
  rw [← HW3.out, ← HBR.out]
  go_loopw [6] (fun i wr => ∃ k : Nat, k ≤ v ∧ i = .int .i64 (k : Int) ∧ Row wr g m (flatG x (layG u k (gridV x V) (gridV u V'))) ∧ Fr (fun j => j = g) W3 wr) (fun i _ => v - (intOf i).toNat)
  case atStart => exact ⟨0, Nat.zero_le _, rfl, R4.congr (fun j _ => by unfold flatG; rw [layG_none]), F4⟩
  case round =>
    obtain ⟨k, hk, rfl, hrr2, F⟩ := hrel
    by_cases hlt : k < v
    · have hki : (k : Int) < (v : Int) := by omega
      obtain ⟨⟨d0, d1, d2⟩, cp, ⟨c0, c1, c2⟩⟩ := HC.out wr F
      have HR1 := hid hrr2
      have HF1 := hid F
      clear hrr2 F
      go_wp2
      clear d0 d1 d2 c0 c1 c2
      go_loopw [7] (fun i wr => ∃ q : Nat, q ≤ u ∧ i = .int .i64 (q : Int) ∧ Row wr g m (flatG x (rowN u k q (gridV x V) (gridV u V'))) ∧ Fr (fun j => j = g) W3 wr) (fun i _ => u - (intOf i).toNat)
      case atStart => exact ⟨0, Nat.zero_le _, rfl, HR1.out.congr (fun j _ => by unfold flatG; rw [rowN_zero]), HF1.out⟩
      case round =>
        clear HR1 HF1
        obtain ⟨q, hq, rfl, hrr2, F⟩ := hrel
        by_cases hlq : q < u
        · have hqi : (q : Int) < (u : Int) := by omega
          obtain ⟨⟨d0, d1, d2⟩, cp, ⟨c0, c1, c2⟩⟩ := HC.out wr F
          have hend := row_end hm (show k < y by omega)
          obtain ⟨s, hs⟩ : ∃ s, s = k * x := ⟨_, rfl⟩
          rw [← hs] at hend
          have hsI : (k : Int) * (x : Int) = (s : Int) := by rw [hs, Int.natCast_mul]
          obtain ⟨i, hi⟩ : ∃ i, i = s + q := ⟨_, rfl⟩
          have hiI : (s : Int) + (q : Int) = (i : Int) := by omega
          have hin : i < m := by omega
          have hinI : (i : Int) < (m : Int) := by omega
          have ws := wrap_nat (s := s) (by omega)
          have wi := wrap_nat (s := i) (by omega)
          have hend' := row_end hr (show k < v by omega)
          obtain ⟨s', hs'⟩ : ∃ s', s' = k * u := ⟨_, rfl⟩
          rw [← hs'] at hend'
          have hsI' : (k : Int) * (u : Int) = (s' : Int) := by rw [hs', Int.natCast_mul]
          obtain ⟨i', hi'⟩ : ∃ i', i' = s' + q := ⟨_, rfl⟩
          have hiI' : (s' : Int) + (q : Int) = (i' : Int) := by omega
          have hin' : i' < r := by omega
          have hinI' : (i' : Int) < (r : Int) := by omega
          have cs := HS.out wr i' F hin'
          obtain ⟨z, hz⟩ : ∃ z, z = V' i' := ⟨_, rfl⟩
          rw [← hz] at cs
          have HZ : Hid (z = gridV u V' k q) := by show z = V' (k * u + q); rw [hz, hi', hs']
          clear hz hi' hs'
          have ws' := wrap_nat (s := s') (by omega)
          have wi' := wrap_nat (s := i') (by omega)
          have HSET : Hid (∀ j, (if j = i then z else flatG x (rowN u k q (gridV x V) (gridV u V')) j) = flatG x (rowN u k (q + 1) (gridV x V) (gridV u V')) j) := fun j => by
            rw [hi, hs, HZ.out]
            exact rowN_set (B := gridV u V') (by omega) j
          have ck := hrr2.cell hin
          have cf := hrr2.thaw i
          generalize flatG x (rowN u k q (gridV x V) (gridV u V')) i = old at ck
          have HR := hid hrr2
          clear hrr2 hi hs HZ
          go_wp2
          refine wp_region_still_tail 19 (by kernel_rfl) (by kernel_rfl) ?_
          show wpStill Try.prog _ wr.drew (fun a' => wpList Try.prog _ _ _ a' wr.drew) _ _
          simp only [List.take_succ_cons, List.take_zero, List.drop_succ_cons, List.drop_zero]
          repeat still_step
          refine wpStill_nil ?_
          go_wp2
          go_roundw
          case rel => exact ⟨q + 1, by omega, by go_num, ((HR.out.set i z).congr fun j _ => HSET.out j).fr (Fr.refl (fun _ => False) _).drew (fun h => h), (F.setCell (p := ⟨g, i, none⟩) (fun _ => rfl) _).drew⟩
          case measure => simp [intOf]; omega
        · have hqi : ¬ (q : Int) < (u : Int) := by omega
          have hqe : q = u := by omega
          obtain ⟨⟨d0, d1, d2⟩, cp, ⟨c0, c1, c2⟩⟩ := HC.out wr F
          have HR := hid (hrr2.congr (V' := flatG x (layG u (k + 1) (gridV x V) (gridV u V'))) (fun j _ => by unfold flatG; rw [hqe, rowN_end]))
          clear hrr2 hqe
          go_wp2
          go_roundw
          case rel => exact ⟨k + 1, by omega, by go_num, HR.out, F⟩
          case measure => simp [intOf]; omega
    · have hki : ¬ (k : Int) < (v : Int) := by omega
      have hke : k = v := by omega
      obtain ⟨⟨d0, d1, d2⟩, cp, ⟨c0, c1, c2⟩⟩ := HC.out wr F
      have HR := hid (hrr2.congr (V' := flatG x (layG u v (gridV x V) (gridV u V'))) fun j hj => by
        rw [hke])
      clear hke
      obtain ⟨BZ, FE⟩ : Blk wr (w.heap.size + 2) #[.int .i64 0, .int .i64 0, .slice none 0 0] 25 ∧ Fr (fun _ => False) w wr := HZB.out wr F
      have z0 : wr.cell? ⟨w.heap.size + 2, 0, none⟩ = some (.int .i64 0) := by rw [BZ.cell]; rfl
      have z1 : wr.cell? ⟨w.heap.size + 2, 1, none⟩ = some (.int .i64 0) := by rw [BZ.cell]; rfl
      have z2 : wr.cell? ⟨w.heap.size + 2, 2, none⟩ = some (.slice none 0 0) := by rw [BZ.cell]; rfl
      have zf := BZ.thaw
      have HBZ := hid BZ
      have HFE := hid FE
      clear BZ FE hrr2 F
      go_wp2
      refine bodyPost_ret (v := .agg #[.int .i64 (x : Int), .int .i64 (y : Int), .slice (some ⟨g, 0, none⟩) m m]) ?_ rfl ⟨g, rfl, HR.out.fr (fr_put3 _ _ _ _ _) (by omega), by omega, HFE.out.put3New (by omega) _ _ _⟩
      exact results_cell_row rfl _ _ (w.heap.size + 2) 25 _ (0, 0) _ rfl (show Blk _ _ _ _ from HBZ.out.put3 _ _ _) Try.underlying25 rfl Try.info_plane
end Go.Proofs.Ytonalomagfekaaa
