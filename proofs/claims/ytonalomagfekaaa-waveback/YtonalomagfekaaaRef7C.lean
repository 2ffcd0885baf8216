/-
  The document's answer for layer 7: rows that are columns.
-/
import Derived.Test.YtonalomagfekaaaRef7B
namespace Go.Proofs.Ytonalomagfekaaa
open Go.RowKit

theorem wrap_nat {s : Nat} (h : s ≤ 9223372036854775807) : IntKind.i64.wrap (s : Int) = (s : Int) := by
  rw [IntKind.wrap_i64]; omega
set_option maxHeartbeats 2000000 in
/-- Rows are columns. -/
theorem rturn_go (x y : Nat) (a : Option Addr) (m cap : Nat) (V : Nat → Int) (b : Nat) (w : World) (hx : 1 ≤ x) (hx' : x ≤ 1024) (hy : 1 ≤ y) (hy' : y ≤ 1024) (hm : x * y = m) (h : Nums w a m cap V b) :
    Calls Try.prog 38 #[.agg #[.int .i64 (x : Int), .int .i64 (y : Int), .slice a m cap]] w fun e w' => ∃ g, e = .returned (.agg #[.int .i64 (y : Int), .int .i64 (x : Int), .slice (some ⟨g, 0, none⟩) m m]) ∧ Row w' g m (turnV x y V) ∧ w.heap.size ≤ g ∧ Fr (fun _ => False) w w' := by
  have hmm : m ≤ 1048576 := by rw [← hm]; exact mul_most hx' hy'
  have hR : rightP x y m = true := by rw [← hm]; exact rightP_of hx hx' hy hy'
  have hpos : 0 < m := by rw [← hm]; exact Nat.mul_pos (by omega) (by omega)
  have hm' : y * x = m := by rw [Nat.mul_comm]; exact hm
  have HNew := hid (fun w => rnew_go y x hy hy' hx hx' w)
  rw [hm'] at HNew
  obtain ⟨off, rfl, hc⟩ := h.at' hpos
  have hbl := h.lt hpos
  obtain ⟨W, hW⟩ : ∃ W, W = (w.alloc (.cells #[.int .i64 (x : Int), .int .i64 (y : Int), .slice (some ⟨b, off, none⟩) m cap] 25)).alloc (.cells #[.int .i64 0, .int .i64 0, .slice none 0 0] 25) := ⟨_, rfl⟩
  have F0 : Fr (fun _ => False) w W := by rw [hW]; exact ((Fr.refl _ w).alloc _).alloc _
  have O0 : Blk W w.heap.size #[.int .i64 (x : Int), .int .i64 (y : Int), .slice (some ⟨b, off, none⟩) m cap] 25 := by rw [hW]; exact (Blk.new _ _ _).alloc _
  have O1 : Blk W (w.heap.size + 1) #[.int .i64 0, .int .i64 0, .slice none 0 0] 25 := by
    rw [hW]
    have := Blk.new (w.alloc (.cells #[.int .i64 (x : Int), .int .i64 (y : Int), .slice (some ⟨b, off, none⟩) m cap] 25)) #[.int .i64 0, .int .i64 0, .slice none 0 0] 25
    simpa using this
  have HW := hid hW
  clear hW h
  go_enter Try.func38, Try.ntmps38
  go_wp2_with fail
  rw [← HW.out]
  refine (rright_any x y _ m cap W).mono ?_
  rintro e w1 ⟨rfl, f1⟩
  rw [hR]
  have P0 := O0.fr f1 (fun h => h)
  have P1 := O1.fr f1 (fun h => h)
  have F1 := F0.trans' f1
  have c0 : w1.cell? ⟨w.heap.size, 0, none⟩ = some (.int .i64 (x : Int)) := by rw [P0.cell]; rfl
  have c1 : w1.cell? ⟨w.heap.size, 1, none⟩ = some (.int .i64 (y : Int)) := by rw [P0.cell]; rfl
  go_wp2_with fail
  refine (HNew.out w1).mono ?_
  rintro e w2 ⟨g, rfl, r2, lg, f2⟩
  have hgl := r2.lt
  have Q0 := P0.fr f2 (fun h => h)
  have Q1 := P1.fr f2 (fun h => h)
  have F2 := F1.trans' f2
  have hs1 := P1.lt
  have hs2 := f2.size
  obtain ⟨W3, hW3⟩ : ∃ W3, W3 = w2.alloc (.cells #[.int .i64 (y : Int), .int .i64 (x : Int), .slice (some ⟨g, 0, none⟩) m m] 25) := ⟨_, rfl⟩
  obtain ⟨br, hbr⟩ : ∃ br, br = w2.heap.size := ⟨_, rfl⟩
  have F3 : Fr (fun _ => False) w W3 := by rw [hW3]; exact F2.alloc _
  have S0 : Blk W3 w.heap.size #[.int .i64 (x : Int), .int .i64 (y : Int), .slice (some ⟨b, off, none⟩) m cap] 25 := by rw [hW3]; exact Q0.alloc _
  have S1 : Blk W3 (w.heap.size + 1) #[.int .i64 0, .int .i64 0, .slice none 0 0] 25 := by rw [hW3]; exact Q1.alloc _
  have S3 : Blk W3 br #[.int .i64 (y : Int), .int .i64 (x : Int), .slice (some ⟨g, 0, none⟩) m m] 25 := by rw [hW3, hbr]; exact Blk.new _ _ _
  have R4 : Row W3 g m (fun _ => 0) := by rw [hW3]; exact r2.quiet ((Fr.refl _ w2).alloc _)
  have F4 := Fr.refl (fun j => j = g) W3
  have hgbr : g < br := by omega
  have hwg : w.heap.size + 1 < g := by omega
  have HC : Hid (∀ wr, Fr (fun j => j = g) W3 wr → (wr.cell? ⟨br, 0, none⟩ = some (.int .i64 (y : Int)) ∧ wr.cell? ⟨br, 1, none⟩ = some (.int .i64 (x : Int)) ∧ wr.cell? ⟨br, 2, none⟩ = some (.slice (some ⟨g, 0, none⟩) m m)) ∧ (wr.cell? ⟨w.heap.size, 0, none⟩ = some (.int .i64 (x : Int)) ∧ wr.cell? ⟨w.heap.size, 1, none⟩ = some (.int .i64 (y : Int)) ∧ wr.cell? ⟨w.heap.size, 2, none⟩ = some (.slice (some ⟨b, off, none⟩) m cap))) := by
    intro wr f
    have T3 := S3.fr f (by omega)
    have T0 := S0.fr f (by omega)
    exact ⟨⟨by rw [T3.cell]; rfl, by rw [T3.cell]; rfl, by rw [T3.cell]; rfl⟩, ⟨by rw [T0.cell]; rfl, by rw [T0.cell]; rfl, by rw [T0.cell]; rfl⟩⟩
  have HZB : Hid (∀ wr, Fr (fun j => j = g) W3 wr → Blk wr (w.heap.size + 1) #[.int .i64 0, .int .i64 0, .slice none 0 0] 25 ∧ Fr (fun _ => False) w wr) := fun wr f => ⟨S1.fr f (by omega), F3.trans f (fun i hi e => by omega)⟩
  have HS : Hid (∀ wr j, Fr (fun j => j = g) W3 wr → j < m → wr.cell? ⟨b, off + j, none⟩ = some (.int .i64 (V j))) := by
    intro wr j f hj
    have e1 := hc j hj
    exact ((HZB.out wr f).2.cell (p := ⟨b, off + j, none⟩) (cell_lt e1) (fun h => h)).trans e1
  have HBR := hid hbr
  have HW3 := hid hW3
  clear O0 O1 P0 P1 Q0 Q1 S0 S1 S3 F0 F1 F2 F3 f1 f2 r2 hW3 hbr HW HNew hs1 hs2 lg c0 c1 hc
  go_wp2
  rw [← HW3.out, ← HBR.out]
  go_loopw [4] (fun i wr => ∃ k : Nat, k ≤ x ∧ i = .int .i64 (k : Int) ∧ Row wr g m (flatG y (layG y k (fun _ _ => 0) (fun xx yy => V (yy * x + xx)))) ∧ Fr (fun j => j = g) W3 wr) (fun i _ => x - (intOf i).toNat)
  case atStart => exact ⟨0, Nat.zero_le _, rfl, R4.congr (fun j _ => by unfold flatG; rw [layG_none]), F4⟩
  case round =>
    obtain ⟨k, hk, rfl, hrr2, F⟩ := hrel
    by_cases hlt : k < x
    · have hki : (k : Int) < (x : Int) := by omega
      obtain ⟨⟨d0, d1, d2⟩, ⟨c0, c1, c2⟩⟩ := HC.out wr F
      have HR1 := hid hrr2
      have HF1 := hid F
      clear hrr2 F
      go_wp2
      clear d0 d1 d2 c0 c1 c2
      go_loopw [5] (fun i wr => ∃ q : Nat, q ≤ y ∧ i = .int .i64 (q : Int) ∧ Row wr g m (flatG y (rowN y k q (fun _ _ => 0) (fun xx yy => V (yy * x + xx)))) ∧ Fr (fun j => j = g) W3 wr) (fun i _ => y - (intOf i).toNat)
      case atStart => exact ⟨0, Nat.zero_le _, rfl, HR1.out.congr (fun j _ => by unfold flatG; rw [rowN_zero]), HF1.out⟩
      case round =>
        clear HR1 HF1
        obtain ⟨q, hq, rfl, hrr2, F⟩ := hrel
        by_cases hlq : q < y
        · have hqi : (q : Int) < (y : Int) := by omega
          obtain ⟨⟨d0, d1, d2⟩, ⟨c0, c1, c2⟩⟩ := HC.out wr F
          have hend := row_end hm' hlt
          obtain ⟨s, hs⟩ : ∃ s, s = k * y := ⟨_, rfl⟩
          rw [← hs] at hend
          have hsI : (k : Int) * (y : Int) = (s : Int) := by rw [hs, Int.natCast_mul]
          obtain ⟨i, hi⟩ : ∃ i, i = s + q := ⟨_, rfl⟩
          have hiI : (s : Int) + (q : Int) = (i : Int) := by omega
          have hin : i < m := by omega
          have hinI : (i : Int) < (m : Int) := by omega
          have ws := wrap_nat (s := s) (by omega)
          have wi := wrap_nat (s := i) (by omega)
          have hend' := row_end hm (show q < y by omega)
          obtain ⟨s', hs'⟩ : ∃ s', s' = q * x := ⟨_, rfl⟩
          rw [← hs'] at hend'
          have hsI' : (q : Int) * (x : Int) = (s' : Int) := by rw [hs', Int.natCast_mul]
          obtain ⟨i', hi'⟩ : ∃ i', i' = s' + k := ⟨_, rfl⟩
          have hiI' : (s' : Int) + (k : Int) = (i' : Int) := by omega
          have hin' : i' < m := by omega
          have hinI' : (i' : Int) < (m : Int) := by omega
          have cs := HS.out wr i' F hin'
          obtain ⟨z, hz⟩ : ∃ z, z = V i' := ⟨_, rfl⟩
          rw [← hz] at cs
          have HZ : Hid (z = (fun xx yy => V (yy * x + xx)) k q) := by show z = V (q * x + k); rw [hz, hi', hs']
          clear hz hi' hs'
          have ws' := wrap_nat (s := s') (by omega)
          have wi' := wrap_nat (s := i') (by omega)
          have HSET : Hid (∀ j, (if j = i then z else flatG y (rowN y k q (fun _ _ => 0) (fun xx yy => V (yy * x + xx))) j) = flatG y (rowN y k (q + 1) (fun _ _ => 0) (fun xx yy => V (yy * x + xx))) j) := fun j => by
            rw [hi, hs, HZ.out]
            exact rowN_set (B := fun xx yy => V (yy * x + xx)) (by omega) j
          have ck := hrr2.cell hin
          have cf := hrr2.thaw i
          generalize flatG y (rowN y k q (fun _ _ => 0) (fun xx yy => V (yy * x + xx))) i = old at ck
          have HR := hid hrr2
          clear hrr2 hi hs HZ
          go_wp2
          refine wp_region_still_tail 19 (by kernel_rfl) (by kernel_rfl) ?_
          show wpStill Try.prog _ wr.drew (fun a' => wpList Try.prog _ _ _ a' wr.drew) _ _
          simp only [List.take_succ_cons, List.take_zero, List.drop_succ_cons, List.drop_zero]
          repeat still_step
          refine wpStill_nil ?_
          go_wp2
          go_roundw
          case rel => exact ⟨q + 1, by omega, by go_num, ((HR.out.set i z).congr fun j _ => HSET.out j).fr (Fr.refl (fun _ => False) _).drew (fun h => h), (F.setCell (p := ⟨g, i, none⟩) (fun _ => rfl) _).drew⟩
          case measure => simp [intOf]; omega
        · have hqi : ¬ (q : Int) < (y : Int) := by omega
          have hqe : q = y := by omega
          obtain ⟨⟨d0, d1, d2⟩, ⟨c0, c1, c2⟩⟩ := HC.out wr F
          have HR := hid (hrr2.congr (V' := flatG y (layG y (k + 1) (fun _ _ => 0) (fun xx yy => V (yy * x + xx)))) (fun j _ => by unfold flatG; rw [hqe, rowN_end]))
          clear hrr2 hqe
          go_wp2
          go_roundw
          case rel => exact ⟨k + 1, by omega, by go_num, HR.out, F⟩
          case measure => simp [intOf]; omega
    · have hki : ¬ (k : Int) < (x : Int) := by omega
      have hke : k = x := by omega
      obtain ⟨⟨d0, d1, d2⟩, ⟨c0, c1, c2⟩⟩ := HC.out wr F
      have HR := hid (hrr2.congr (V' := turnV x y V) fun j hj => by
        unfold flatG turnV
        rw [hke, layG_in (col_lt (by rw [hm']; exact hj)) (row_lt (by rw [hm']; exact hj))])
      clear hke
      obtain ⟨BZ, FE⟩ : Blk wr (w.heap.size + 1) #[.int .i64 0, .int .i64 0, .slice none 0 0] 25 ∧ Fr (fun _ => False) w wr := HZB.out wr F
      have z0 : wr.cell? ⟨w.heap.size + 1, 0, none⟩ = some (.int .i64 0) := by rw [BZ.cell]; rfl
      have z1 : wr.cell? ⟨w.heap.size + 1, 1, none⟩ = some (.int .i64 0) := by rw [BZ.cell]; rfl
      have z2 : wr.cell? ⟨w.heap.size + 1, 2, none⟩ = some (.slice none 0 0) := by rw [BZ.cell]; rfl
      have zf := BZ.thaw
      have HBZ := hid BZ
      have HFE := hid FE
      clear BZ FE hrr2 F
      go_wp2
      refine bodyPost_ret (v := .agg #[.int .i64 (y : Int), .int .i64 (x : Int), .slice (some ⟨g, 0, none⟩) m m]) ?_ rfl ⟨g, rfl, HR.out.fr (fr_put3 _ _ _ _ _) (by omega), by omega, HFE.out.put3New (by omega) _ _ _⟩
      exact results_cell_row rfl _ _ (w.heap.size + 1) 25 _ (0, 0) _ rfl (show Blk _ _ _ _ from HBZ.out.put3 _ _ _) Try.underlying25 rfl Try.info_plane
end Go.Proofs.Ytonalomagfekaaa
