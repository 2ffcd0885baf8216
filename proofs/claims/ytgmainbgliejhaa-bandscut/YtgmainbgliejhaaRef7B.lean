/-
  The document's answer for layer 7: the nearest place, planes of other sides, rows that are columns.
-/
import Derived.Test.YtgmainbgliejhaaWaveF
import Derived.Test.YtgmainbgliejhaaRef7A
namespace Go.Proofs.Ytgmainbgliejhaa
open Go.RowKit

theorem rat_go (x y : Nat) (a : Option Addr) (m cap : Nat) (V : Nat → Int) (b : Nat) (px py : Nat) (w : World) (hx : 1 ≤ x) (hx' : x ≤ 1024) (hy : 1 ≤ y) (hy' : y ≤ 1024) (hm : x * y = m) (hpx : px ≤ 1024) (hpy : py ≤ 1024) (h : Nums w a m cap V b) :
    Calls Try.prog 32 #[.agg #[.int .i64 (x : Int), .int .i64 (y : Int), .slice a m cap], .int .i64 (px : Int), .int .i64 (py : Int)] w fun e w' => e = .returned (.int .i64 (atP x y V px py)) ∧ Fr (fun _ => False) w w' := by
  have hmm : m ≤ 1048576 := by rw [← hm]; exact mul_most hx' hy'
  have hR : rightP x y m = true := by rw [← hm]; exact rightP_of hx hx' hy hy'
  have hpos : 0 < m := by rw [← hm]; exact Nat.mul_pos (by omega) (by omega)
  obtain ⟨off, rfl, hc⟩ := h.at' hpos
  obtain ⟨qx, hqx⟩ : ∃ qx, qx = min px (x - 1) := ⟨_, rfl⟩
  obtain ⟨qy, hqy⟩ : ∃ qy, qy = min py (y - 1) := ⟨_, rfl⟩
  obtain ⟨s, hs⟩ : ∃ s, s = qy * x := ⟨_, rfl⟩
  have hsI : (x : Int) * (qy : Int) = (s : Int) := by rw [hs, Int.natCast_mul, Int.mul_comm]
  have hin : s + qx < m := by rw [hs, ← hm]; exact flat_lt (by omega) (by omega)
  have hinI : (s : Int) + (qx : Int) < (m : Int) := by omega
  have HV : Hid (atP x y V px py = V (s + qx)) := by show _ = _; unfold atP; rw [hs, hqx, hqy]
  have ck := hc (s + qx) hin
  generalize V (s + qx) = z at ck HV
  obtain ⟨W, hW⟩ : ∃ W, W = w.alloc (.cells #[.int .i64 (x : Int), .int .i64 (y : Int), .slice (some ⟨b, off, none⟩) m cap] 38) := ⟨_, rfl⟩
  have F0 : Fr (fun _ => False) w W := by rw [hW]; exact (Fr.refl _ w).alloc _
  have O0 : Blk W w.heap.size #[.int .i64 (x : Int), .int .i64 (y : Int), .slice (some ⟨b, off, none⟩) m cap] 38 := by rw [hW]; exact Blk.new _ _ _
  have HW := hid hW
  clear hW hc h hs
  by_cases h1 : px < x
  · by_cases h2 : py < y
    · as_aux_lemma =>
      obtain rfl : qx = px := by omega
      have hl1 : ¬ (x : Int) ≤ (qx : Int) := by omega
      obtain rfl : qy = py := by omega
      have hl2 : ¬ (y : Int) ≤ (qy : Int) := by omega
      clear hqx hqy h1 h2 hm
      go_enter Try.func32, Try.ntmps32
      go_wp2_with fail
      rw [← HW.out]
      refine (rright_any x y _ m cap W).mono ?_
      rintro e w1 ⟨rfl, f1⟩
      rw [hR]
      have F1 := F0.trans' f1
      have B1 := O0.fr f1 (fun h => h)
      have c0 : w1.cell? ⟨w.heap.size, 0, none⟩ = some (.int .i64 (x : Int)) := by rw [B1.cell]; rfl
      have c1 : w1.cell? ⟨w.heap.size, 1, none⟩ = some (.int .i64 (y : Int)) := by rw [B1.cell]; rfl
      have c2 : w1.cell? ⟨w.heap.size, 2, none⟩ = some (.slice (some ⟨b, off, none⟩) m cap) := by rw [B1.cell]; rfl
      have ck' := (F1.cell (p := ⟨b, off + (s + qx), none⟩) (cell_lt ck) (fun h => h)).trans ck
      clear F0 f1 B1 O0 HW ck
      go_wp2
      go_ret
      exact ⟨ret_int HV.out.symm, F1⟩
    · as_aux_lemma =>
      obtain rfl : qx = px := by omega
      have hl1 : ¬ (x : Int) ≤ (qx : Int) := by omega
      have hl2 : (y : Int) ≤ (py : Int) := by omega
      have hq2 : (y : Int) - 1 = (qy : Int) := by omega
      clear hqx hqy h1 h2 hm
      go_enter Try.func32, Try.ntmps32
      go_wp2_with fail
      rw [← HW.out]
      refine (rright_any x y _ m cap W).mono ?_
      rintro e w1 ⟨rfl, f1⟩
      rw [hR]
      have F1 := F0.trans' f1
      have B1 := O0.fr f1 (fun h => h)
      have c0 : w1.cell? ⟨w.heap.size, 0, none⟩ = some (.int .i64 (x : Int)) := by rw [B1.cell]; rfl
      have c1 : w1.cell? ⟨w.heap.size, 1, none⟩ = some (.int .i64 (y : Int)) := by rw [B1.cell]; rfl
      have c2 : w1.cell? ⟨w.heap.size, 2, none⟩ = some (.slice (some ⟨b, off, none⟩) m cap) := by rw [B1.cell]; rfl
      have ck' := (F1.cell (p := ⟨b, off + (s + qx), none⟩) (cell_lt ck) (fun h => h)).trans ck
      clear F0 f1 B1 O0 HW ck
      go_wp2
      go_ret
      exact ⟨ret_int HV.out.symm, F1⟩
  · by_cases h2 : py < y
    · as_aux_lemma =>
      have hl1 : (x : Int) ≤ (px : Int) := by omega
      have hq1 : (x : Int) - 1 = (qx : Int) := by omega
      obtain rfl : qy = py := by omega
      have hl2 : ¬ (y : Int) ≤ (qy : Int) := by omega
      clear hqx hqy h1 h2 hm
      go_enter Try.func32, Try.ntmps32
      go_wp2_with fail
      rw [← HW.out]
      refine (rright_any x y _ m cap W).mono ?_
      rintro e w1 ⟨rfl, f1⟩
      rw [hR]
      have F1 := F0.trans' f1
      have B1 := O0.fr f1 (fun h => h)
      have c0 : w1.cell? ⟨w.heap.size, 0, none⟩ = some (.int .i64 (x : Int)) := by rw [B1.cell]; rfl
      have c1 : w1.cell? ⟨w.heap.size, 1, none⟩ = some (.int .i64 (y : Int)) := by rw [B1.cell]; rfl
      have c2 : w1.cell? ⟨w.heap.size, 2, none⟩ = some (.slice (some ⟨b, off, none⟩) m cap) := by rw [B1.cell]; rfl
      have ck' := (F1.cell (p := ⟨b, off + (s + qx), none⟩) (cell_lt ck) (fun h => h)).trans ck
      clear F0 f1 B1 O0 HW ck
      go_wp2
      go_ret
      exact ⟨ret_int HV.out.symm, F1⟩
    · as_aux_lemma =>
      have hl1 : (x : Int) ≤ (px : Int) := by omega
      have hq1 : (x : Int) - 1 = (qx : Int) := by omega
      have hl2 : (y : Int) ≤ (py : Int) := by omega
      have hq2 : (y : Int) - 1 = (qy : Int) := by omega
      clear hqx hqy h1 h2 hm
      go_enter Try.func32, Try.ntmps32
      go_wp2_with fail
      rw [← HW.out]
      refine (rright_any x y _ m cap W).mono ?_
      rintro e w1 ⟨rfl, f1⟩
      rw [hR]
      have F1 := F0.trans' f1
      have B1 := O0.fr f1 (fun h => h)
      have c0 : w1.cell? ⟨w.heap.size, 0, none⟩ = some (.int .i64 (x : Int)) := by rw [B1.cell]; rfl
      have c1 : w1.cell? ⟨w.heap.size, 1, none⟩ = some (.int .i64 (y : Int)) := by rw [B1.cell]; rfl
      have c2 : w1.cell? ⟨w.heap.size, 2, none⟩ = some (.slice (some ⟨b, off, none⟩) m cap) := by rw [B1.cell]; rfl
      have ck' := (F1.cell (p := ⟨b, off + (s + qx), none⟩) (cell_lt ck) (fun h => h)).trans ck
      clear F0 f1 B1 O0 HW ck
      go_wp2
      go_ret
      exact ⟨ret_int HV.out.symm, F1⟩

set_option maxHeartbeats 2000000 in
/-- A plane of other sides, by At. -/
theorem rsized_go (x y u v : Nat) (a : Option Addr) (m cap : Nat) (V : Nat → Int) (b : Nat) (r : Nat) (w : World) (hu : 1 ≤ u) (hu' : u ≤ 1024) (hv : 1 ≤ v) (hv' : v ≤ 1024) (hx : 1 ≤ x) (hx' : x ≤ 1024) (hy : 1 ≤ y) (hy' : y ≤ 1024) (hm : x * y = m) (hr : u * v = r) (h : Nums w a m cap V b) :
    Calls Try.prog 35 #[.agg #[.int .i64 (x : Int), .int .i64 (y : Int), .slice a m cap], .int .i64 (u : Int), .int .i64 (v : Int)] w fun e w' => ∃ g, e = .returned (.agg #[.int .i64 (u : Int), .int .i64 (v : Int), .slice (some ⟨g, 0, none⟩) r r]) ∧ Row w' g r (sizedV x y V u) ∧ w.heap.size ≤ g ∧ Fr (fun _ => False) w w' := by
  have hrr : r ≤ 1048576 := by rw [← hr]; exact mul_most hu' hv'
  have hR : rightP x y m = true := by rw [← hm]; exact rightP_of hx hx' hy hy'
  have HNew := hid (fun w => rnew_go u v hu hu' hv hv' w)
  rw [hr] at HNew
  have HN := hid h
  obtain ⟨W, hW⟩ : ∃ W, W = (w.alloc (.cells #[.int .i64 (x : Int), .int .i64 (y : Int), .slice a m cap] 38)).alloc (.cells #[.int .i64 0, .int .i64 0, .slice none 0 0] 38) := ⟨_, rfl⟩
  have F0 : Fr (fun _ => False) w W := by rw [hW]; exact ((Fr.refl _ w).alloc _).alloc _
  have O0 : Blk W w.heap.size #[.int .i64 (x : Int), .int .i64 (y : Int), .slice a m cap] 38 := by rw [hW]; exact (Blk.new _ _ _).alloc _
  have O1 : Blk W (w.heap.size + 1) #[.int .i64 0, .int .i64 0, .slice none 0 0] 38 := by
    rw [hW]
    have := Blk.new (w.alloc (.cells #[.int .i64 (x : Int), .int .i64 (y : Int), .slice a m cap] 38)) #[.int .i64 0, .int .i64 0, .slice none 0 0] 38
    simpa using this
  have HW := hid hW
  clear hW h
  go_enter Try.func35, Try.ntmps35
  go_wp2_with fail
  rw [← HW.out]
  refine (HNew.out W).mono ?_
  rintro e w1 ⟨g, rfl, r1, lg, f1⟩
  have hgl := r1.lt
  have P0 := O0.fr f1 (fun h => h)
  have P1 := O1.fr f1 (fun h => h)
  have F1 := F0.trans' f1
  have hs1 := O1.lt
  have hs2 := f1.size
  obtain ⟨W3, hW3⟩ : ∃ W3, W3 = w1.alloc (.cells #[.int .i64 (u : Int), .int .i64 (v : Int), .slice (some ⟨g, 0, none⟩) r r] 38) := ⟨_, rfl⟩
  obtain ⟨br, hbr⟩ : ∃ br, br = w1.heap.size := ⟨_, rfl⟩
  have F3 : Fr (fun _ => False) w W3 := by rw [hW3]; exact F1.alloc _
  have Q0 : Blk W3 w.heap.size #[.int .i64 (x : Int), .int .i64 (y : Int), .slice a m cap] 38 := by rw [hW3]; exact P0.alloc _
  have Q1 : Blk W3 (w.heap.size + 1) #[.int .i64 0, .int .i64 0, .slice none 0 0] 38 := by rw [hW3]; exact P1.alloc _
  have Q3 : Blk W3 br #[.int .i64 (u : Int), .int .i64 (v : Int), .slice (some ⟨g, 0, none⟩) r r] 38 := by rw [hW3, hbr]; exact Blk.new _ _ _
  have R3 : Row W3 g r (fun _ => 0) := by rw [hW3]; exact r1.quiet ((Fr.refl _ w1).alloc _)
  have hgbr : g < br := by omega
  have hwg : w.heap.size + 1 < g := by omega
  have HC : Hid (∀ wr, Fr (fun j => j = g) W3 wr → (wr.cell? ⟨br, 0, none⟩ = some (.int .i64 (u : Int)) ∧ wr.cell? ⟨br, 1, none⟩ = some (.int .i64 (v : Int)) ∧ wr.cell? ⟨br, 2, none⟩ = some (.slice (some ⟨g, 0, none⟩) r r)) ∧ (wr.cell? ⟨w.heap.size, 0, none⟩ = some (.int .i64 (x : Int)) ∧ wr.cell? ⟨w.heap.size, 1, none⟩ = some (.int .i64 (y : Int)) ∧ wr.cell? ⟨w.heap.size, 2, none⟩ = some (.slice a m cap)) ∧ Blk wr (w.heap.size + 1) #[.int .i64 0, .int .i64 0, .slice none 0 0] 38 ∧ Fr (fun _ => False) w wr) := by
    intro wr f
    have S3 := Q3.fr f (by omega)
    have S0 := Q0.fr f (by omega)
    exact ⟨⟨by rw [S3.cell]; rfl, by rw [S3.cell]; rfl, by rw [S3.cell]; rfl⟩, ⟨by rw [S0.cell]; rfl, by rw [S0.cell]; rfl, by rw [S0.cell]; rfl⟩, Q1.fr f (by omega), F3.trans f (fun i hi e => by omega)⟩
  have HAt : Hid (∀ wq, Fr (fun j => j = g) W3 wq → ∀ k q : Nat, k ≤ 1024 → q ≤ 1024 → Calls Try.prog 32 #[.agg #[.int .i64 (x : Int), .int .i64 (y : Int), .slice a m cap], .int .i64 (q : Int), .int .i64 (k : Int)] wq fun e w' => e = .returned (.int .i64 (atP x y V q k)) ∧ Fr (fun _ => False) wq w') := by
    intro wq f k q hk hq
    exact rat_go x y a m cap V b q k wq hx hx' hy hy' hm hq hk (HN.out.quiet (HC.out wq f).2.2.2)
  obtain ⟨⟨d0, d1, d2⟩, ⟨c0, c1, c2⟩, _, _⟩ := HC.out W3 (Fr.refl _ _)
  have HBR := hid hbr
  have HW3 := hid hW3
  clear O0 O1 P0 P1 Q0 Q1 Q3 F0 F1 F3 f1 r1 hW3 hbr HW HN HNew hs1 hs2 lg
  rw [HW3.out] at d0 d1 d2 c0 c1 c2
  go_wp2_with fail
  rw [← HW3.out]
  refine (rright_any x y a m cap W3).mono ?_
  rintro e w4 ⟨rfl, f4⟩
  rw [hR, ← HBR.out]
  have F4 : Fr (fun j => j = g) W3 w4 := (Fr.refl _ _).trans f4 (fun _ _ h => False.elim h)
  have R4 := R3.quiet f4
  clear R3 f4 d0 d1 d2 c0 c1 c2
  go_wp2
  go_loopw [8] (fun i wr => ∃ k : Nat, k ≤ v ∧ i = .int .i64 (k : Int) ∧ Row wr g r (flatG u (layG u k (fun _ _ => 0) fun yy xx => atP x y V xx yy)) ∧ Fr (fun j => j = g) W3 wr) (fun i _ => v - (intOf i).toNat)
  case atStart => exact ⟨0, Nat.zero_le _, rfl, R4.congr (fun j _ => by unfold flatG; rw [layG_none]), F4⟩
  case round =>
    obtain ⟨k, hk, rfl, hrr2, F⟩ := hrel
    by_cases hlt : k < v
    · have hki : (k : Int) < (v : Int) := by omega
      obtain ⟨⟨d0, d1, d2⟩, _, _, _⟩ := HC.out wr F
      have HR1 := hid hrr2
      have HF1 := hid F
      clear hrr2 F
      go_wp2
      clear d0 d1 d2
      go_loopw [9] (fun i wr => ∃ q : Nat, q ≤ u ∧ i = .int .i64 (q : Int) ∧ Row wr g r (flatG u (rowN u k q (fun _ _ => 0) fun yy xx => atP x y V xx yy)) ∧ Fr (fun j => j = g) W3 wr) (fun i _ => u - (intOf i).toNat)
      case atStart => exact ⟨0, Nat.zero_le _, rfl, HR1.out.congr (fun j _ => by unfold flatG; rw [rowN_zero]), HF1.out⟩
      case round =>
        clear HR1 HF1
        obtain ⟨q, hq, rfl, hrr2, F⟩ := hrel
        by_cases hlq : q < u
        · have hqi : (q : Int) < (u : Int) := by omega
          obtain ⟨⟨d0, d1, d2⟩, _, _, _⟩ := HC.out wr F
          have hend := row_end hr hlt
          obtain ⟨s, hs⟩ : ∃ s, s = k * u := ⟨_, rfl⟩
          rw [← hs] at hend
          have hsI : (k : Int) * (u : Int) = (s : Int) := by rw [hs, Int.natCast_mul]
          obtain ⟨i, hi⟩ : ∃ i, i = s + q := ⟨_, rfl⟩
          have hiI : (s : Int) + (q : Int) = (i : Int) := by omega
          have hin : i < r := by omega
          have hinI : (i : Int) < (r : Int) := by omega
          have HSET : Hid (∀ j, (if j = i then atP x y V q k else flatG u (rowN u k q (fun _ _ => 0) fun yy xx => atP x y V xx yy) j) = flatG u (rowN u k (q + 1) (fun _ _ => 0) fun yy xx => atP x y V xx yy) j) := fun j => by
            rw [hi, hs]
            exact rowN_set (B := fun yy xx => atP x y V xx yy) hlq j
          obtain ⟨z, hz⟩ : ∃ z, z = atP x y V q k := ⟨_, rfl⟩
          rw [← hz] at HSET
          have HZ : Hid (atP x y V q k = z) := hz.symm
          have HR := hid hrr2
          clear hrr2 hi hs hz
          go_wp2
          clear d0 d1 d2
          refine weaveS 13 [.eq (Value.pointer (some ⟨br, 2, none⟩)), .eq (Value.slice (some ⟨g, 0, none⟩) r r), .eq (Value.int .i64 (k : Int)), .eq (Value.pointer (some ⟨br, 0, none⟩)), .eq (Value.int .i64 (u : Int)), .eq (Value.int .i64 (s : Int)), .eq (Value.int .i64 (q : Int)), .eq (Value.int .i64 (i : Int)), .eq (Value.agg #[.int .i64 (x : Int), .int .i64 (y : Int), .slice a m cap]), .eq (Value.int .i64 (q : Int)), .eq (Value.int .i64 (k : Int)), .eq (Value.int .i64 z), .eq (Value.pointer (some ⟨g, i, none⟩))] (by kernel_rfl) (by kernel_rfl) ?obls ?tail
          case obls =>
            simp only [List.take_succ_cons, List.take_zero]
            refine ⟨?_, ?_, ?_, ?_, ?_, ?_, ?_, ?_, ?_, ?_, ?_, ?_, ?_, trivial⟩
            · intro vals wq f h
              simp only [fillA, fillT, List.setIfInBounds_toArray, List.set_cons_succ, List.set_cons_zero, Option.getD_some, Nat.zero_add, Nat.reduceAdd]
              have fq := F.trans ((Fr.refl (fun _ => False) _).drew.trans' f) (fun _ _ h => False.elim h)
              obtain ⟨⟨d0, d1, d2⟩, ⟨c0, c1, c2⟩, _, _⟩ := HC.out wq fq
              clear h
              go_wp2
              exact ⟨rfl, rfl, _, rfl, Fr.refl _ _, rfl⟩
            · intro vals wq f h
              simp only [fillA, fillT, List.setIfInBounds_toArray, List.set_cons_succ, List.set_cons_zero, Option.getD_some, Nat.zero_add, Nat.reduceAdd]
              have h0 : vals 0 = Value.pointer (some ⟨br, 2, none⟩) := h 0 (by kernel_rfl)
              rw [h0]
              have fq := F.trans ((Fr.refl (fun _ => False) _).drew.trans' f) (fun _ _ h => False.elim h)
              obtain ⟨⟨d0, d1, d2⟩, ⟨c0, c1, c2⟩, _, _⟩ := HC.out wq fq
              clear h
              go_wp2
              exact ⟨rfl, rfl, _, rfl, Fr.refl _ _, rfl⟩
            · intro vals wq f h
              simp only [fillA, fillT, List.setIfInBounds_toArray, List.set_cons_succ, List.set_cons_zero, Option.getD_some, Nat.zero_add, Nat.reduceAdd]
              have fq := F.trans ((Fr.refl (fun _ => False) _).drew.trans' f) (fun _ _ h => False.elim h)
              obtain ⟨⟨d0, d1, d2⟩, ⟨c0, c1, c2⟩, _, _⟩ := HC.out wq fq
              clear h
              go_wp2
              exact ⟨rfl, rfl, _, rfl, Fr.refl _ _, rfl⟩
            · intro vals wq f h
              simp only [fillA, fillT, List.setIfInBounds_toArray, List.set_cons_succ, List.set_cons_zero, Option.getD_some, Nat.zero_add, Nat.reduceAdd]
              have fq := F.trans ((Fr.refl (fun _ => False) _).drew.trans' f) (fun _ _ h => False.elim h)
              obtain ⟨⟨d0, d1, d2⟩, ⟨c0, c1, c2⟩, _, _⟩ := HC.out wq fq
              clear h
              go_wp2
              exact ⟨rfl, rfl, _, rfl, Fr.refl _ _, rfl⟩
            · intro vals wq f h
              simp only [fillA, fillT, List.setIfInBounds_toArray, List.set_cons_succ, List.set_cons_zero, Option.getD_some, Nat.zero_add, Nat.reduceAdd]
              have h3 : vals 3 = Value.pointer (some ⟨br, 0, none⟩) := h 3 (by kernel_rfl)
              rw [h3]
              have fq := F.trans ((Fr.refl (fun _ => False) _).drew.trans' f) (fun _ _ h => False.elim h)
              obtain ⟨⟨d0, d1, d2⟩, ⟨c0, c1, c2⟩, _, _⟩ := HC.out wq fq
              clear h
              go_wp2
              exact ⟨rfl, rfl, _, rfl, Fr.refl _ _, rfl⟩
            · intro vals wq f h
              simp only [fillA, fillT, List.setIfInBounds_toArray, List.set_cons_succ, List.set_cons_zero, Option.getD_some, Nat.zero_add, Nat.reduceAdd]
              have h2 : vals 2 = Value.int .i64 (k : Int) := h 2 (by kernel_rfl)
              rw [h2]
              have h4 : vals 4 = Value.int .i64 (u : Int) := h 4 (by kernel_rfl)
              rw [h4]
              have fq := F.trans ((Fr.refl (fun _ => False) _).drew.trans' f) (fun _ _ h => False.elim h)
              obtain ⟨⟨d0, d1, d2⟩, ⟨c0, c1, c2⟩, _, _⟩ := HC.out wq fq
              clear h
              go_wp2
              exact ⟨rfl, rfl, _, rfl, Fr.refl _ _, rfl⟩
            · intro vals wq f h
              simp only [fillA, fillT, List.setIfInBounds_toArray, List.set_cons_succ, List.set_cons_zero, Option.getD_some, Nat.zero_add, Nat.reduceAdd]
              have fq := F.trans ((Fr.refl (fun _ => False) _).drew.trans' f) (fun _ _ h => False.elim h)
              obtain ⟨⟨d0, d1, d2⟩, ⟨c0, c1, c2⟩, _, _⟩ := HC.out wq fq
              clear h
              go_wp2
              exact ⟨rfl, rfl, _, rfl, Fr.refl _ _, rfl⟩
            · intro vals wq f h
              simp only [fillA, fillT, List.setIfInBounds_toArray, List.set_cons_succ, List.set_cons_zero, Option.getD_some, Nat.zero_add, Nat.reduceAdd]
              have h5 : vals 5 = Value.int .i64 (s : Int) := h 5 (by kernel_rfl)
              rw [h5]
              have h6 : vals 6 = Value.int .i64 (q : Int) := h 6 (by kernel_rfl)
              rw [h6]
              have fq := F.trans ((Fr.refl (fun _ => False) _).drew.trans' f) (fun _ _ h => False.elim h)
              obtain ⟨⟨d0, d1, d2⟩, ⟨c0, c1, c2⟩, _, _⟩ := HC.out wq fq
              clear h
              go_wp2
              exact ⟨rfl, rfl, _, rfl, Fr.refl _ _, rfl⟩
            · intro vals wq f h
              simp only [fillA, fillT, List.setIfInBounds_toArray, List.set_cons_succ, List.set_cons_zero, Option.getD_some, Nat.zero_add, Nat.reduceAdd]
              have fq := F.trans ((Fr.refl (fun _ => False) _).drew.trans' f) (fun _ _ h => False.elim h)
              obtain ⟨⟨d0, d1, d2⟩, ⟨c0, c1, c2⟩, _, _⟩ := HC.out wq fq
              clear h
              go_wp2
              exact ⟨rfl, rfl, _, rfl, Fr.refl _ _, rfl⟩
            · intro vals wq f h
              simp only [fillA, fillT, List.setIfInBounds_toArray, List.set_cons_succ, List.set_cons_zero, Option.getD_some, Nat.zero_add, Nat.reduceAdd]
              have fq := F.trans ((Fr.refl (fun _ => False) _).drew.trans' f) (fun _ _ h => False.elim h)
              obtain ⟨⟨d0, d1, d2⟩, ⟨c0, c1, c2⟩, _, _⟩ := HC.out wq fq
              clear h
              go_wp2
              exact ⟨rfl, rfl, _, rfl, Fr.refl _ _, rfl⟩
            · intro vals wq f h
              simp only [fillA, fillT, List.setIfInBounds_toArray, List.set_cons_succ, List.set_cons_zero, Option.getD_some, Nat.zero_add, Nat.reduceAdd]
              have fq := F.trans ((Fr.refl (fun _ => False) _).drew.trans' f) (fun _ _ h => False.elim h)
              obtain ⟨⟨d0, d1, d2⟩, ⟨c0, c1, c2⟩, _, _⟩ := HC.out wq fq
              clear h
              go_wp2
              exact ⟨rfl, rfl, _, rfl, Fr.refl _ _, rfl⟩
            · intro vals wq f h
              simp only [fillA, fillT, List.setIfInBounds_toArray, List.set_cons_succ, List.set_cons_zero, Option.getD_some, Nat.zero_add, Nat.reduceAdd]
              have h8 : vals 8 = Value.agg #[.int .i64 (x : Int), .int .i64 (y : Int), .slice a m cap] := h 8 (by kernel_rfl)
              rw [h8]
              have h9 : vals 9 = Value.int .i64 (q : Int) := h 9 (by kernel_rfl)
              rw [h9]
              have h10 : vals 10 = Value.int .i64 (k : Int) := h 10 (by kernel_rfl)
              rw [h10]
              have fq := F.trans ((Fr.refl (fun _ => False) _).drew.trans' f) (fun _ _ h => False.elim h)
              obtain ⟨⟨d0, d1, d2⟩, ⟨c0, c1, c2⟩, _, _⟩ := HC.out wq fq
              clear h
              go_wp2_with fail
              refine (HAt.out wq fq k q (by omega) (by omega)).mono ?_
              rintro e w6 ⟨rfl, f6⟩
              rw [HZ.out]
              go_wp2
              exact ⟨rfl, rfl, _, rfl, f6, rfl⟩
            · intro vals wq f h
              simp only [fillA, fillT, List.setIfInBounds_toArray, List.set_cons_succ, List.set_cons_zero, Option.getD_some, Nat.zero_add, Nat.reduceAdd]
              have h1 : vals 1 = Value.slice (some ⟨g, 0, none⟩) r r := h 1 (by kernel_rfl)
              rw [h1]
              have h7 : vals 7 = Value.int .i64 (i : Int) := h 7 (by kernel_rfl)
              rw [h7]
              have fq := F.trans ((Fr.refl (fun _ => False) _).drew.trans' f) (fun _ _ h => False.elim h)
              obtain ⟨⟨d0, d1, d2⟩, ⟨c0, c1, c2⟩, _, _⟩ := HC.out wq fq
              clear h
              go_wp2
              exact ⟨rfl, rfl, _, rfl, Fr.refl _ _, rfl⟩
          case tail =>
            intro vals wq f h
            simp only [List.take_succ_cons, List.take_zero, fillA, fillT, List.setIfInBounds_toArray, List.set_cons_succ, List.set_cons_zero, List.drop_succ_cons, List.drop_zero, Nat.zero_add, Nat.reduceAdd]
            have h11 : vals 11 = Value.int .i64 z := h 11 (by omega)
            rw [h11]
            have h12 : vals 12 = Value.pointer (some ⟨g, i, none⟩) := h 12 (by omega)
            rw [h12]
            have F7 := F.trans ((Fr.refl (fun _ => False) _).drew.trans' f) (fun _ _ h => False.elim h)
            have r7 := HR.out.quiet ((Fr.refl (fun _ => False) _).drew.trans' f)
            have ck := r7.cell hin
            have cf := r7.thaw i
            have HR7 := hid r7
            generalize flatG u (rowN u k q (fun _ _ => 0) fun yy xx => atP x y V xx yy) i = old at ck
            clear h h11 h12 r7
            gi_wp2
            go_wp2
            go_roundw
            case rel => exact ⟨q + 1, by omega, by go_num, (HR7.out.set i z).congr fun j _ => HSET.out j, F7.setCell (p := ⟨g, i, none⟩) (fun _ => rfl) _⟩
            case measure => simp [intOf]; omega
        · have hqi : ¬ (q : Int) < (u : Int) := by omega
          obtain rfl : q = u := by omega
          obtain ⟨⟨d0, d1, d2⟩, _, _, _⟩ := HC.out wr F
          have HR := hid (hrr2.congr (V' := flatG q (layG q (k + 1) (fun _ _ => 0) fun yy xx => atP x y V xx yy)) (fun j _ => by unfold flatG; rw [rowN_end]))
          clear hrr2
          go_wp2
          go_roundw
          case rel => exact ⟨k + 1, by omega, by go_num, HR.out, F⟩
          case measure => simp [intOf]; omega
    · have hki : ¬ (k : Int) < (v : Int) := by omega
      obtain rfl : k = v := by omega
      have HR := hid (hrr2.congr (V' := sizedV x y V u) fun j hj => by
        unfold flatG sizedV
        rw [layG_in (col_lt (by rw [hr]; exact hj)) (row_lt (by rw [hr]; exact hj))])
      obtain ⟨⟨d0, d1, d2⟩, _, BZ, FE⟩ := HC.out wr F
      have z0 : wr.cell? ⟨w.heap.size + 1, 0, none⟩ = some (.int .i64 0) := by rw [BZ.cell]; rfl
      have z1 : wr.cell? ⟨w.heap.size + 1, 1, none⟩ = some (.int .i64 0) := by rw [BZ.cell]; rfl
      have z2 : wr.cell? ⟨w.heap.size + 1, 2, none⟩ = some (.slice none 0 0) := by rw [BZ.cell]; rfl
      have zf := BZ.thaw
      have HBZ := hid BZ
      have HFE := hid FE
      clear BZ FE hrr2 F
      go_wp2
      refine bodyPost_ret (v := .agg #[.int .i64 (u : Int), .int .i64 (k : Int), .slice (some ⟨g, 0, none⟩) r r]) ?_ rfl ⟨g, rfl, HR.out.fr (fr_put3 _ _ _ _ _) (by omega), by omega, HFE.out.put3New (by omega) _ _ _⟩
      exact results_cell_row rfl _ _ (w.heap.size + 1) 38 _ (0, 0) _ rfl (show Blk _ _ _ _ from HBZ.out.put3 _ _ _) Try.underlying38 rfl Try.info_plane

/-- Of a plane that isn't right there is none. -/
theorem rsized_bad (X Y : Int) (u v : Nat) (a : Option Addr) (n cap : Nat) (w : World) (hu : 1 ≤ u) (hu' : u ≤ 1024) (hv : 1 ≤ v) (hv' : v ≤ 1024) (hR : rightP X Y n = false) :
    Calls Try.prog 35 #[.agg #[.int .i64 X, .int .i64 Y, .slice a n cap], .int .i64 (u : Int), .int .i64 (v : Int)] w fun e w' => e = .returned (.agg #[.int .i64 0, .int .i64 0, .slice none 0 0]) ∧ Fr (fun _ => False) w w' := by
  have HNew := hid (fun w => rnew_go u v hu hu' hv hv' w)
  obtain ⟨r, hr⟩ : ∃ r, u * v = r := ⟨_, rfl⟩
  rw [hr] at HNew
  obtain ⟨W, hW⟩ : ∃ W, W = (w.alloc (.cells #[.int .i64 X, .int .i64 Y, .slice a n cap] 38)).alloc (.cells #[.int .i64 0, .int .i64 0, .slice none 0 0] 38) := ⟨_, rfl⟩
  have F0 : Fr (fun _ => False) w W := by rw [hW]; exact ((Fr.refl _ w).alloc _).alloc _
  have O0 : Blk W w.heap.size #[.int .i64 X, .int .i64 Y, .slice a n cap] 38 := by rw [hW]; exact (Blk.new _ _ _).alloc _
  have O1 : Blk W (w.heap.size + 1) #[.int .i64 0, .int .i64 0, .slice none 0 0] 38 := by
    rw [hW]
    have := Blk.new (w.alloc (.cells #[.int .i64 X, .int .i64 Y, .slice a n cap] 38)) #[.int .i64 0, .int .i64 0, .slice none 0 0] 38
    simpa using this
  have HW := hid hW
  clear hW
  go_enter Try.func35, Try.ntmps35
  go_wp2_with fail
  rw [← HW.out]
  refine (HNew.out W).mono ?_
  rintro e w1 ⟨g, rfl, r1, lg, f1⟩
  have P0 := O0.fr f1 (fun h => h)
  have P1 := O1.fr f1 (fun h => h)
  have F1 := F0.trans' f1
  obtain ⟨W3, hW3⟩ : ∃ W3, W3 = w1.alloc (.cells #[.int .i64 (u : Int), .int .i64 (v : Int), .slice (some ⟨g, 0, none⟩) r r] 38) := ⟨_, rfl⟩
  have F3 : Fr (fun _ => False) w W3 := by rw [hW3]; exact F1.alloc _
  have Q0 : Blk W3 w.heap.size #[.int .i64 X, .int .i64 Y, .slice a n cap] 38 := by rw [hW3]; exact P0.alloc _
  have Q1 : Blk W3 (w.heap.size + 1) #[.int .i64 0, .int .i64 0, .slice none 0 0] 38 := by rw [hW3]; exact P1.alloc _
  have c0 : W3.cell? ⟨w.heap.size, 0, none⟩ = some (.int .i64 X) := by rw [Q0.cell]; rfl
  have c1 : W3.cell? ⟨w.heap.size, 1, none⟩ = some (.int .i64 Y) := by rw [Q0.cell]; rfl
  have c2 : W3.cell? ⟨w.heap.size, 2, none⟩ = some (.slice a n cap) := by rw [Q0.cell]; rfl
  have HW3 := hid hW3
  clear O0 O1 P0 P1 Q0 F0 F1 f1 r1 hW3 HW HNew lg
  rw [HW3.out] at c0 c1 c2
  go_wp2_with fail
  rw [← HW3.out]
  refine (rright_any X Y a n cap W3).mono ?_
  rintro e w4 ⟨rfl, f4⟩
  rw [hR]
  have BZ := Q1.fr f4 (fun h => h)
  have FE := F3.trans' f4
  have z0 : w4.cell? ⟨w.heap.size + 1, 0, none⟩ = some (.int .i64 0) := by rw [BZ.cell]; rfl
  have z1 : w4.cell? ⟨w.heap.size + 1, 1, none⟩ = some (.int .i64 0) := by rw [BZ.cell]; rfl
  have z2 : w4.cell? ⟨w.heap.size + 1, 2, none⟩ = some (.slice none 0 0) := by rw [BZ.cell]; rfl
  have zf := BZ.thaw
  have HBZ := hid BZ
  have HFE := hid FE
  clear BZ FE f4 Q1 F3 c0 c1 c2
  go_wp2
  refine bodyPost_ret (v := .agg #[.int .i64 0, .int .i64 0, .slice none 0 0]) ?_ rfl ⟨rfl, HFE.out.put3New (by omega) _ _ _⟩
  exact results_cell_row rfl _ _ (w.heap.size + 1) 38 _ (0, 0) _ rfl (show Blk _ _ _ _ from HBZ.out.put3 (.int .i64 0) (.int .i64 0) (.slice none 0 0)) Try.underlying38 rfl Try.info_plane
end Go.Proofs.Ytgmainbgliejhaa
