/-
  BandsCover: its walk.
-/
import Derived.Test.YtgmainbgliejhaaFirst10
namespace Go.Proofs.Ytgmainbgliejhaa
open Go.RowKit

/-- A band that is cut out of a plane and laid into another. -/
theorem made_step {x y : Nat} {G : Grid} {V : Nat → Int} {b : BandN} {j : Nat} (hj : j < x * y) : putF x b (flatG x G) (cutF x b V) j = flatG x (putG b G (cutG b (gridV x V))) j := by
  unfold putF cutF
  exact flatG_congr (H := y) (putG_congr (fun yy xx _ hx => gridV_flat hx) (fun yy xx _ hx => gridV_flat hx)) hj
/-- Places that are counted: the rows ahead of r, and the first q places of row r. -/
def incK (x : Nat) (b : BandN) (r q : Nat) (C : Nat → Nat) : Nat → Nat := fun j => C j + if inB b (j / x) (j % x) = true ∧ (j / x < b.y + r ∨ (j / x = b.y + r ∧ j % x < b.x + q)) then 1 else 0
theorem incK_zero (x : Nat) (b : BandN) (C : Nat → Nat) (j : Nat) : incK x b 0 0 C j = C j := by
  unfold incK
  rw [if_neg (fun h => by have := inB_iff.1 h.1; omega)]; rfl
theorem incK_row (x : Nat) (b : BandN) (r : Nat) (C : Nat → Nat) (j : Nat) : incK x b r b.w C j = incK x b (r + 1) 0 C j := by
  unfold incK
  congr 1
  by_cases h : inB b (j / x) (j % x) = true
  · have := inB_iff.1 h
    by_cases h2 : j / x < b.y + r ∨ (j / x = b.y + r ∧ j % x < b.x + b.w)
    · rw [if_pos ⟨h, h2⟩, if_pos ⟨h, by omega⟩]
    · rw [if_neg (fun h3 => h2 h3.2), if_neg (fun h3 => h2 (by omega))]
  · rw [if_neg (fun h3 => h h3.1), if_neg (fun h3 => h h3.1)]
theorem incK_end (x : Nat) (b : BandN) (C : Nat → Nat) (j : Nat) : incK x b b.h 0 C j = C j + if inB b (j / x) (j % x) = true then 1 else 0 := by
  unfold incK
  congr 1
  by_cases h : inB b (j / x) (j % x) = true
  · have := inB_iff.1 h
    rw [if_pos ⟨h, .inl (by omega)⟩, if_pos h]
  · rw [if_neg (fun h3 => h h3.1), if_neg h]
theorem incK_here {x : Nat} {b : BandN} {r q : Nat} {C : Nat → Nat} (hx : b.x + q < x) : incK x b r q C ((b.y + r) * x + (b.x + q)) = C ((b.y + r) * x + (b.x + q)) := by
  unfold incK
  rw [flat_div hx, flat_mod hx, if_neg (by omega)]; rfl
theorem incK_step {x : Nat} {b : BandN} {r q : Nat} {C : Nat → Nat} (hq : q < b.w) (hr : r < b.h) (hx : b.x + b.w ≤ x) (j : Nat) :
    (if j = (b.y + r) * x + (b.x + q) then C ((b.y + r) * x + (b.x + q)) + 1 else incK x b r q C j) = incK x b r (q + 1) C j := by
  by_cases e : j = (b.y + r) * x + (b.x + q)
  · rw [if_pos e]
    subst e
    unfold incK
    rw [flat_div (by omega), flat_mod (by omega), if_pos ⟨inB_iff.2 ⟨⟨by omega, by omega⟩, by omega, by omega⟩, by omega⟩]
  · rw [if_neg e]
    have hne : ¬ (j / x = b.y + r ∧ j % x = b.x + q) := fun h => e ((spot_iff (by omega)).2 h)
    unfold incK
    congr 1
    by_cases h : inB b (j / x) (j % x) = true ∧ (j / x < b.y + r ∨ (j / x = b.y + r ∧ j % x < b.x + q))
    · rw [if_pos h, if_pos ⟨h.1, by omega⟩]
    · rw [if_neg h, if_neg (fun h3 => h ⟨h3.1, by omega⟩)]

set_option maxRecDepth 100000 in
set_option maxHeartbeats 4000000 in
/-- A plane of bands: each place is counted once, and the plane is made of its bands again. -/
theorem cover10_go (x y d : Nat) (a : Option Addr) (n cap : Nat) (V : Nat → Int) (p : Nat) (a1 : Nat) (h7 : a1 % 7 = d) (w : World) (hx : 1 ≤ x) (hx' : x ≤ 1024) (hy : 1 ≤ y) (hy' : y ≤ 1024) (hm : x * y = n) (hn5 : n ≤ 5000) (fx : FitsN d x) (fy : FitsN d y) (h : Nums w a n cap V p) :
    Calls Try.prog 5 #[.agg #[.int .i64 (x : Int), .int .i64 (y : Int), .slice a n cap], .int .u8 (a1 : Int)] w fun e w' => e = .returned (.bool true) ∧ Below w.heap.size w w' := by
  have hd : d ≤ 6 := by omega
  have hdI : (a1 : Int) % 7 = (d : Int) := by omega
  have hR : rightP x y n = true := by rw [← hm]; exact rightP_of hx hx' hy hy'
  have hpos : 0 < n := by rw [← hm]; exact Nat.mul_pos (by omega) (by omega)
  have hpl := h.lt hpos
  have hok := bandsOk_of hx' hy' hd fx fy
  obtain ⟨N, hN⟩ : ∃ N, 3 * d + 1 = N := ⟨_, rfl⟩
  have hN19 : N ≤ 19 := by omega
  have hN1 : 1 ≤ N := by omega
  have hbn : bandsN x y d = N := by rw [bandsN_ok hok, ← hN]; rfl
  have HLi : Hid (∀ w1, Calls Try.prog 10 #[.int .i64 (x : Int), .int .i64 (y : Int), .int .i64 (d : Int)] w1 fun e w' => ListMade w1 w' e N (bandAt d x y)) := fun w1 => by
    have := blist_any x y d w1
    rw [hbn] at this
    exact this
  have HNew := hid (fun w => rnew_go x y hx hx' hy hy' w)
  rw [hm] at HNew
  have HN := hid h
  have HSm : Hid (∀ k, k < N → (bandAt d x y k).level ≤ 6 ∧ (bandAt d x y k).orient ≤ 3 ∧ (bandAt d x y k).x + (bandAt d x y k).w ≤ x ∧ (bandAt d x y k).y + (bandAt d x y k).h ≤ y ∧ 1 ≤ (bandAt d x y k).w ∧ 1 ≤ (bandAt d x y k).h) := fun k hk => bandAt_small fx fy hd (by omega)
  have HTk : Hid (∀ k, k < N → (bandsR d x y).take (k + 1) = (bandsR d x y).take k ++ [bandAt d x y k]) := fun k hk => take_snoc (by omega)
  have HTN : Hid ((bandsR d x y).take N = bandsR d x y) := List.take_of_length_le (by rw [bandsR_length]; omega)
  have HCnt : Hid (∀ j, j < n → cntB (bandsR d x y) (j / x) (j % x) = 1) := fun j hj => bands_cover fx fy (row_lt (W := x) (H := y) (by omega)) (col_lt (W := x) (H := y) (by omega))
  have HAg : Hid (∀ j, j < n → flatG x (madeG (bandsR d x y) (fun _ _ => 0) (gridV x V)) j = V j) := fun j hj => by rw [flatG_congr (H := y) (made_again fx fy _ _) (by omega), flatG_grid]
  have HCm : Hid (∀ k j, k ≤ N → cntB ((bandsR d x y).take k) (j / x) (j % x) ≤ 19) := fun k j hk => by
    refine Nat.le_trans List.countP_le_length ?_
    rw [List.length_take]; omega
  obtain ⟨W, hW⟩ : ∃ W, W = w.alloc (.cells #[.int .i64 (x : Int), .int .i64 (y : Int), .slice a n cap] 38) := ⟨_, rfl⟩
  have F0 : Fr (fun _ => False) w W := by rw [hW]; exact (Fr.refl _ w).alloc _
  have O0 : Blk W w.heap.size #[.int .i64 (x : Int), .int .i64 (y : Int), .slice a n cap] 38 := by rw [hW]; exact Blk.new _ _ _
  have HW := hid hW
  clear hW h hok hbn hN fx fy h7
  go_enter Try.func5, Try.ntmps5
  go_wp2_with fail
  rw [← HW.out]
  refine (first10_any W).mono ?_
  rintro e w1 ⟨rfl, f1⟩
  have P0 := O0.fr f1 (fun h => h)
  have F1 := F0.trans' f1
  have c0 : w1.cell? ⟨w.heap.size, 0, none⟩ = some (.int .i64 (x : Int)) := by rw [P0.cell]; rfl
  have c1 : w1.cell? ⟨w.heap.size, 1, none⟩ = some (.int .i64 (y : Int)) := by rw [P0.cell]; rfl
  clear O0 F0 f1 HW
  go_wp2_with fail
  refine (HLi.out w1).mono ?_
  rintro e w2 ⟨al, capl, bl, rfl, hBd, hbl, f2⟩
  obtain rfl := hBd.addr (by omega)
  have hbll := hBd.lt (by omega)
  have Q0 := P0.fr f2 (fun h => h)
  have F2 := F1.trans' f2
  have c0 : w2.cell? ⟨w.heap.size, 0, none⟩ = some (.int .i64 (x : Int)) := by rw [Q0.cell]; rfl
  have c1 : w2.cell? ⟨w.heap.size, 1, none⟩ = some (.int .i64 (y : Int)) := by rw [Q0.cell]; rfl
  have c2 : w2.cell? ⟨w.heap.size, 2, none⟩ = some (.slice a n cap) := by rw [Q0.cell]; rfl
  clear P0 F1 HLi
  have hn5I : decide ((5000 : Int) < (n : Int)) = false := decide_eq_false (by omega)
  go_wp2_with fail
  refine (rright_any x y a n cap w2).mono ?_
  rintro e w3 ⟨rfl, f3⟩
  rw [hR]
  have R0 := Q0.fr f3 (fun h => h)
  have F3 := F2.trans' f3
  have B3 := hBd.quiet f3
  have s3 := f3.size
  have hw3 := R0.lt
  have c0 : w3.cell? ⟨w.heap.size, 0, none⟩ = some (.int .i64 (x : Int)) := by rw [R0.cell]; rfl
  have c1 : w3.cell? ⟨w.heap.size, 1, none⟩ = some (.int .i64 (y : Int)) := by rw [R0.cell]; rfl
  have hN0 : ((N : Int) == 0) = false := by rw [← Bool.not_eq_true, beq_iff_eq]; omega
  clear Q0 F2 c2 hBd f3
  go_wp2_with fail
  refine (HNew.out w3).mono ?_
  rintro e w4 ⟨gq, rfl, rq, lq, f4⟩
  have hgq := rq.lt
  have s4 := f4.size
  obtain ⟨W5, hW5⟩ : ∃ W5, W5 = w4.alloc (.cells #[.int .i64 (x : Int), .int .i64 (y : Int), .slice (some ⟨gq, 0, none⟩) n n] 38) := ⟨_, rfl⟩
  obtain ⟨bq, hbq⟩ : ∃ bq, bq = w4.heap.size := ⟨_, rfl⟩
  have f5 : Fr (fun _ => False) w4 W5 := by rw [hW5]; exact (Fr.refl _ w4).alloc _
  have s5 : W5.heap.size = w4.heap.size + 1 := by rw [hW5]; simp
  have F5 := F3.trans' (f4.trans' f5)
  have S0 := R0.fr (f4.trans' f5) (fun h => h)
  have B5 := B3.quiet (f4.trans' f5)
  have q5 := rq.quiet f5
  have SQ : Blk W5 bq #[.int .i64 (x : Int), .int .i64 (y : Int), .slice (some ⟨gq, 0, none⟩) n n] 38 := by rw [hW5, hbq]; exact Blk.new _ _ _
  have c0 : W5.cell? ⟨w.heap.size, 0, none⟩ = some (.int .i64 (x : Int)) := by rw [S0.cell]; rfl
  have c1 : W5.cell? ⟨w.heap.size, 1, none⟩ = some (.int .i64 (y : Int)) := by rw [S0.cell]; rfl
  have HW5 := hid hW5
  have HBQ := hid hbq
  have hbq' : bq ≤ w4.heap.size := by omega
  have hbq'' : gq < bq := by omega
  rw [HW5.out] at c0 c1
  clear hW5 hbq f4 f5 rq R0 B3 F3
  go_wp2_with fail
  rw [← HW5.out]
  refine (HNew.out W5).mono ?_
  rintro e w6 ⟨gn, rfl, rn, ln, f6⟩
  have hgn := rn.lt
  have s6 := f6.size
  obtain ⟨W7, hW7⟩ : ∃ W7, W7 = w6.alloc (.cells #[.int .i64 (x : Int), .int .i64 (y : Int), .slice (some ⟨gn, 0, none⟩) n n] 38) := ⟨_, rfl⟩
  obtain ⟨bn, hbn⟩ : ∃ bn, bn = w6.heap.size := ⟨_, rfl⟩
  have f7 : Fr (fun _ => False) w6 W7 := by rw [hW7]; exact (Fr.refl _ w6).alloc _
  have F7 := F5.trans' (f6.trans' f7)
  have T0 := S0.fr (f6.trans' f7) (fun h => h)
  have B7 := B5.quiet (f6.trans' f7)
  have q7 := q5.quiet (f6.trans' f7)
  have n7 := rn.quiet f7
  have TQ := SQ.fr (f6.trans' f7) (fun h => h)
  have TN : Blk W7 bn #[.int .i64 (x : Int), .int .i64 (y : Int), .slice (some ⟨gn, 0, none⟩) n n] 38 := by rw [hW7, hbn]; exact Blk.new _ _ _
  have hbn' : bn ≤ w6.heap.size := by omega
  have hbn'' : gn < bn := by omega
  have hgqn : bq < gn := by omega
  have hblq : bl < gq := by omega
  have hwl : w.heap.size < gq := by omega
  have HC : Hid (∀ wr, Fr (fun j => j = gq ∨ j = gn) W7 wr → (wr.cell? ⟨w.heap.size, 0, none⟩ = some (.int .i64 (x : Int)) ∧ wr.cell? ⟨w.heap.size, 1, none⟩ = some (.int .i64 (y : Int)) ∧ wr.cell? ⟨w.heap.size, 2, none⟩ = some (.slice a n cap)) ∧ (wr.cell? ⟨bq, 0, none⟩ = some (.int .i64 (x : Int)) ∧ wr.cell? ⟨bq, 1, none⟩ = some (.int .i64 (y : Int)) ∧ wr.cell? ⟨bq, 2, none⟩ = some (.slice (some ⟨gq, 0, none⟩) n n)) ∧ wr.cell? ⟨bn, 2, none⟩ = some (.slice (some ⟨gn, 0, none⟩) n n) ∧ Hid (Bds wr (some ⟨bl, 0, none⟩) N capl (bandAt d x y) bl) ∧ Hid (Nums wr a n cap V p) ∧ Hid (Fr (fun _ => False) w wr)) := by
    intro wr f
    have U0 := T0.fr f (by omega)
    have UQ := TQ.fr f (by omega)
    have UN := TN.fr f (by omega)
    have FF : Fr (fun _ => False) w wr := F7.trans f (fun i hi e => by omega)
    exact ⟨⟨by rw [U0.cell]; rfl, by rw [U0.cell]; rfl, by rw [U0.cell]; rfl⟩, ⟨by rw [UQ.cell]; rfl, by rw [UQ.cell]; rfl, by rw [UQ.cell]; rfl⟩, by rw [UN.cell]; rfl, B7.fr f (fun _ => by omega), HN.out.quiet FF, FF⟩
  have HW7 := hid hW7
  have HBN := hid hbn
  have HF7 := hid (Fr.refl (fun j => j = gq ∨ j = gn) W7)
  have HRQ := hid (q7.rowC.congr (V' := flatG x (madeG ((bandsR d x y).take 0) (fun _ _ => 0) (gridV x V))) (fun j _ => rfl))
  have HRN := hid (n7.congr (V' := fun j => ((cntB ((bandsR d x y).take 0) (j / x) (j % x) : Nat) : Int)) (fun j _ => rfl))
  clear hW7 hbn f6 f7 rn S0 B5 q5 SQ T0 B7 q7 n7 TQ TN F5 F7 HNew c0 c1
  rw [← HBQ.out]
  go_wp2
  rw [← HW7.out, ← HBN.out]
  go_loopw [53] (fun i wr => ∃ k : Nat, k ≤ N ∧ i = .int .i64 (k : Int) ∧ RowC wr gq n (flatG x (madeG ((bandsR d x y).take k) (fun _ _ => 0) (gridV x V))) ∧ Row wr gn n (fun j => ((cntB ((bandsR d x y).take k) (j / x) (j % x) : Nat) : Int)) ∧ Fr (fun j => j = gq ∨ j = gn) W7 wr) (fun i _ => N - (intOf i).toNat)
  case atStart => exact ⟨0, Nat.zero_le _, rfl, HRQ.out, HRN.out, HF7.out⟩
  case round =>
    clear HRQ HRN HF7
    obtain ⟨k, hk, rfl, rq, rn, F⟩ := hrel
    by_cases hlt : k < N
    · have hki : (k : Int) < (N : Int) := by omega
      obtain ⟨⟨c0, c1, c2⟩, ⟨q0, q1, q2⟩, n2, HBd, HNp, HFw⟩ := HC.out wr F
      obtain ⟨k0, k1, k2, k3, k4, k5⟩ := HBd.out.cells hlt
      obtain ⟨y1, y2, y3, y4, y5, y6⟩ := HSm.out k hlt
      have HTk' := HTk.out k hlt
      have HCm' := hid (fun j => HCm.out k j hk)
      obtain ⟨C, hC⟩ : ∃ C : Nat → Nat, C = fun j => cntB ((bandsR d x y).take k) (j / x) (j % x) := ⟨_, rfl⟩
      obtain ⟨V1, hV1⟩ : ∃ V1 : Nat → Int, V1 = flatG x (madeG ((bandsR d x y).take k) (fun _ _ => 0) (gridV x V)) := ⟨_, rfl⟩
      obtain ⟨b, hb⟩ : ∃ b, b = bandAt d x y k := ⟨_, rfl⟩
      rw [← hb] at k0 k1 k2 k3 k4 k5 y1 y2 y3 y4 y5 y6 HTk'
      have HE1 : Hid (∀ j, j < n → putF x b V1 (cutF x b V) j = flatG x (madeG ((bandsR d x y).take (k + 1)) (fun _ _ => 0) (gridV x V)) j) := fun j hj => by
        rw [HTk', madeG_snoc, hV1]
        exact made_step (y := y) (by omega)
      have HE2 : Hid (∀ j, ((incK x b b.h 0 C j : Nat) : Int) = ((cntB ((bandsR d x y).take (k + 1)) (j / x) (j % x) : Nat) : Int)) := fun j => by
        rw [HTk', cntB_snoc, incK_end, hC]
      have HCs : Hid (∀ j, C j ≤ 19) := fun j => by rw [hC]; exact HCm'.out j
      have HRq := hid (rq.congr (V' := V1) (fun j _ => by rw [hV1]))
      have HRn := hid (rn.congr (V' := fun j => ((C j : Nat) : Int)) (fun j _ => by rw [hC]))
      clear HTk' HCm' rq rn hC hV1 hb
      obtain ⟨W8, hW8⟩ : ∃ W8, W8 = wr.alloc (.cells #[.int .i64 (b.level : Int), .int .i64 (b.orient : Int), .int .i64 (b.x : Int), .int .i64 (b.y : Int), .int .i64 (b.w : Int), .int .i64 (b.h : Int)] 31) := ⟨_, rfl⟩
      obtain ⟨bb, hbb⟩ : ∃ bb, bb = wr.heap.size := ⟨_, rfl⟩
      have f8 : Fr (fun _ => False) wr W8 := by rw [hW8]; exact (Fr.refl _ wr).alloc _
      have B8 : Blk W8 bb #[.int .i64 (b.level : Int), .int .i64 (b.orient : Int), .int .i64 (b.x : Int), .int .i64 (b.y : Int), .int .i64 (b.w : Int), .int .i64 (b.h : Int)] 31 := by rw [hW8, hbb]; exact Blk.new _ _ _
      have s8 : W7.heap.size ≤ wr.heap.size := F.size
      have hbb' : W7.heap.size ≤ bb := by omega
      have F8 := F.trans f8 (fun _ _ h => h.elim)
      obtain ⟨⟨c0, c1, c2⟩, _, _, _, HNp8, _⟩ := HC.out W8 F8
      have HW8 := hid hW8
      have HBB := hid hbb
      rw [HW8.out] at c0 c1 c2
      clear hW8 hbb HBd HNp HFw q0 q1 q2 n2
      go_wp2_with fail
      rw [← HW8.out]
      refine (bcut_go x y a n cap V p b.level b.orient b W8 hx hx' hy hy' hm HNp8.out y5 y6 y3 y4).mono ?_
      rintro e w9 ⟨a9, cap9, b9, rfl, N9, i9, f9⟩
      obtain ⟨m9, hm9⟩ : ∃ m9, b.w * b.h = m9 := ⟨_, rfl⟩
      rw [hm9] at N9 ⊢
      have B9 := B8.fr f9 (fun h => h)
      have F9 := F8.trans f9 (fun _ _ h => h.elim)
      obtain ⟨W10, hW10⟩ : ∃ W10, W10 = w9.alloc (.cells #[.int .i64 (b.w : Int), .int .i64 (b.h : Int), .slice a9 m9 cap9] 38) := ⟨_, rfl⟩
      obtain ⟨bc, hbc⟩ : ∃ bc, bc = w9.heap.size := ⟨_, rfl⟩
      have f10 : Fr (fun _ => False) w9 W10 := by rw [hW10]; exact (Fr.refl _ w9).alloc _
      have B10 := B9.fr f10 (fun h => h)
      have C10 : Blk W10 bc #[.int .i64 (b.w : Int), .int .i64 (b.h : Int), .slice a9 m9 cap9] 38 := by rw [hW10, hbc]; exact Blk.new _ _ _
      have N10 := N9.quiet f10
      have F10 := F9.trans f10 (fun _ _ h => h.elim)
      have R10 := HRq.out.quiet (f8.trans' (f9.trans' f10))
      obtain ⟨_, ⟨q0, q1, q2⟩, _, _, _, _⟩ := HC.out W10 F10
      have d0 : W10.cell? ⟨bb, 0, none⟩ = some (.int .i64 (b.level : Int)) := by rw [B10.cell]; rfl
      have d1 : W10.cell? ⟨bb, 1, none⟩ = some (.int .i64 (b.orient : Int)) := by rw [B10.cell]; rfl
      have d2 : W10.cell? ⟨bb, 2, none⟩ = some (.int .i64 (b.x : Int)) := by rw [B10.cell]; rfl
      have d3 : W10.cell? ⟨bb, 3, none⟩ = some (.int .i64 (b.y : Int)) := by rw [B10.cell]; rfl
      have d4 : W10.cell? ⟨bb, 4, none⟩ = some (.int .i64 (b.w : Int)) := by rw [B10.cell]; rfl
      have d5 : W10.cell? ⟨bb, 5, none⟩ = some (.int .i64 (b.h : Int)) := by rw [B10.cell]; rfl
      have HW10 := hid hW10
      have HBC := hid hbc
      have hn10 := HRn.out.quiet (f8.trans' (f9.trans' f10))
      rw [HW10.out] at q0 q1 q2 d0 d1 d2 d3 d4 d5
      clear hW10 hbc HNp8 f8 B8 B9 N9 i9 f9 F8 F9 C10 HRq HRn c0 c1 c2
      rw [← HBB.out]
      go_wp2_with fail
      rw [← HW10.out]
      refine (blay_go x y gq n n V1 b.level b.orient b a9 m9 cap9 (cutF x b V) b9 W10 hx hx' hy hy' hm R10 (Nat.le_refl _) y5 y6 y3 y4 hm9 N10).mono ?_
      rintro e w11 ⟨rfl, R11, f11⟩
      have F11 : Fr (fun j => j = gq ∨ j = gn) W7 w11 := F10.trans f11 (fun i hi e => .inl e)
      have s7 : gq < W7.heap.size ∧ gn < W7.heap.size := by have := HW7.out; rw [this]; simp; omega
      have hbbq : ¬ bb = gq ∧ ¬ bb = gn := by omega
      have B11 := B10.fr f11 hbbq.1
      have n11 := hn10.fr f11 (by omega)
      have e5 : w11.cell? ⟨bb, 5, none⟩ = some (.int .i64 (b.h : Int)) := by rw [B11.cell]; rfl
      have HD : Hid (∀ wr, Fr (fun j => j = gn) w11 wr → wr.cell? ⟨w.heap.size, 0, none⟩ = some (.int .i64 (x : Int)) ∧ wr.cell? ⟨bn, 2, none⟩ = some (.slice (some ⟨gn, 0, none⟩) n n) ∧ (wr.cell? ⟨bb, 2, none⟩ = some (.int .i64 (b.x : Int)) ∧ wr.cell? ⟨bb, 3, none⟩ = some (.int .i64 (b.y : Int)) ∧ wr.cell? ⟨bb, 4, none⟩ = some (.int .i64 (b.w : Int))) ∧ Hid (Fr (fun j => j = gq ∨ j = gn) W7 wr) ∧ Hid (RowC wr gq n (putF x b V1 (cutF x b V)))) := by
        intro wr f
        have FF : Fr (fun j => j = gq ∨ j = gn) W7 wr := F11.trans f (fun i hi e => .inr e)
        obtain ⟨⟨a0, _, _⟩, _, a2, _, _, _⟩ := HC.out wr FF
        have BB := B11.fr f hbbq.2
        exact ⟨a0, a2, ⟨by rw [BB.cell]; rfl, by rw [BB.cell]; rfl, by rw [BB.cell]; rfl⟩, FF, R11.fr f (by omega)⟩
      have HR11 := hid (n11.congr (V' := fun j => ((incK x b 0 0 C j : Nat) : Int)) (fun j _ => by rw [incK_zero]))
      clear B10 N10 F10 R10 hn10 R11 f11 F11 B11 n11 q0 q1 q2 d0 d1 d2 d3 d4 d5 F s7 HW10 HW8
      go_wp2
      clear e5
      go_loopw [67] (fun i wr => ∃ r : Nat, r ≤ b.h ∧ i = .int .i64 (r : Int) ∧ Row wr gn n (fun j => ((incK x b r 0 C j : Nat) : Int)) ∧ Fr (fun j => j = gn) w11 wr) (fun i _ => b.h - (intOf i).toNat)
      case atStart => exact ⟨0, Nat.zero_le _, rfl, HR11.out, Fr.refl _ _⟩
      case round =>
        clear HR11
        obtain ⟨r, hr, rfl, rn, F⟩ := hrel
        by_cases hrl : r < b.h
        · have hri : (r : Int) < (b.h : Int) := by omega
          obtain ⟨_, _, ⟨_, _, e4⟩, _, _⟩ := HD.out wr F
          have HR1 := hid rn
          have HF1 := hid F
          clear rn F
          go_wp2
          clear e4
          go_loopw [72] (fun i wr => ∃ q : Nat, q ≤ b.w ∧ i = .int .i64 (q : Int) ∧ Row wr gn n (fun j => ((incK x b r q C j : Nat) : Int)) ∧ Fr (fun j => j = gn) w11 wr) (fun i _ => b.w - (intOf i).toNat)
          case atStart => exact ⟨0, Nat.zero_le _, rfl, HR1.out, HF1.out⟩
          case round =>
            clear HR1 HF1
            obtain ⟨q, hq, rfl, rn, F⟩ := hrel
            by_cases hql : q < b.w
            · have hqi : (q : Int) < (b.w : Int) := by omega
              obtain ⟨p0, n2, ⟨e2, e3, _⟩, _, _⟩ := HD.out wr F
              obtain ⟨t1, ht1⟩ : ∃ t, b.y + r = t := ⟨_, rfl⟩
              have hend := row_end hm (show b.y + r < y by omega)
              obtain ⟨t2, ht2⟩ : ∃ t, (b.y + r) * x = t := ⟨_, rfl⟩
              obtain ⟨t3, ht3⟩ : ∃ t, t2 + b.x = t := ⟨_, rfl⟩
              obtain ⟨t4, ht4⟩ : ∃ t, t3 + q = t := ⟨_, rfl⟩
              have j1 : (b.y : Int) + (r : Int) = (t1 : Int) := by omega
              have j2 : (t1 : Int) * (x : Int) = (t2 : Int) := by rw [← ht2, ← ht1, Int.natCast_mul]
              have j3 : (t2 : Int) + (b.x : Int) = (t3 : Int) := by omega
              have j4 : (t3 : Int) + (q : Int) = (t4 : Int) := by omega
              have hlt4 : t4 < n := by omega
              have hlt4I : (t4 : Int) < (n : Int) := by omega
              have het : (b.y + r) * x + (b.x + q) = t4 := by omega
              have hval : incK x b r q C t4 = C t4 := by rw [← het]; exact incK_here (by omega)
              have HSET : Hid (∀ j, (if j = t4 then ((C t4 : Nat) : Int) + 1 else ((incK x b r q C j : Nat) : Int)) = ((incK x b r (q + 1) C j : Nat) : Int)) := fun j => by
                have := incK_step (C := C) hql hrl y3 j
                rw [het] at this
                rw [← this]
                by_cases e : j = t4
                · rw [if_pos e, if_pos e]; rfl
                · rw [if_neg e, if_neg e]
              have ck := rn.cell hlt4
              rw [hval] at ck
              have cf := rn.thaw t4
              have hc19 := HCs.out t4
              generalize C t4 = c at ck HSET hc19
              have HR := hid rn
              have ht1' : t1 ≤ 1024 := by omega
              clear rn hval ht1 ht2 ht3 ht4 het hend
              go_wp2
              go_roundw
              case rel => exact ⟨q + 1, by omega, by go_num, (HR.out.set t4 ((c : Int) + 1)).congr fun j _ => HSET.out j, F.setCell (p := ⟨gn, t4, none⟩) (fun _ => rfl) _⟩
              case measure => simp [intOf]; omega
            · have hqi : ¬ (q : Int) < (b.w : Int) := by omega
              have hqe : q = b.w := by omega
              have HR := hid (rn.congr (V' := fun j => ((incK x b (r + 1) 0 C j : Nat) : Int)) (fun j _ => by rw [hqe, incK_row]))
              clear rn hqe
              go_wp2
              go_roundw
              case rel => exact ⟨r + 1, by omega, by go_num, HR.out, F⟩
              case measure => simp [intOf]; omega
        · have hri : ¬ (r : Int) < (b.h : Int) := by omega
          have hre : r = b.h := by omega
          obtain ⟨_, _, _, HFE, HQE⟩ := HD.out wr F
          have HR := hid (rn.congr (V' := fun j => ((cntB ((bandsR d x y).take (k + 1)) (j / x) (j % x) : Nat) : Int)) (fun j _ => by rw [hre]; exact HE2.out j))
          clear rn hre F
          go_wp2
          go_roundw
          case rel => exact ⟨k + 1, by omega, by go_num, HQE.out.congr HE1.out, HR.out, HFE.out⟩
          case measure => simp [intOf]; omega
    · have hki : ¬ (k : Int) < (N : Int) := by omega
      obtain rfl : k = N := by omega
      rw [HTN.out] at rq rn
      have HRq := hid (rq.congr HAg.out)
      have HRn := hid (rn.congr (V' := fun _ => 1) (fun j hj => by rw [HCnt.out j hj]; rfl))
      clear rq rn
      obtain ⟨⟨c0, c1, c2⟩, ⟨q0, q1, q2⟩, n2, HBd, HNp, HFw⟩ := HC.out wr F
      obtain ⟨w0, hw0⟩ : ∃ w0, w0 = wr := ⟨_, rfl⟩
      rw [← hw0] at c0 c1 c2 q0 q1 q2 n2 HBd HNp HFw HRq HRn ⊢
      clear hw0 F HBd
      go_wp2
      go_loopw [99] (fun i wr => ∃ j : Nat, j ≤ n ∧ i = .int .i64 (j : Int) ∧ SameW wr w0) (fun i _ => n - (intOf i).toNat)
      case atStart => exact ⟨0, Nat.zero_le _, rfl, SameW.rfl⟩
      case round =>
        obtain ⟨j, hj, rfl, hs⟩ := hrel
        obtain rfl : w0 = wr := hs.symm
        by_cases hjl : j < n
        · have hji : (j : Int) < (n : Int) := by omega
          have ck := HRn.out.cell hjl
          go_wp2
          go_roundw
          case rel => exact ⟨j + 1, by omega, by go_num, SameW.rfl⟩
          case measure => simp [intOf]; omega
        · have hji : ¬ (j : Int) < (n : Int) := by omega
          have HSa := hid (rsame_any x y a n cap V p x y _ n n V gq w0 HNp.out (HRq.out.nums (Nat.le_refl _) (by unfold maxLen; omega)))
          rw [sameV_self] at HSa
          go_wp2_with fail
          refine HSa.out.mono ?_
          rintro e w9 ⟨rfl, f9⟩
          have HE := hid ((HFw.out.trans' f9).below (Nat.le_refl _) (fun _ _ h => h))
          go_wp2
          go_ret
          exact ⟨rfl, HE.out⟩

set_option maxHeartbeats 2000000 in
theorem cover10_walk (X Y : Int) (a : Option Addr) (n cap : Nat) (V : Nat → Int) (a1 : Nat) (h1 : a1 < 256) (w : World) (c : CellsIn w a n cap (fun i => .int .i64 (V i))) :
    Calls Try.prog 5 #[.agg #[.int .i64 X, .int .i64 Y, .slice a n cap], .int .u8 (a1 : Int)] w fun e w' => e = .returned (.bool true) ∧ Below w.heap.size w w' := by
  obtain ⟨p, hN, _⟩ := Nums.of_in c
  have hlen := hN.len
  obtain ⟨d, hd⟩ : ∃ d, a1 % 7 = d := ⟨_, rfl⟩
  have hdI : (a1 : Int) % 7 = (d : Int) := by omega
  have hd6 : d ≤ 6 := by omega
  have HLi := hid (fun w1 => blist_any X Y d w1)
  have HGo : Hid (n ≤ 5000 → rightP X Y n = true → bandsOk X Y d = true → Calls Try.prog 5 #[.agg #[.int .i64 X, .int .i64 Y, .slice a n cap], .int .u8 (a1 : Int)] w fun e w' => e = .returned (.bool true) ∧ Below w.heap.size w w') := by
    intro h5 hR hok
    obtain ⟨x, y, rfl, rfl, hx, hx', hy, hy', hm⟩ := rightP_nat hR
    obtain ⟨x2, y2, k, e1, e2, e3, _, _, _, fx, fy⟩ := bandsOk_nat hok
    obtain rfl : x = x2 := by omega
    obtain rfl : y = y2 := by omega
    obtain rfl : d = k := by omega
    exact cover10_go x y d a n cap V p a1 hd w hx hx' hy hy' hm.symm h5 fx fy hN
  obtain ⟨N, hbn⟩ : ∃ N, bandsN X Y d = N := ⟨_, rfl⟩
  rw [hbn] at HLi
  have hN19 : N ≤ 19 := by rw [← hbn]; exact bandsN_most _ _ _
  have HB : Hid (bandsOk X Y d = false → N = 0) := fun h => by rw [← hbn]; exact bandsN_no h
  obtain ⟨W, hW⟩ : ∃ W, W = w.alloc (.cells #[.int .i64 X, .int .i64 Y, .slice a n cap] 38) := ⟨_, rfl⟩
  have F0 : Fr (fun _ => False) w W := by rw [hW]; exact (Fr.refl _ w).alloc _
  have O0 : Blk W w.heap.size #[.int .i64 X, .int .i64 Y, .slice a n cap] 38 := by rw [hW]; exact Blk.new _ _ _
  have HW := hid hW
  clear hW hN c hd hbn
  by_cases h5 : n ≤ 5000
  · cases hR : rightP X Y n with
    | false =>
      have hn5I : decide ((5000 : Int) < (n : Int)) = false := decide_eq_false (by omega)
      clear HGo HB
      go_enter Try.func5, Try.ntmps5
      go_wp2_with fail
      rw [← HW.out]
      refine (first10_any W).mono ?_
      rintro e w1 ⟨rfl, f1⟩
      have P0 := O0.fr f1 (fun h => h)
      have F1 := F0.trans' f1
      have c0 : w1.cell? ⟨w.heap.size, 0, none⟩ = some (.int .i64 X) := by rw [P0.cell]; rfl
      have c1 : w1.cell? ⟨w.heap.size, 1, none⟩ = some (.int .i64 Y) := by rw [P0.cell]; rfl
      clear O0 F0 f1 HW
      go_wp2_with fail
      refine (HLi.out w1).mono ?_
      rintro e w2 ⟨al, capl, bl, rfl, _, _, f2⟩
      have Q0 := P0.fr f2 (fun h => h)
      have F2 := F1.trans' f2
      have c0 : w2.cell? ⟨w.heap.size, 0, none⟩ = some (.int .i64 X) := by rw [Q0.cell]; rfl
      have c1 : w2.cell? ⟨w.heap.size, 1, none⟩ = some (.int .i64 Y) := by rw [Q0.cell]; rfl
      have c2 : w2.cell? ⟨w.heap.size, 2, none⟩ = some (.slice a n cap) := by rw [Q0.cell]; rfl
      clear P0 F1 HLi
      go_wp2_with fail
      refine (rright_any X Y a n cap w2).mono ?_
      rintro e w3 ⟨rfl, f3⟩
      rw [hR]
      have HE := hid ((F2.trans' f3).below (Nat.le_refl _) (fun _ _ h => h))
      clear F2 f2 Q0 f3
      go_wp2
      go_ret
      exact ⟨rfl, HE.out⟩
    | true =>
      cases hok : bandsOk X Y d with
      | true => exact HGo.out h5 hR hok
      | false =>
        obtain rfl : N = 0 := HB.out hok
        have hn5I : decide ((5000 : Int) < (n : Int)) = false := decide_eq_false (by omega)
        clear HGo HB hok
        go_enter Try.func5, Try.ntmps5
        go_wp2_with fail
        rw [← HW.out]
        refine (first10_any W).mono ?_
        rintro e w1 ⟨rfl, f1⟩
        have P0 := O0.fr f1 (fun h => h)
        have F1 := F0.trans' f1
        have c0 : w1.cell? ⟨w.heap.size, 0, none⟩ = some (.int .i64 X) := by rw [P0.cell]; rfl
        have c1 : w1.cell? ⟨w.heap.size, 1, none⟩ = some (.int .i64 Y) := by rw [P0.cell]; rfl
        clear O0 F0 f1 HW
        go_wp2_with fail
        refine (HLi.out w1).mono ?_
        rintro e w2 ⟨al, capl, bl, rfl, _, _, f2⟩
        have Q0 := P0.fr f2 (fun h => h)
        have F2 := F1.trans' f2
        have c0 : w2.cell? ⟨w.heap.size, 0, none⟩ = some (.int .i64 X) := by rw [Q0.cell]; rfl
        have c1 : w2.cell? ⟨w.heap.size, 1, none⟩ = some (.int .i64 Y) := by rw [Q0.cell]; rfl
        have c2 : w2.cell? ⟨w.heap.size, 2, none⟩ = some (.slice a n cap) := by rw [Q0.cell]; rfl
        clear P0 F1 HLi
        go_wp2_with fail
        refine (rright_any X Y a n cap w2).mono ?_
        rintro e w3 ⟨rfl, f3⟩
        rw [hR]
        have HE := hid ((F2.trans' f3).below (Nat.le_refl _) (fun _ _ h => h))
        clear F2 f2 Q0 f3
        go_wp2
        go_ret
        exact ⟨rfl, HE.out⟩
  · have hn5I : decide ((5000 : Int) < (n : Int)) = true := decide_eq_true (by omega)
    clear HGo HB
    go_enter Try.func5, Try.ntmps5
    go_wp2_with fail
    rw [← HW.out]
    refine (first10_any W).mono ?_
    rintro e w1 ⟨rfl, f1⟩
    have P0 := O0.fr f1 (fun h => h)
    have F1 := F0.trans' f1
    have c0 : w1.cell? ⟨w.heap.size, 0, none⟩ = some (.int .i64 X) := by rw [P0.cell]; rfl
    have c1 : w1.cell? ⟨w.heap.size, 1, none⟩ = some (.int .i64 Y) := by rw [P0.cell]; rfl
    clear O0 F0 f1 HW
    go_wp2_with fail
    refine (HLi.out w1).mono ?_
    rintro e w2 ⟨al, capl, bl, rfl, _, _, f2⟩
    have Q0 := P0.fr f2 (fun h => h)
    have F2 := F1.trans' f2
    have c0 : w2.cell? ⟨w.heap.size, 0, none⟩ = some (.int .i64 X) := by rw [Q0.cell]; rfl
    have c1 : w2.cell? ⟨w.heap.size, 1, none⟩ = some (.int .i64 Y) := by rw [Q0.cell]; rfl
    have c2 : w2.cell? ⟨w.heap.size, 2, none⟩ = some (.slice a n cap) := by rw [Q0.cell]; rfl
    clear P0 F1 HLi
    have HE := hid (F2.below (Nat.le_refl _) (fun _ _ h => h))
    clear F2 f2 Q0
    go_wp2
    go_ret
    exact ⟨rfl, HE.out⟩
end Go.Proofs.Ytgmainbgliejhaa
