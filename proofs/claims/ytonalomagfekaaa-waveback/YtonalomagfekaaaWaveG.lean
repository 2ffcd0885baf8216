/-
  Package wave: a plane, there and back (Forward, Inverse).
-/
import Derived.Test.YtonalomagfekaaaWaveF
namespace Go.Proofs.Ytonalomagfekaaa
open Go.RowKit

theorem fwdW_i64 {f : Nat} (d : Nat) {w h : Nat} {A : Grid} (hw : FitsN d w) (hh : FitsN d h) (hI : AllG w h I64 A) : AllG w h I64 (fwdW f d w h A) := by
  induction d generalizing w h A with
  | zero => exact hI
  | succ d ih =>
    have hL := levelF_i64 (f := f) hw.even hh.even hI
    exact hL.lay (ih hw.half hh.half (hL.part (by omega) (by omega)))
theorem bwdW_i64 {f : Nat} (d : Nat) {w h : Nat} {A : Grid} (hw : FitsN d w) (hh : FitsN d h) (hI : AllG w h I64 A) : AllG w h I64 (bwdW f d w h A) := by
  induction d generalizing w h A with
  | zero => exact hI
  | succ d ih => exact levelB_i64 hw.even hh.even (hI.lay (ih hw.half hh.half (hI.part (by omega) (by omega))))
theorem FitsN.mono {d k n : Nat} (h : FitsN d n) (hk : k ≤ d) : FitsN k n := by
  induction d with
  | zero => obtain rfl : k = 0 := by omega
            exact h
  | succ d ih =>
    by_cases e : k = d + 1
    · rw [e]; exact h
    · exact ih h.less (by omega)
theorem gridV_i64 {x y m : Nat} {V : Nat → Int} (hm : x * y = m) (hV : ∀ j, j < m → I64 (V j)) : AllG x y I64 (gridV x V) := fun _ _ hy hx => hV _ (by rw [← hm]; exact flat_lt hx hy)
/-- A transform back that is under way: k levels are to come. -/
def BackAt (wr : World) (g m x y f d k : Nat) (G : Grid) : Prop := ∃ A, Row wr g m (flatG x A) ∧ AllG x y I64 A ∧ EqG x y (bwdW f k x y A) (bwdW f d x y G)
theorem fitsP_go {x y m d : Nat} (hd : d ≤ 6) (hx : 1 ≤ x) (hx' : x ≤ 1024) (hy : 1 ≤ y) (hy' : y ≤ 1024) (hm : x * y = m) (fx : FitsN d x) (fy : FitsN d y) : fitsP x y m d = true := by
  have h1 : deepB d = true := deepB_iff.2 (by omega)
  have h2 : rightP x y m = true := by rw [← hm]; exact rightP_of hx hx' hy hy'
  have e : (2 : Int) ^ d = ((2 ^ d : Nat) : Int) := by simp
  unfold fitsP
  rw [h1, h2, Int.toNat_natCast, e, ← Int.natCast_emod, ← Int.natCast_emod, fx.2, fy.2]
  rfl
theorem fitsP_nat {X Y : Int} {n : Nat} {d : Int} (h : fitsP X Y n d = true) : ∃ x y k : Nat, X = (x : Int) ∧ Y = (y : Int) ∧ d = (k : Int) ∧ 1 ≤ x ∧ x ≤ 1024 ∧ 1 ≤ y ∧ y ≤ 1024 ∧ x * y = n ∧ k ≤ 6 ∧ FitsN k x ∧ FitsN k y := by
  unfold fitsP at h
  simp only [Bool.and_eq_true, decide_eq_true_eq] at h
  obtain ⟨⟨⟨h1, h2⟩, h3⟩, h4⟩ := h
  obtain ⟨k, rfl, hk⟩ := deepB_nat h1
  obtain ⟨x, y, rfl, rfl, a, b, c, d, e⟩ := rightP_nat h2
  have e2 : (2 : Int) ^ k = ((2 ^ k : Nat) : Int) := by simp
  rw [Int.toNat_natCast, e2, ← Int.natCast_emod] at h3 h4
  exact ⟨x, y, k, rfl, rfl, rfl, a, b, c, d, e.symm, hk, ⟨a, by omega⟩, ⟨c, by omega⟩⟩

set_option maxHeartbeats 1000000 in
theorem wforward_go (f : Nat) (hf : f ≤ 4) (x y d : Nat) (a : Option Addr) (m cap : Nat) (V : Nat → Int) (b : Nat) (w : World) (hx : 1 ≤ x) (hx' : x ≤ 1024) (hy : 1 ≤ y) (hy' : y ≤ 1024) (hm : x * y = m) (hd : d ≤ 6) (fx : FitsN d x) (fy : FitsN d y) (h : Nums w a m cap V b) (hV : ∀ j, j < m → I64 (V j)) :
    Calls Try.prog 12 #[.int .i64 (f : Int), .agg #[.int .i64 (x : Int), .int .i64 (y : Int), .slice a m cap], .int .i64 (d : Int)] w fun e w' => Made w w' e x y m (flatG x (fwdW f d x y (gridV x V))) := by
  have hmm : m ≤ 1048576 := by rw [← hm]; exact mul_most hx' hy'
  have hff : filtB (f : Int) = true := filtB_iff.2 (by omega)
  have hfit := fitsP_go hd hx hx' hy hy' hm fx fy
  have hpos : 0 < m := by rw [← hm]; exact Nat.mul_pos (by omega) (by omega)
  have HFresh := hid (fun (w1 : World) (f : Fr (fun _ => False) w w1) => wfresh_any x y a m cap V b w1 hx hx' hy hy' hm (h.quiet f))
  have HAG := hid (gridV_i64 hm hV)
  obtain ⟨G, hG⟩ : ∃ G, G = gridV x V := ⟨_, rfl⟩
  have HVG : Hid (∀ j, V j = flatG x G j) := fun j => by rw [hG, flatG_grid]
  rw [← hG] at HAG ⊢
  obtain ⟨W, hW⟩ : ∃ W, W = (w.alloc (.cells #[.int .i64 (x : Int), .int .i64 (y : Int), .slice a m cap] 25)).alloc (.cells #[.int .i64 0, .int .i64 0, .slice none 0 0] 25) := ⟨_, rfl⟩
  have F0 : Fr (fun _ => False) w W := by rw [hW]; exact ((Fr.refl _ w).alloc _).alloc _
  have O0 : Blk W w.heap.size #[.int .i64 (x : Int), .int .i64 (y : Int), .slice a m cap] 25 := by rw [hW]; exact (Blk.new _ _ _).alloc _
  have O1 : Blk W (w.heap.size + 1) #[.int .i64 0, .int .i64 0, .slice none 0 0] 25 := by
    rw [hW]
    have := Blk.new (w.alloc (.cells #[.int .i64 (x : Int), .int .i64 (y : Int), .slice a m cap] 25)) #[.int .i64 0, .int .i64 0, .slice none 0 0] 25
    simpa using this
  have HW := hid hW
  clear hW hG h hV
  go_enter Try.func12, Try.ntmps12
  go_wp2_with fail
  rw [← HW.out]
  refine (lright_any _ W).mono ?_
  rintro e w1 ⟨rfl, hw1⟩
  obtain rfl : w1 = W := hw1
  rw [hff]
  have c0 : w1.cell? ⟨w.heap.size, 0, none⟩ = some (.int .i64 (x : Int)) := by rw [O0.cell]; rfl
  have c1 : w1.cell? ⟨w.heap.size, 1, none⟩ = some (.int .i64 (y : Int)) := by rw [O0.cell]; rfl
  have c2 : w1.cell? ⟨w.heap.size, 2, none⟩ = some (.slice a m cap) := by rw [O0.cell]; rfl
  go_wp2_with fail
  refine (wfits_any x y a m cap d w1).mono ?_
  rintro e w2 ⟨rfl, f2⟩
  rw [hfit]
  have P0 := O0.fr f2 (fun h => h)
  have P1 := O1.fr f2 (fun h => h)
  have F2 := F0.trans' f2
  clear O0 O1 f2 c0 c1 c2 hfit hff
  have c0 : w2.cell? ⟨w.heap.size, 0, none⟩ = some (.int .i64 (x : Int)) := by rw [P0.cell]; rfl
  have c1 : w2.cell? ⟨w.heap.size, 1, none⟩ = some (.int .i64 (y : Int)) := by rw [P0.cell]; rfl
  have c2 : w2.cell? ⟨w.heap.size, 2, none⟩ = some (.slice a m cap) := by rw [P0.cell]; rfl
  go_wp2_with fail
  refine (HFresh.out w2 F2).mono ?_
  rintro e w3 ⟨g, rfl, r3, lg, f3⟩
  have hgl := r3.lt
  have Q1 := P1.fr f3 (fun h => h)
  have F3 := F2.trans' f3
  have hs1 := P1.lt
  have hs2 := f3.size
  obtain ⟨W3, hW3⟩ : ∃ W3, W3 = w3.alloc (.cells #[.int .i64 (x : Int), .int .i64 (y : Int), .slice (some ⟨g, 0, none⟩) m m] 25) := ⟨_, rfl⟩
  obtain ⟨br, hbr⟩ : ∃ br, br = w3.heap.size := ⟨_, rfl⟩
  have F4 : Fr (fun _ => False) w W3 := by rw [hW3]; exact F3.alloc _
  have S1 : Blk W3 (w.heap.size + 1) #[.int .i64 0, .int .i64 0, .slice none 0 0] 25 := by rw [hW3]; exact Q1.alloc _
  have S3 : Blk W3 br #[.int .i64 (x : Int), .int .i64 (y : Int), .slice (some ⟨g, 0, none⟩) m m] 25 := by rw [hW3, hbr]; exact Blk.new _ _ _
  have R4 : Row W3 g m (flatG x G) := by rw [hW3]; exact (r3.quiet ((Fr.refl _ w3).alloc _)).congr fun j _ => HVG.out j
  have hgbr : g < br := by omega
  have hwg : w.heap.size + 1 < g := by omega
  have HBR := hid hbr
  have HW3 := hid hW3
  have HC : Hid (∀ wr, Fr (fun j => j = g) W3 wr → (wr.cell? ⟨br, 0, none⟩ = some (.int .i64 (x : Int)) ∧ wr.cell? ⟨br, 1, none⟩ = some (.int .i64 (y : Int)) ∧ wr.cell? ⟨br, 2, none⟩ = some (.slice (some ⟨g, 0, none⟩) m m)) ∧ Blk wr (w.heap.size + 1) #[.int .i64 0, .int .i64 0, .slice none 0 0] 25 ∧ Fr (fun _ => False) w wr) := by
    intro wr f
    have S3' := S3.fr f (by omega)
    exact ⟨⟨by rw [S3'.cell]; rfl, by rw [S3'.cell]; rfl, by rw [S3'.cell]; rfl⟩, S1.fr f (by omega), F4.trans f (fun i hi e => by omega)⟩
  clear P0 P1 Q1 F0 F2 F3 F4 f3 r3 hW3 hbr S1 S3 c0 c1 c2 HFresh HVG HW hs1 hs2 lg
  go_wp2
  rw [← HW3.out, ← HBR.out]
  go_loopw [22] (fun i wr => ∃ k : Nat, k ≤ d ∧ i = .int .i64 (k : Int) ∧ Row wr g m (flatG x (fwdW f k x y G)) ∧ Fr (fun j => j = g) W3 wr) (fun i _ => d - (intOf i).toNat)
  case atStart => exact ⟨0, Nat.zero_le _, rfl, R4, Fr.refl _ _⟩
  case round =>
    obtain ⟨k, hk, rfl, hr, F⟩ := hrel
    by_cases hlt : k < d
    · have hki : (k : Int) < (d : Int) := by omega
      obtain ⟨⟨c0, c1, c2⟩, _, _⟩ := HC.out wr F
      have hfx := fx.mono (show k + 1 ≤ d by omega)
      have hfy := fy.mono (show k + 1 ≤ d by omega)
      have HR := hid hr
      clear hr
      go_wp2_with fail
      refine (whalved_any g m x y k (x / 2 ^ k) (y / 2 ^ k) (by omega) rfl rfl wr).mono ?_
      rintro e w5 ⟨rfl, f5⟩
      go_wp2_with fail
      refine (wthere_any f hf g m x y (x / 2 ^ k) (y / 2 ^ k) (fwdW f k x y G) hm hfx.part hfy.part (Nat.div_le_self _ _) (Nat.div_le_self _ _) hx' hy' hmm w5 (HR.out.quiet f5) ((fwdW_i64 k hfx.less hfy.less HAG.out).part (Nat.div_le_self _ _) (Nat.div_le_self _ _))).mono ?_
      rintro e w6 ⟨rfl, R6, f6⟩
      have HR6 := hid (R6.congr (V' := flatG x (fwdW f (k + 1) x y G)) fun j hj => flatG_congr (fwdW_snoc k hfx hfy).symm (by rw [hm]; exact hj))
      have F6 := (F.trans f5 (fun _ _ h => False.elim h)).trans' f6
      clear R6 f5 f6 F c0 c1 c2 HR hfx hfy
      go_wp2
      go_roundw
      case rel => exact ⟨k + 1, by omega, by go_num, HR6.out, F6⟩
      case measure => simp [intOf]; omega
    · have hki : ¬ (k : Int) < (d : Int) := by omega
      obtain rfl : k = d := by omega
      have HR := hid hr
      obtain ⟨⟨c0, c1, c2⟩, BZ, FE⟩ := HC.out _ F
      have z0 : wr.cell? ⟨w.heap.size + 1, 0, none⟩ = some (.int .i64 0) := by rw [BZ.cell]; rfl
      have z1 : wr.cell? ⟨w.heap.size + 1, 1, none⟩ = some (.int .i64 0) := by rw [BZ.cell]; rfl
      have z2 : wr.cell? ⟨w.heap.size + 1, 2, none⟩ = some (.slice none 0 0) := by rw [BZ.cell]; rfl
      have zf := BZ.thaw
      have HBZ := hid BZ
      have HFE := hid FE
      clear BZ FE hr F
      go_wp2
      refine bodyPost_ret (v := .agg #[.int .i64 (x : Int), .int .i64 (y : Int), .slice (some ⟨g, 0, none⟩) m m]) ?_ rfl ⟨_, _, g, rfl, (HR.out.fr (fr_put3 _ _ _ _ _) (by omega)).nums (by unfold maxLen; omega), fun _ => ⟨by omega, (HR.out.fr (fr_put3 _ _ _ _ _) (by omega)).intB⟩, HFE.out.put3New (by omega) _ _ _⟩
      exact results_cell_row rfl _ _ (w.heap.size + 1) 25 _ (0, 0) _ rfl (show Blk _ _ _ _ from HBZ.out.put3 (.int .i64 (x : Int)) (.int .i64 (y : Int)) (.slice (some ⟨g, 0, none⟩) m m)) Try.underlying25 rfl Try.info_plane

set_option maxHeartbeats 1000000 in
theorem winverse_go (f : Nat) (hf : f ≤ 4) (x y d : Nat) (a : Option Addr) (m cap : Nat) (V : Nat → Int) (b : Nat) (w : World) (hx : 1 ≤ x) (hx' : x ≤ 1024) (hy : 1 ≤ y) (hy' : y ≤ 1024) (hm : x * y = m) (hd : d ≤ 6) (fx : FitsN d x) (fy : FitsN d y) (h : Nums w a m cap V b) (hV : ∀ j, j < m → I64 (V j)) :
    Calls Try.prog 14 #[.int .i64 (f : Int), .agg #[.int .i64 (x : Int), .int .i64 (y : Int), .slice a m cap], .int .i64 (d : Int)] w fun e w' => Made w w' e x y m (flatG x (bwdW f d x y (gridV x V))) := by
  have hmm : m ≤ 1048576 := by rw [← hm]; exact mul_most hx' hy'
  have hff : filtB (f : Int) = true := filtB_iff.2 (by omega)
  have hfit := fitsP_go hd hx hx' hy hy' hm fx fy
  have hpos : 0 < m := by rw [← hm]; exact Nat.mul_pos (by omega) (by omega)
  have HFresh := hid (fun (w1 : World) (f : Fr (fun _ => False) w w1) => wfresh_any x y a m cap V b w1 hx hx' hy hy' hm (h.quiet f))
  have HAG := hid (gridV_i64 hm hV)
  obtain ⟨G, hG⟩ : ∃ G, G = gridV x V := ⟨_, rfl⟩
  have HVG : Hid (∀ j, V j = flatG x G j) := fun j => by rw [hG, flatG_grid]
  rw [← hG] at HAG ⊢
  obtain ⟨W, hW⟩ : ∃ W, W = (w.alloc (.cells #[.int .i64 (x : Int), .int .i64 (y : Int), .slice a m cap] 25)).alloc (.cells #[.int .i64 0, .int .i64 0, .slice none 0 0] 25) := ⟨_, rfl⟩
  have F0 : Fr (fun _ => False) w W := by rw [hW]; exact ((Fr.refl _ w).alloc _).alloc _
  have O0 : Blk W w.heap.size #[.int .i64 (x : Int), .int .i64 (y : Int), .slice a m cap] 25 := by rw [hW]; exact (Blk.new _ _ _).alloc _
  have O1 : Blk W (w.heap.size + 1) #[.int .i64 0, .int .i64 0, .slice none 0 0] 25 := by
    rw [hW]
    have := Blk.new (w.alloc (.cells #[.int .i64 (x : Int), .int .i64 (y : Int), .slice a m cap] 25)) #[.int .i64 0, .int .i64 0, .slice none 0 0] 25
    simpa using this
  have HW := hid hW
  clear hW hG h hV
  go_enter Try.func14, Try.ntmps14
  go_wp2_with fail
  rw [← HW.out]
  refine (lright_any _ W).mono ?_
  rintro e w1 ⟨rfl, hw1⟩
  obtain rfl : w1 = W := hw1
  rw [hff]
  have c0 : w1.cell? ⟨w.heap.size, 0, none⟩ = some (.int .i64 (x : Int)) := by rw [O0.cell]; rfl
  have c1 : w1.cell? ⟨w.heap.size, 1, none⟩ = some (.int .i64 (y : Int)) := by rw [O0.cell]; rfl
  have c2 : w1.cell? ⟨w.heap.size, 2, none⟩ = some (.slice a m cap) := by rw [O0.cell]; rfl
  go_wp2_with fail
  refine (wfits_any x y a m cap d w1).mono ?_
  rintro e w2 ⟨rfl, f2⟩
  rw [hfit]
  have P0 := O0.fr f2 (fun h => h)
  have P1 := O1.fr f2 (fun h => h)
  have F2 := F0.trans' f2
  clear O0 O1 f2 c0 c1 c2 hfit hff
  have c0 : w2.cell? ⟨w.heap.size, 0, none⟩ = some (.int .i64 (x : Int)) := by rw [P0.cell]; rfl
  have c1 : w2.cell? ⟨w.heap.size, 1, none⟩ = some (.int .i64 (y : Int)) := by rw [P0.cell]; rfl
  have c2 : w2.cell? ⟨w.heap.size, 2, none⟩ = some (.slice a m cap) := by rw [P0.cell]; rfl
  go_wp2_with fail
  refine (HFresh.out w2 F2).mono ?_
  rintro e w3 ⟨g, rfl, r3, lg, f3⟩
  have hgl := r3.lt
  have Q1 := P1.fr f3 (fun h => h)
  have F3 := F2.trans' f3
  have hs1 := P1.lt
  have hs2 := f3.size
  obtain ⟨W3, hW3⟩ : ∃ W3, W3 = w3.alloc (.cells #[.int .i64 (x : Int), .int .i64 (y : Int), .slice (some ⟨g, 0, none⟩) m m] 25) := ⟨_, rfl⟩
  obtain ⟨br, hbr⟩ : ∃ br, br = w3.heap.size := ⟨_, rfl⟩
  have F4 : Fr (fun _ => False) w W3 := by rw [hW3]; exact F3.alloc _
  have S1 : Blk W3 (w.heap.size + 1) #[.int .i64 0, .int .i64 0, .slice none 0 0] 25 := by rw [hW3]; exact Q1.alloc _
  have S3 : Blk W3 br #[.int .i64 (x : Int), .int .i64 (y : Int), .slice (some ⟨g, 0, none⟩) m m] 25 := by rw [hW3, hbr]; exact Blk.new _ _ _
  have R4 : Row W3 g m (flatG x G) := by rw [hW3]; exact (r3.quiet ((Fr.refl _ w3).alloc _)).congr fun j _ => HVG.out j
  have hgbr : g < br := by omega
  have hwg : w.heap.size + 1 < g := by omega
  have HBR := hid hbr
  have HW3 := hid hW3
  have HC : Hid (∀ wr, Fr (fun j => j = g) W3 wr → (wr.cell? ⟨br, 0, none⟩ = some (.int .i64 (x : Int)) ∧ wr.cell? ⟨br, 1, none⟩ = some (.int .i64 (y : Int)) ∧ wr.cell? ⟨br, 2, none⟩ = some (.slice (some ⟨g, 0, none⟩) m m)) ∧ Blk wr (w.heap.size + 1) #[.int .i64 0, .int .i64 0, .slice none 0 0] 25 ∧ Fr (fun _ => False) w wr) := by
    intro wr f
    have S3' := S3.fr f (by omega)
    exact ⟨⟨by rw [S3'.cell]; rfl, by rw [S3'.cell]; rfl, by rw [S3'.cell]; rfl⟩, S1.fr f (by omega), F4.trans f (fun i hi e => by omega)⟩
  clear P0 P1 Q1 F0 F2 F3 F4 f3 r3 hW3 hbr S1 S3 c0 c1 c2 HFresh HVG HW hs1 hs2 lg
  go_wp2
  rw [← HW3.out, ← HBR.out]
  go_loopw [8] (fun i wr => ∃ k : Nat, k ≤ d ∧ i = .int .i64 ((k : Int) - 1) ∧ BackAt wr g m x y f d k G ∧ Fr (fun j => j = g) W3 wr) (fun i _ => (intOf i + 1).toNat)
  case atStart => exact ⟨d, Nat.le_refl _, rfl, ⟨G, R4, HAG.out, EqG.refl _ _ _⟩, Fr.refl _ _⟩
  case round =>
    obtain ⟨k, hk, rfl, hr, F⟩ := hrel
    cases k with
    | succ q =>
      have ek : (((q + 1 : Nat) : Int) - 1) = (q : Int) := by omega
      rw [ek]
      obtain ⟨A, rA, hA, eA⟩ := hr
      obtain ⟨⟨c0, c1, c2⟩, _, _⟩ := HC.out wr F
      have hfx := fx.mono hk
      have hfy := fy.mono hk
      have HR := hid rA
      have HE := hid eA
      have HA := hid hA
      have hq : q ≤ 5 := by omega
      clear rA eA hA ek
      go_wp2_with fail
      refine (whalved_any g m x y q (x / 2 ^ q) (y / 2 ^ q) (by omega) rfl rfl wr).mono ?_
      rintro e w5 ⟨rfl, f5⟩
      go_wp2_with fail
      refine (wback_any f hf g m x y (x / 2 ^ q) (y / 2 ^ q) A hm hfx.part hfy.part (Nat.div_le_self _ _) (Nat.div_le_self _ _) hx' hy' hmm w5 (HR.out.quiet f5) (HA.out.part (Nat.div_le_self _ _) (Nat.div_le_self _ _))).mono ?_
      rintro e w6 ⟨rfl, R6, f6⟩
      have HB6 : Hid (BackAt w6 g m x y f d q G) := ⟨_, R6, HA.out.lay (levelB_i64 hfx.part hfy.part (HA.out.part (Nat.div_le_self _ _) (Nat.div_le_self _ _))), (bwdW_snoc q hfx hfy).symm.trans HE.out⟩
      have F6 := (F.trans f5 (fun _ _ h => False.elim h)).trans' f6
      clear R6 f5 f6 F c0 c1 c2 HR hfx hfy HE HA
      go_wp2
      go_roundw
      case rel => exact ⟨q, by omega, by go_num, HB6.out, F6⟩
      case measure => simp [intOf]
    | zero =>
      have ek : (((0 : Nat) : Int) - 1) = -1 := by omega
      rw [ek]
      have HR : Hid (Row wr g m (flatG x (bwdW f d x y G))) := by
        obtain ⟨A, rA, _, eA⟩ := hr
        exact rA.congr fun j hj => flatG_congr eA (by rw [hm]; exact hj)
      clear ek
      obtain ⟨⟨c0, c1, c2⟩, BZ, FE⟩ := HC.out _ F
      have z0 : wr.cell? ⟨w.heap.size + 1, 0, none⟩ = some (.int .i64 0) := by rw [BZ.cell]; rfl
      have z1 : wr.cell? ⟨w.heap.size + 1, 1, none⟩ = some (.int .i64 0) := by rw [BZ.cell]; rfl
      have z2 : wr.cell? ⟨w.heap.size + 1, 2, none⟩ = some (.slice none 0 0) := by rw [BZ.cell]; rfl
      have zf := BZ.thaw
      have HBZ := hid BZ
      have HFE := hid FE
      clear BZ FE hr F
      go_wp2
      refine bodyPost_ret (v := .agg #[.int .i64 (x : Int), .int .i64 (y : Int), .slice (some ⟨g, 0, none⟩) m m]) ?_ rfl ⟨_, _, g, rfl, (HR.out.fr (fr_put3 _ _ _ _ _) (by omega)).nums (by unfold maxLen; omega), fun _ => ⟨by omega, (HR.out.fr (fr_put3 _ _ _ _ _) (by omega)).intB⟩, HFE.out.put3New (by omega) _ _ _⟩
      exact results_cell_row rfl _ _ (w.heap.size + 1) 25 _ (0, 0) _ rfl (show Blk _ _ _ _ from HBZ.out.put3 (.int .i64 (x : Int)) (.int .i64 (y : Int)) (.slice (some ⟨g, 0, none⟩) m m)) Try.underlying25 rfl Try.info_plane

/-- Is there a transform? -/
def waveOk (z : Int) (X Y : Int) (n : Nat) (d : Int) : Bool := filtB z && fitsP X Y n d
/-- A number, or 0. -/
def okI (c : Bool) (z : Int) : Int := if c then z else 0
def okN2 (c : Bool) (n : Nat) : Nat := if c then n else 0

set_option maxHeartbeats 1000000 in
theorem wforward_bad (z : Int) (X Y : Int) (a : Option Addr) (n cap : Nat) (d : Int) (w : World) (hb : (filtB z && fitsP X Y n d) = false) :
    Calls Try.prog 12 #[.int .i64 z, .agg #[.int .i64 X, .int .i64 Y, .slice a n cap], .int .i64 d] w fun e w' => e = .returned (.agg #[.int .i64 0, .int .i64 0, .slice none 0 0]) ∧ Fr (fun _ => False) w w' := by
  obtain ⟨W, hW⟩ : ∃ W, W = (w.alloc (.cells #[.int .i64 X, .int .i64 Y, .slice a n cap] 25)).alloc (.cells #[.int .i64 0, .int .i64 0, .slice none 0 0] 25) := ⟨_, rfl⟩
  have F0 : Fr (fun _ => False) w W := by rw [hW]; exact ((Fr.refl _ w).alloc _).alloc _
  have O0 : Blk W w.heap.size #[.int .i64 X, .int .i64 Y, .slice a n cap] 25 := by rw [hW]; exact (Blk.new _ _ _).alloc _
  have O1 : Blk W (w.heap.size + 1) #[.int .i64 0, .int .i64 0, .slice none 0 0] 25 := by
    rw [hW]
    have := Blk.new (w.alloc (.cells #[.int .i64 X, .int .i64 Y, .slice a n cap] 25)) #[.int .i64 0, .int .i64 0, .slice none 0 0] 25
    simpa using this
  have HW := hid hW
  clear hW
  cases hz : filtB z with
  | false =>
    go_enter Try.func12, Try.ntmps12
    go_wp2_with fail
    rw [← HW.out]
    refine (lright_any _ W).mono ?_
    rintro e w1 ⟨rfl, hw1⟩
    obtain rfl : w1 = W := hw1
    rw [hz]
    have B2 := O1.fr (Fr.refl (fun _ => False) w1) (fun h => h)
    have F3 := F0.trans' (Fr.refl (fun _ => False) w1)
    have z0 : w1.cell? ⟨w.heap.size + 1, 0, none⟩ = some (.int .i64 0) := by rw [B2.cell]; rfl
    have z1 : w1.cell? ⟨w.heap.size + 1, 1, none⟩ = some (.int .i64 0) := by rw [B2.cell]; rfl
    have z2 : w1.cell? ⟨w.heap.size + 1, 2, none⟩ = some (.slice none 0 0) := by rw [B2.cell]; rfl
    have zf := B2.thaw
    have HB2 := hid B2
    have HF3 := hid F3
    clear B2 F3 O0 O1 F0
    go_wp2
    refine bodyPost_ret (v := .agg #[.int .i64 0, .int .i64 0, .slice none 0 0]) ?_ rfl ⟨rfl, HF3.out.put3New (by omega) _ _ _⟩
    exact results_cell_row rfl _ _ (w.heap.size + 1) 25 _ (0, 0) _ rfl (show Blk _ _ _ _ from HB2.out.put3 (.int .i64 0) (.int .i64 0) (.slice none 0 0)) Try.underlying25 rfl Try.info_plane
  | true =>
    rw [hz, Bool.true_and] at hb
    have c0 : W.cell? ⟨w.heap.size, 0, none⟩ = some (.int .i64 X) := by rw [O0.cell]; rfl
    have c1 : W.cell? ⟨w.heap.size, 1, none⟩ = some (.int .i64 Y) := by rw [O0.cell]; rfl
    have c2 : W.cell? ⟨w.heap.size, 2, none⟩ = some (.slice a n cap) := by rw [O0.cell]; rfl
    go_enter Try.func12, Try.ntmps12
    go_wp2_with fail
    rw [← HW.out]
    refine (lright_any _ W).mono ?_
    rintro e w1 ⟨rfl, hw1⟩
    obtain rfl : w1 = W := hw1
    rw [hz]
    go_wp2_with fail
    refine (wfits_any X Y a n cap d w1).mono ?_
    rintro e w2 ⟨rfl, f2⟩
    rw [hb]
    have B2 := O1.fr f2 (fun h => h)
    have F3 := F0.trans' f2
    have z0 : w2.cell? ⟨w.heap.size + 1, 0, none⟩ = some (.int .i64 0) := by rw [B2.cell]; rfl
    have z1 : w2.cell? ⟨w.heap.size + 1, 1, none⟩ = some (.int .i64 0) := by rw [B2.cell]; rfl
    have z2 : w2.cell? ⟨w.heap.size + 1, 2, none⟩ = some (.slice none 0 0) := by rw [B2.cell]; rfl
    have zf := B2.thaw
    have HB2 := hid B2
    have HF3 := hid F3
    clear B2 F3 O0 O1 F0
    go_wp2
    refine bodyPost_ret (v := .agg #[.int .i64 0, .int .i64 0, .slice none 0 0]) ?_ rfl ⟨rfl, HF3.out.put3New (by omega) _ _ _⟩
    exact results_cell_row rfl _ _ (w.heap.size + 1) 25 _ (0, 0) _ rfl (show Blk _ _ _ _ from HB2.out.put3 (.int .i64 0) (.int .i64 0) (.slice none 0 0)) Try.underlying25 rfl Try.info_plane

/-- In one form for all filters, planes and depths. -/
theorem wforward_any (z : Int) (X Y : Int) (a : Option Addr) (n cap : Nat) (V : Nat → Int) (b : Nat) (d : Int) (w : World) (h : Nums w a n cap V b) (hV : ∀ j, j < n → I64 (V j)) :
    Calls Try.prog 12 #[.int .i64 z, .agg #[.int .i64 X, .int .i64 Y, .slice a n cap], .int .i64 d] w fun e w' => Made w w' e (okI (waveOk z X Y n d) X) (okI (waveOk z X Y n d) Y) (okN2 (waveOk z X Y n d) n) (flatG X.toNat (fwdW z.toNat d.toNat X.toNat Y.toNat (gridV X.toNat V))) := by
  cases hb : waveOk z X Y n d with
  | false =>
    refine (wforward_bad z X Y a n cap d w hb).mono ?_
    rintro e w' ⟨rfl, f⟩
    exact Made.zero f _
  | true =>
    obtain ⟨hz, hp⟩ : filtB z = true ∧ fitsP X Y n d = true := by simpa [waveOk] using hb
    obtain ⟨f, rfl⟩ := Int.eq_ofNat_of_zero_le (filtB_iff.1 hz).1
    obtain ⟨x, y, k, rfl, rfl, rfl, hx, hx', hy, hy', hm, hk, fx, fy⟩ := fitsP_nat hp
    exact wforward_go f (by have := (filtB_iff.1 hz).2; omega) x y k a n cap V b w hx hx' hy hy' hm hk fx fy h hV

set_option maxHeartbeats 1000000 in
theorem winverse_bad (z : Int) (X Y : Int) (a : Option Addr) (n cap : Nat) (d : Int) (w : World) (hb : (filtB z && fitsP X Y n d) = false) :
    Calls Try.prog 14 #[.int .i64 z, .agg #[.int .i64 X, .int .i64 Y, .slice a n cap], .int .i64 d] w fun e w' => e = .returned (.agg #[.int .i64 0, .int .i64 0, .slice none 0 0]) ∧ Fr (fun _ => False) w w' := by
  obtain ⟨W, hW⟩ : ∃ W, W = (w.alloc (.cells #[.int .i64 X, .int .i64 Y, .slice a n cap] 25)).alloc (.cells #[.int .i64 0, .int .i64 0, .slice none 0 0] 25) := ⟨_, rfl⟩
  have F0 : Fr (fun _ => False) w W := by rw [hW]; exact ((Fr.refl _ w).alloc _).alloc _
  have O0 : Blk W w.heap.size #[.int .i64 X, .int .i64 Y, .slice a n cap] 25 := by rw [hW]; exact (Blk.new _ _ _).alloc _
  have O1 : Blk W (w.heap.size + 1) #[.int .i64 0, .int .i64 0, .slice none 0 0] 25 := by
    rw [hW]
    have := Blk.new (w.alloc (.cells #[.int .i64 X, .int .i64 Y, .slice a n cap] 25)) #[.int .i64 0, .int .i64 0, .slice none 0 0] 25
    simpa using this
  have HW := hid hW
  clear hW
  cases hz : filtB z with
  | false =>
    go_enter Try.func14, Try.ntmps14
    go_wp2_with fail
    rw [← HW.out]
    refine (lright_any _ W).mono ?_
    rintro e w1 ⟨rfl, hw1⟩
    obtain rfl : w1 = W := hw1
    rw [hz]
    have B2 := O1.fr (Fr.refl (fun _ => False) w1) (fun h => h)
    have F3 := F0.trans' (Fr.refl (fun _ => False) w1)
    have z0 : w1.cell? ⟨w.heap.size + 1, 0, none⟩ = some (.int .i64 0) := by rw [B2.cell]; rfl
    have z1 : w1.cell? ⟨w.heap.size + 1, 1, none⟩ = some (.int .i64 0) := by rw [B2.cell]; rfl
    have z2 : w1.cell? ⟨w.heap.size + 1, 2, none⟩ = some (.slice none 0 0) := by rw [B2.cell]; rfl
    have zf := B2.thaw
    have HB2 := hid B2
    have HF3 := hid F3
    clear B2 F3 O0 O1 F0
    go_wp2
    refine bodyPost_ret (v := .agg #[.int .i64 0, .int .i64 0, .slice none 0 0]) ?_ rfl ⟨rfl, HF3.out.put3New (by omega) _ _ _⟩
    exact results_cell_row rfl _ _ (w.heap.size + 1) 25 _ (0, 0) _ rfl (show Blk _ _ _ _ from HB2.out.put3 (.int .i64 0) (.int .i64 0) (.slice none 0 0)) Try.underlying25 rfl Try.info_plane
  | true =>
    rw [hz, Bool.true_and] at hb
    have c0 : W.cell? ⟨w.heap.size, 0, none⟩ = some (.int .i64 X) := by rw [O0.cell]; rfl
    have c1 : W.cell? ⟨w.heap.size, 1, none⟩ = some (.int .i64 Y) := by rw [O0.cell]; rfl
    have c2 : W.cell? ⟨w.heap.size, 2, none⟩ = some (.slice a n cap) := by rw [O0.cell]; rfl
    go_enter Try.func14, Try.ntmps14
    go_wp2_with fail
    rw [← HW.out]
    refine (lright_any _ W).mono ?_
    rintro e w1 ⟨rfl, hw1⟩
    obtain rfl : w1 = W := hw1
    rw [hz]
    go_wp2_with fail
    refine (wfits_any X Y a n cap d w1).mono ?_
    rintro e w2 ⟨rfl, f2⟩
    rw [hb]
    have B2 := O1.fr f2 (fun h => h)
    have F3 := F0.trans' f2
    have z0 : w2.cell? ⟨w.heap.size + 1, 0, none⟩ = some (.int .i64 0) := by rw [B2.cell]; rfl
    have z1 : w2.cell? ⟨w.heap.size + 1, 1, none⟩ = some (.int .i64 0) := by rw [B2.cell]; rfl
    have z2 : w2.cell? ⟨w.heap.size + 1, 2, none⟩ = some (.slice none 0 0) := by rw [B2.cell]; rfl
    have zf := B2.thaw
    have HB2 := hid B2
    have HF3 := hid F3
    clear B2 F3 O0 O1 F0
    go_wp2
    refine bodyPost_ret (v := .agg #[.int .i64 0, .int .i64 0, .slice none 0 0]) ?_ rfl ⟨rfl, HF3.out.put3New (by omega) _ _ _⟩
    exact results_cell_row rfl _ _ (w.heap.size + 1) 25 _ (0, 0) _ rfl (show Blk _ _ _ _ from HB2.out.put3 (.int .i64 0) (.int .i64 0) (.slice none 0 0)) Try.underlying25 rfl Try.info_plane

/-- In one form for all filters, planes and depths. -/
theorem winverse_any (z : Int) (X Y : Int) (a : Option Addr) (n cap : Nat) (V : Nat → Int) (b : Nat) (d : Int) (w : World) (h : Nums w a n cap V b) (hV : ∀ j, j < n → I64 (V j)) :
    Calls Try.prog 14 #[.int .i64 z, .agg #[.int .i64 X, .int .i64 Y, .slice a n cap], .int .i64 d] w fun e w' => Made w w' e (okI (waveOk z X Y n d) X) (okI (waveOk z X Y n d) Y) (okN2 (waveOk z X Y n d) n) (flatG X.toNat (bwdW z.toNat d.toNat X.toNat Y.toNat (gridV X.toNat V))) := by
  cases hb : waveOk z X Y n d with
  | false =>
    refine (winverse_bad z X Y a n cap d w hb).mono ?_
    rintro e w' ⟨rfl, f⟩
    exact Made.zero f _
  | true =>
    obtain ⟨hz, hp⟩ : filtB z = true ∧ fitsP X Y n d = true := by simpa [waveOk] using hb
    obtain ⟨f, rfl⟩ := Int.eq_ofNat_of_zero_le (filtB_iff.1 hz).1
    obtain ⟨x, y, k, rfl, rfl, rfl, hx, hx', hy, hy', hm, hk, fx, fy⟩ := fitsP_nat hp
    exact winverse_go f (by have := (filtB_iff.1 hz).2; omega) x y k a n cap V b w hx hx' hy hy' hm hk fx fy h hV
end Go.Proofs.Ytonalomagfekaaa
