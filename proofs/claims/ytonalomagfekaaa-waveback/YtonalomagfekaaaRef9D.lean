/-
  The document's answer for layer 9: a transform, there.
-/
import Derived.Test.YtonalomagfekaaaRef9K
import Derived.Test.YtonalomagfekaaaRef9B
import Derived.Test.YtonalomagfekaaaWaveG
namespace Go.Proofs.Ytonalomagfekaaa
open Go.RowKit

/-- What a call that gives a plane leaves: its numbers, new or not; all else as it was. -/
def Gave (w w' : World) (e : Ending) (X Y : Int) (n : Nat) (V : Nat → Int) : Prop :=
  ∃ a cap b, e = .returned (.agg #[.int .i64 X, .int .i64 Y, .slice a n cap]) ∧ Nums w' a n cap V b ∧ Fr (fun _ => False) w w'
theorem Gave.zero {w w' : World} (f : Fr (fun _ => False) w w') (V : Nat → Int) : Gave w w' (.returned (.agg #[.int .i64 0, .int .i64 0, .slice none 0 0])) 0 0 0 V := ⟨none, 0, 0, rfl, Nums.nil _ _ _, f⟩
/-- A plane as a value, its numbers wherever they lie. -/
def PlaneN (w : World) (v : Value) (X Y : Int) (n : Nat) (V : Nat → Int) : Prop := ∃ a cap b, v = .agg #[.int .i64 X, .int .i64 Y, .slice a n cap] ∧ Nums w a n cap V b
theorem PlaneN.quiet {w w' : World} {v : Value} {X Y : Int} {n : Nat} {V : Nat → Int} (h : PlaneN w v X Y n V) (f : Fr (fun _ => False) w w') : PlaneN w' v X Y n V := by
  obtain ⟨a, cap, b, e, hn⟩ := h
  exact ⟨a, cap, b, e, hn.quiet f⟩
def StayP.planeN (X Y : Int) (n : Nat) (V : Nat → Int) : StayP := ⟨fun v w => PlaneN w v X Y n V, fun h f => h.quiet f⟩
/-- A plane as a value, its numbers in new memory. -/
def NewPlane (w : World) (v : Value) (B : Nat) (X Y : Int) (n : Nat) (V : Nat → Int) : Prop := ∃ g cap, v = .agg #[.int .i64 X, .int .i64 Y, .slice (some ⟨g, 0, none⟩) n cap] ∧ RowC w g n V ∧ n ≤ cap ∧ cap ≤ maxLen ∧ B ≤ g
theorem NewPlane.quiet {w w' : World} {v : Value} {B : Nat} {X Y : Int} {n : Nat} {V : Nat → Int} (h : NewPlane w v B X Y n V) (f : Fr (fun _ => False) w w') : NewPlane w' v B X Y n V := by
  obtain ⟨g, cap, e, r, l⟩ := h
  exact ⟨g, cap, e, r.quiet f, l⟩
def StayP.newPlane (B : Nat) (X Y : Int) (n : Nat) (V : Nat → Int) : StayP := ⟨fun v w => NewPlane w v B X Y n V, fun h f => h.quiet f⟩
/-- The part of a plane, as a grid. -/
theorem part_grid {x y u v : Nat} {G : Grid} {V : Nat → Int} (hu : u ≤ x) (hv : v ≤ y) (hV : ∀ j, j < x * y → V j = flatG x G j) : EqG u v (gridV u (sizedV x y V u)) G := fun r c hr hc => by
  show sizedV x y V u (r * u + c) = G r c
  rw [sizedV_at hc, atP_in (by omega) (by omega), hV _ (flat_lt (by omega) (by omega)), flatG_at (by omega)]

set_option maxRecDepth 100000 in
set_option maxHeartbeats 2000000 in
theorem rforward_go (fi : Nat) (hf : fi ≤ 4) (d : Nat) (hd : d ≤ 6) (x y : Nat) (a : Option Addr) (m cap : Nat) (V : Nat → Int) (b : Nat) (w : World) (hx : 1 ≤ x) (hx' : x ≤ 1024) (hy : 1 ≤ y) (hy' : y ≤ 1024) (hm : x * y = m) (fx : FitsN d x) (fy : FitsN d y) (h : Nums w a m cap V b) :
    Calls Try.prog 13 #[.int .i64 (fi : Int), .agg #[.int .i64 (x : Int), .int .i64 (y : Int), .slice a m cap], .int .i64 (d : Int)] w fun e w' => Gave w w' e x y m (flatG x (fwdW fi d x y (gridV x V))) := by
  induction d generalizing x y a m cap V b w with
  | zero =>
    have hmm : m ≤ 1048576 := by rw [← hm]; exact mul_most hx' hy'
    have hfit := fitsP_go hd hx hx' hy hy' hm fx fy
    have hpos : 0 < m := by rw [← hm]; exact Nat.mul_pos (by omega) (by omega)
    have hf0 : decide ((fi : Int) < 0) = false := decide_eq_false (by omega)
    have hf4 : decide ((4 : Int) < (fi : Int)) = false := decide_eq_false (by omega)
    obtain ⟨W, hW⟩ : ∃ W, W = (w.alloc (.cells #[.int .i64 (x : Int), .int .i64 (y : Int), .slice a m cap] 25)).alloc (.cells #[.int .i64 0, .int .i64 0, .slice none 0 0] 25) := ⟨_, rfl⟩
    have F0 : Fr (fun _ => False) w W := by rw [hW]; exact ((Fr.refl _ w).alloc _).alloc _
    have O0 : Blk W w.heap.size #[.int .i64 (x : Int), .int .i64 (y : Int), .slice a m cap] 25 := by rw [hW]; exact (Blk.new _ _ _).alloc _
    have O1 : Blk W (w.heap.size + 1) #[.int .i64 0, .int .i64 0, .slice none 0 0] 25 := by
      rw [hW]
      have := Blk.new (w.alloc (.cells #[.int .i64 (x : Int), .int .i64 (y : Int), .slice a m cap] 25)) #[.int .i64 0, .int .i64 0, .slice none 0 0] 25
      simpa using this
    have hb0 : b < w.heap.size := h.lt hpos
    have HN := hid h
    have HW := hid hW
    clear hW h
    have c0 : W.cell? ⟨w.heap.size, 0, none⟩ = some (.int .i64 (x : Int)) := by rw [O0.cell]; rfl
    have c1 : W.cell? ⟨w.heap.size, 1, none⟩ = some (.int .i64 (y : Int)) := by rw [O0.cell]; rfl
    have c2 : W.cell? ⟨w.heap.size, 2, none⟩ = some (.slice a m cap) := by rw [O0.cell]; rfl
    rw [HW.out] at c0 c1 c2
    have hd0 : (((0 : Nat) : Int) == 0) = true := rfl
    go_enter Try.func13, Try.ntmps13
    go_wp2_with fail
    rw [← HW.out]
    clear c0 c1 c2
    refine (rfits_any x y a m cap ((0 : Nat) : Int) W).mono ?_
    rintro e w2 ⟨rfl, f2⟩
    rw [hfit]
    have P2 := O0.fr f2 (fun h => h)
    have Z2 := O1.fr f2 (fun h => h)
    have F2 := F0.trans' f2
    have N2 := HN.out.quiet F2
    have hz2 := Z2.lt
    clear O0 O1 F0 f2 HW
    have c0 : w2.cell? ⟨w.heap.size, 0, none⟩ = some (.int .i64 (x : Int)) := by rw [P2.cell]; rfl
    have c1 : w2.cell? ⟨w.heap.size, 1, none⟩ = some (.int .i64 (y : Int)) := by rw [P2.cell]; rfl
    have c2 : w2.cell? ⟨w.heap.size, 2, none⟩ = some (.slice a m cap) := by rw [P2.cell]; rfl
    have z0 : w2.cell? ⟨w.heap.size + 1, 0, none⟩ = some (.int .i64 0) := by rw [Z2.cell]; rfl
    have z1 : w2.cell? ⟨w.heap.size + 1, 1, none⟩ = some (.int .i64 0) := by rw [Z2.cell]; rfl
    have z2 : w2.cell? ⟨w.heap.size + 1, 2, none⟩ = some (.slice none 0 0) := by rw [Z2.cell]; rfl
    have zf := Z2.thaw
    have HZ2 := hid Z2
    have HF2 := hid F2
    have HN2 := hid (N2.congr (V' := flatG x (fwdW fi 0 x y (gridV x V))) fun j _ => (flatG_grid x V j).symm)
    clear N2 Z2 F2 P2
    go_wp2
    refine bodyPost_ret (v := .agg #[.int .i64 (x : Int), .int .i64 (y : Int), .slice a m cap]) ?_ rfl ⟨a, cap, b, rfl, HN2.out.fr (fr_put3 _ _ _ _ _) (fun _ => by omega), HF2.out.put3New (by omega) _ _ _⟩
    exact results_cell_row rfl _ _ (w.heap.size + 1) 25 _ (0, 0) _ rfl (show Blk _ _ _ _ from HZ2.out.put3 _ _ _) Try.underlying25 rfl Try.info_plane
  | succ q ih =>
    obtain ⟨u, hu⟩ : ∃ u, u = x / 2 := ⟨_, rfl⟩
    obtain ⟨v, hv⟩ : ∃ v, v = y / 2 := ⟨_, rfl⟩
    have hqx : (x : Int) / 2 = (u : Int) := by omega
    have hqy : (y : Int) / 2 = (v : Int) := by omega
    have hqx' : (x : Int).tdiv 2 = (u : Int) := by rw [Int.tdiv_eq_ediv_of_nonneg (by omega)]; omega
    have hqy' : (y : Int).tdiv 2 = (v : Int) := by rw [Int.tdiv_eq_ediv_of_nonneg (by omega)]; omega
    have ex := fx.even
    have ey := fy.even
    have hux : u ≤ x := by omega
    have hvy : v ≤ y := by omega
    have hu1 : 1 ≤ u := by have := ex.1; omega
    have hv1 : 1 ≤ v := by have := ey.1; omega
    have fu : FitsN q u := by rw [hu]; exact fx.half
    have fv : FitsN q v := by rw [hv]; exact fy.half
    obtain ⟨r, hr⟩ : ∃ r, u * v = r := ⟨_, rfl⟩
    obtain ⟨d, hdq⟩ : ∃ d, d = q + 1 := ⟨_, rfl⟩
    rw [← hdq] at fx fy hd ⊢
    have hd1 : (d : Int) - 1 = (q : Int) := by omega
    have hdn : ((d : Int) == 0) = false := by simp; omega
    have hmm : m ≤ 1048576 := by rw [← hm]; exact mul_most hx' hy'
    have hfit := fitsP_go hd hx hx' hy hy' hm fx fy
    have hpos : 0 < m := by rw [← hm]; exact Nat.mul_pos (by omega) (by omega)
    have hf0 : decide ((fi : Int) < 0) = false := decide_eq_false (by omega)
    have hf4 : decide ((4 : Int) < (fi : Int)) = false := decide_eq_false (by omega)
    obtain ⟨W, hW⟩ : ∃ W, W = (w.alloc (.cells #[.int .i64 (x : Int), .int .i64 (y : Int), .slice a m cap] 25)).alloc (.cells #[.int .i64 0, .int .i64 0, .slice none 0 0] 25) := ⟨_, rfl⟩
    have F0 : Fr (fun _ => False) w W := by rw [hW]; exact ((Fr.refl _ w).alloc _).alloc _
    have O0 : Blk W w.heap.size #[.int .i64 (x : Int), .int .i64 (y : Int), .slice a m cap] 25 := by rw [hW]; exact (Blk.new _ _ _).alloc _
    have O1 : Blk W (w.heap.size + 1) #[.int .i64 0, .int .i64 0, .slice none 0 0] 25 := by
      rw [hW]
      have := Blk.new (w.alloc (.cells #[.int .i64 (x : Int), .int .i64 (y : Int), .slice a m cap] 25)) #[.int .i64 0, .int .i64 0, .slice none 0 0] 25
      simpa using this
    have hb0 : b < w.heap.size := h.lt hpos
    have HN := hid h
    have HW := hid hW
    clear hW h
    have c0 : W.cell? ⟨w.heap.size, 0, none⟩ = some (.int .i64 (x : Int)) := by rw [O0.cell]; rfl
    have c1 : W.cell? ⟨w.heap.size, 1, none⟩ = some (.int .i64 (y : Int)) := by rw [O0.cell]; rfl
    have c2 : W.cell? ⟨w.heap.size, 2, none⟩ = some (.slice a m cap) := by rw [O0.cell]; rfl
    rw [HW.out] at c0 c1 c2
    have HLev := hid (fun (w1 : World) (fq : Fr (fun _ => False) w w1) => rlevel_go fi hf x y a m cap V b w1 ex hx' ey hy' hm (HN.out.quiet fq))
    obtain ⟨V1, hV1⟩ : ∃ V1, V1 = flatG x (levelF fi x y (gridV x V)) := ⟨_, rfl⟩
    have HFin : Hid (∀ j, j < m → flatG x (layG u v (gridV x V1) (gridV u (flatG u (fwdW fi q u v (gridV u (sizedV x y V1 u)))))) j = flatG x (fwdW fi d x y (gridV x V)) j) := by
      intro j hj
      have e1 : EqG x y (gridV x V1) (levelF fi x y (gridV x V)) := fun r c _ hc => by rw [hV1]; exact gridV_flat hc
      have e2 : EqG u v (gridV u (sizedV x y V1 u)) (levelF fi x y (gridV x V)) := part_grid hux hvy (fun j _ => by rw [hV1])
      have e3 := fwdW_congr (f := fi) q fu fv e2
      refine flatG_congr (H := y) (fun r c hr hc => ?_) (by rw [hm]; exact hj)
      rw [hdq]
      show _ = layG (x / 2) (y / 2) (levelF fi x y (gridV x V)) (fwdW fi q (x / 2) (y / 2) (levelF fi x y (gridV x V))) r c
      rw [← hu, ← hv]
      by_cases hp : c < u ∧ r < v
      · rw [layG_in hp.1 hp.2, layG_in hp.1 hp.2, gridV_flat hp.1]
        exact e3 r c hp.2 hp.1
      · rw [layG_out hp, layG_out hp]
        exact e1 r c hr hc
    have HSub : Hid (∀ w1 g1, Nums w1 (some ⟨g1, 0, none⟩) m m V1 g1 → Calls Try.prog 31 #[.agg #[.int .i64 (x : Int), .int .i64 (y : Int), .slice (some ⟨g1, 0, none⟩) m m], .int .i64 (u : Int), .int .i64 (v : Int)] w1 fun e w' => ∃ g, e = .returned (.agg #[.int .i64 (u : Int), .int .i64 (v : Int), .slice (some ⟨g, 0, none⟩) r r]) ∧ Row w' g r (sizedV x y V1 u) ∧ w1.heap.size ≤ g ∧ Fr (fun _ => False) w1 w') := fun w1 g1 h1 => rsub_go x y u v _ m m V1 g1 r w1 hu1 (by omega) hv1 (by omega) hx hx' hy hy' hm hr h1
    have HIh : Hid (∀ w1 g9 k9, Nums w1 (some ⟨g9, 0, none⟩) r k9 (sizedV x y V1 u) g9 → Calls Try.prog 13 #[.int .i64 (fi : Int), .agg #[.int .i64 (u : Int), .int .i64 (v : Int), .slice (some ⟨g9, 0, none⟩) r k9], .int .i64 (q : Int)] w1 fun e w' => Gave w1 w' e u v r (flatG u (fwdW fi q u v (gridV u (sizedV x y V1 u))))) := fun w1 g9 k9 h1 => ih (by omega) u v _ r k9 _ g9 w1 hu1 (by omega) hv1 (by omega) hr fu fv h1
    have HLay : Hid (∀ w1 g1 a12 k12 b12, Nums w1 (some ⟨g1, 0, none⟩) m m V1 g1 → Nums w1 a12 r k12 (flatG u (fwdW fi q u v (gridV u (sizedV x y V1 u)))) b12 → Calls Try.prog 30 #[.agg #[.int .i64 (x : Int), .int .i64 (y : Int), .slice (some ⟨g1, 0, none⟩) m m], .agg #[.int .i64 (u : Int), .int .i64 (v : Int), .slice a12 r k12]] w1 fun e w' => ∃ g, e = .returned (.agg #[.int .i64 (x : Int), .int .i64 (y : Int), .slice (some ⟨g, 0, none⟩) m m]) ∧ Row w' g m (flatG x (layG u v (gridV x V1) (gridV u (flatG u (fwdW fi q u v (gridV u (sizedV x y V1 u))))))) ∧ w1.heap.size ≤ g ∧ Fr (fun _ => False) w1 w') := fun w1 g1 a12 k12 b12 h1 h2 => rlay_go x y u v _ m m V1 g1 a12 r k12 _ b12 w1 hx hx' hy hy' hu1 hux hv1 hvy hm hr h1 h2
    have hrr : r ≤ 1048576 := by rw [← hr]; exact mul_most (by omega) (by omega)
    clear ih hu hv hdq hr hm fx fy fu fv ex ey
    go_enter Try.func13, Try.ntmps13
    go_wp2_with fail
    rw [← HW.out]
    clear c0 c1 c2
    refine (rfits_any x y a m cap _ W).mono ?_
    rintro e w2 ⟨rfl, f2⟩
    rw [hfit]
    have P2 := O0.fr f2 (fun h => h)
    have Z2 := O1.fr f2 (fun h => h)
    have F2 := F0.trans' f2
    have N2 := HN.out.quiet F2
    have hz2 := Z2.lt
    clear O0 O1 F0 f2 HW
    have c0 : w2.cell? ⟨w.heap.size, 0, none⟩ = some (.int .i64 (x : Int)) := by rw [P2.cell]; rfl
    have c1 : w2.cell? ⟨w.heap.size, 1, none⟩ = some (.int .i64 (y : Int)) := by rw [P2.cell]; rfl
    have c2 : w2.cell? ⟨w.heap.size, 2, none⟩ = some (.slice a m cap) := by rw [P2.cell]; rfl
    have hz3 := Z2.lt
    clear N2
    go_wp2_with fail
    clear c0 c1 c2
    refine (HLev.out w2 F2).mono ?_
    rintro e w3 ⟨g1, rfl, r3, lg1, f3⟩
    have P3 := P2.fr f3 (fun h => h)
    have Z3 := Z2.fr f3 (fun h => h)
    have F3 := F2.trans' f3
    have d0 : w3.cell? ⟨w.heap.size, 0, none⟩ = some (.int .i64 (x : Int)) := by rw [P3.cell]; rfl
    have d1 : w3.cell? ⟨w.heap.size, 1, none⟩ = some (.int .i64 (y : Int)) := by rw [P3.cell]; rfl
    have d2 : w3.cell? ⟨w.heap.size, 2, none⟩ = some (.slice a m cap) := by rw [P3.cell]; rfl
    have df := P3.thaw
    obtain ⟨W4, hW4⟩ : ∃ W', W' = stored3 w3 w.heap.size (.int .i64 (x : Int)) (.int .i64 (y : Int)) (.slice (some ⟨g1, 0, none⟩) m m) := ⟨_, rfl⟩
    have P4 : Blk W4 w.heap.size #[.int .i64 (x : Int), .int .i64 (y : Int), .slice (some ⟨g1, 0, none⟩) m m] 25 := by rw [hW4]; exact P3.put3 _ _ _
    have Z4 : Blk W4 (w.heap.size + 1) #[.int .i64 0, .int .i64 0, .slice none 0 0] 25 := by rw [hW4]; exact Z3.fr (fr_put3 _ _ _ _ _) (by omega)
    have r4 : Row W4 g1 m (flatG x (levelF fi x y (gridV x V))) := by rw [hW4]; exact r3.fr (fr_put3 _ _ _ _ _) (by omega)
    have F4 : Fr (fun _ => False) w W4 := by rw [hW4]; exact F3.put3New (by omega) _ _ _
    have HP4 : Hid (W4 = ((w3.setCell ⟨w.heap.size, 0, none⟩ (.int .i64 (x : Int))).setCell ⟨w.heap.size, 1, none⟩ (.int .i64 (y : Int))).setCell ⟨w.heap.size, 2, none⟩ (.slice (some ⟨g1, 0, none⟩) m m)) := hW4
    clear hW4 P2 Z2 F2 f3 P3 Z3 F3 r3
    rw [← hV1] at r4
    have N4 := r4.nums (by unfold maxLen; omega)
    have hg1 : w.heap.size + 1 < g1 := by omega
    obtain ⟨b1, hb1⟩ : ∃ b1, b1 = g1 := ⟨_, rfl⟩
    have HC : Hid (∀ wq, Fr (fun _ => False) W4.drew wq → (wq.cell? ⟨w.heap.size, 0, none⟩ = some (.int .i64 (x : Int)) ∧ wq.cell? ⟨w.heap.size, 1, none⟩ = some (.int .i64 (y : Int)) ∧ wq.cell? ⟨w.heap.size, 2, none⟩ = some (.slice (some ⟨g1, 0, none⟩) m m)) ∧ Blk wq (w.heap.size + 1) #[.int .i64 0, .int .i64 0, .slice none 0 0] 25 ∧ Nums wq (some ⟨g1, 0, none⟩) m m V1 g1 ∧ Fr (fun _ => False) w wq ∧ w.heap.size + 2 ≤ wq.heap.size) := by
      intro wq fq
      have fq' := (Fr.refl (fun _ => False) W4).drew.trans' fq
      have B1 := P4.fr fq' (fun h => h)
      exact ⟨⟨by rw [B1.cell]; rfl, by rw [B1.cell]; rfl, by rw [B1.cell]; rfl⟩, Z4.fr fq' (fun h => h), N4.quiet fq', F4.trans' fq', by have := Z4.lt; have := fq'.size; omega⟩
    have HSub := hid (fun wq h => HSub.out wq g1 h)
    have HLay := hid (fun wq => HLay.out wq g1)
    clear P4 Z4 N4 F4 r4 HLev hV1 hb1 b1
    obtain ⟨⟨c0, c1, c2⟩, _, _, _, _⟩ := HC.out W4.drew (Fr.refl _ _)
    have c0 : W4.cell? ⟨w.heap.size, 0, none⟩ = _ := c0
    have c1 : W4.cell? ⟨w.heap.size, 1, none⟩ = _ := c1
    have c2 : W4.cell? ⟨w.heap.size, 2, none⟩ = _ := c2
    rw [HP4.out] at c0 c1 c2
    go_wp2
    rw [← HP4.out]
    clear c0 c1 c2 d0 d1 d2 df
    refine weaveS 14 [.eq (Value.agg #[.int .i64 (x : Int), .int .i64 (y : Int), .slice (some ⟨g1, 0, none⟩) m m]), .eq (Value.int .i64 (fi : Int)), .eq (Value.agg #[.int .i64 (x : Int), .int .i64 (y : Int), .slice (some ⟨g1, 0, none⟩) m m]), .eq (Value.pointer (some ⟨w.heap.size, 0, none⟩)), .eq (Value.int .i64 (x : Int)), .eq (Value.int .i64 (u : Int)), .eq (Value.pointer (some ⟨w.heap.size, 1, none⟩)), .eq (Value.int .i64 (y : Int)), .eq (Value.int .i64 (v : Int)), .newPlane (w.heap.size + 2) ((u : Int)) ((v : Int)) (r) (sizedV x y V1 u), .eq (Value.int .i64 (d : Int)), .eq (Value.int .i64 (q : Int)), .planeN ((u : Int)) ((v : Int)) (r) (flatG u (fwdW fi q u v (gridV u (sizedV x y V1 u)))), .newPlane (w.heap.size + 2) ((x : Int)) ((y : Int)) (m) (flatG x (layG u v (gridV x V1) (gridV u (flatG u (fwdW fi q u v (gridV u (sizedV x y V1 u)))))))] (by kernel_rfl) (by kernel_rfl) ?obls ?tail
    case obls =>
      simp only [List.take_succ_cons, List.take_zero]
      refine ⟨?_, ?_, ?_, ?_, ?_, ?_, ?_, ?_, ?_, ?_, ?_, ?_, ?_, ?_, trivial⟩
      · intro vals wq f h
        simp only [fillA, fillT, List.setIfInBounds_toArray, List.set_cons_succ, List.set_cons_zero, Option.getD_some, Nat.zero_add, Nat.reduceAdd]
        obtain ⟨⟨c0, c1, c2⟩, _, _, _, _⟩ := HC.out wq f
        clear h
        go_wp2
        exact ⟨rfl, rfl, _, rfl, Fr.refl _ _, rfl⟩
      · intro vals wq f h
        simp only [fillA, fillT, List.setIfInBounds_toArray, List.set_cons_succ, List.set_cons_zero, Option.getD_some, Nat.zero_add, Nat.reduceAdd]
        obtain ⟨⟨c0, c1, c2⟩, _, _, _, _⟩ := HC.out wq f
        clear h
        go_wp2
        exact ⟨rfl, rfl, _, rfl, Fr.refl _ _, rfl⟩
      · intro vals wq f h
        simp only [fillA, fillT, List.setIfInBounds_toArray, List.set_cons_succ, List.set_cons_zero, Option.getD_some, Nat.zero_add, Nat.reduceAdd]
        obtain ⟨⟨c0, c1, c2⟩, _, _, _, _⟩ := HC.out wq f
        clear h
        go_wp2
        exact ⟨rfl, rfl, _, rfl, Fr.refl _ _, rfl⟩
      · intro vals wq f h
        simp only [fillA, fillT, List.setIfInBounds_toArray, List.set_cons_succ, List.set_cons_zero, Option.getD_some, Nat.zero_add, Nat.reduceAdd]
        obtain ⟨⟨c0, c1, c2⟩, _, _, _, _⟩ := HC.out wq f
        clear h
        go_wp2
        exact ⟨rfl, rfl, _, rfl, Fr.refl _ _, rfl⟩
      · intro vals wq f h
        simp only [fillA, fillT, List.setIfInBounds_toArray, List.set_cons_succ, List.set_cons_zero, Option.getD_some, Nat.zero_add, Nat.reduceAdd]
        have h3 : vals 3 = Value.pointer (some ⟨w.heap.size, 0, none⟩) := h 3 (by kernel_rfl)
        rw [h3]
        obtain ⟨⟨c0, c1, c2⟩, _, _, _, _⟩ := HC.out wq f
        clear h
        go_wp2
        exact ⟨rfl, rfl, _, rfl, Fr.refl _ _, rfl⟩
      · intro vals wq f h
        simp only [fillA, fillT, List.setIfInBounds_toArray, List.set_cons_succ, List.set_cons_zero, Option.getD_some, Nat.zero_add, Nat.reduceAdd]
        have h4 : vals 4 = Value.int .i64 (x : Int) := h 4 (by kernel_rfl)
        rw [h4]
        obtain ⟨⟨c0, c1, c2⟩, _, _, _, _⟩ := HC.out wq f
        clear h
        go_wp2
        exact ⟨rfl, rfl, _, rfl, Fr.refl _ _, by first | rfl | (show Value.int .i64 _ = Value.int .i64 _; rw [hqx]) | (show Value.int .i64 _ = Value.int .i64 _; rw [hqx'])⟩
      · intro vals wq f h
        simp only [fillA, fillT, List.setIfInBounds_toArray, List.set_cons_succ, List.set_cons_zero, Option.getD_some, Nat.zero_add, Nat.reduceAdd]
        obtain ⟨⟨c0, c1, c2⟩, _, _, _, _⟩ := HC.out wq f
        clear h
        go_wp2
        exact ⟨rfl, rfl, _, rfl, Fr.refl _ _, rfl⟩
      · intro vals wq f h
        simp only [fillA, fillT, List.setIfInBounds_toArray, List.set_cons_succ, List.set_cons_zero, Option.getD_some, Nat.zero_add, Nat.reduceAdd]
        have h6 : vals 6 = Value.pointer (some ⟨w.heap.size, 1, none⟩) := h 6 (by kernel_rfl)
        rw [h6]
        obtain ⟨⟨c0, c1, c2⟩, _, _, _, _⟩ := HC.out wq f
        clear h
        go_wp2
        exact ⟨rfl, rfl, _, rfl, Fr.refl _ _, rfl⟩
      · intro vals wq f h
        simp only [fillA, fillT, List.setIfInBounds_toArray, List.set_cons_succ, List.set_cons_zero, Option.getD_some, Nat.zero_add, Nat.reduceAdd]
        have h7 : vals 7 = Value.int .i64 (y : Int) := h 7 (by kernel_rfl)
        rw [h7]
        obtain ⟨⟨c0, c1, c2⟩, _, _, _, _⟩ := HC.out wq f
        clear h
        go_wp2
        exact ⟨rfl, rfl, _, rfl, Fr.refl _ _, by first | rfl | (show Value.int .i64 _ = Value.int .i64 _; rw [hqy]) | (show Value.int .i64 _ = Value.int .i64 _; rw [hqy'])⟩
      · intro vals wq f h
        simp only [fillA, fillT, List.setIfInBounds_toArray, List.set_cons_succ, List.set_cons_zero, Option.getD_some, Nat.zero_add, Nat.reduceAdd]
        have h2 : vals 2 = Value.agg #[.int .i64 (x : Int), .int .i64 (y : Int), .slice (some ⟨g1, 0, none⟩) m m] := h 2 (by kernel_rfl)
        rw [h2]
        have h5 : vals 5 = Value.int .i64 (u : Int) := h 5 (by kernel_rfl)
        rw [h5]
        have h8 : vals 8 = Value.int .i64 (v : Int) := h 8 (by kernel_rfl)
        rw [h8]
        obtain ⟨⟨c0, c1, c2⟩, _, _, _, _⟩ := HC.out wq f
        clear h
        have HB0 := HC.out wq f
        have hsz := HB0.2.2.2.2
        clear c0 c1 c2
        go_wp2_with fail
        refine (HSub.out wq HB0.2.2.1).mono ?_
        rintro e w6 ⟨g, rfl, r6, lg, f6⟩
        have HR6 := hid r6
        clear r6
        go_wp2
        exact ⟨rfl, rfl, _, rfl, f6, g, _, rfl, HR6.out.rowC, Nat.le_refl _, by unfold maxLen; omega, by omega⟩
      · intro vals wq f h
        simp only [fillA, fillT, List.setIfInBounds_toArray, List.set_cons_succ, List.set_cons_zero, Option.getD_some, Nat.zero_add, Nat.reduceAdd]
        obtain ⟨⟨c0, c1, c2⟩, _, _, _, _⟩ := HC.out wq f
        clear h
        go_wp2
        exact ⟨rfl, rfl, _, rfl, Fr.refl _ _, rfl⟩
      · intro vals wq f h
        simp only [fillA, fillT, List.setIfInBounds_toArray, List.set_cons_succ, List.set_cons_zero, Option.getD_some, Nat.zero_add, Nat.reduceAdd]
        have h10 : vals 10 = Value.int .i64 (d : Int) := h 10 (by kernel_rfl)
        rw [h10]
        obtain ⟨⟨c0, c1, c2⟩, _, _, _, _⟩ := HC.out wq f
        clear h
        go_wp2
        exact ⟨rfl, rfl, _, rfl, Fr.refl _ _, rfl⟩
      · intro vals wq f h
        simp only [fillA, fillT, List.setIfInBounds_toArray, List.set_cons_succ, List.set_cons_zero, Option.getD_some, Nat.zero_add, Nat.reduceAdd]
        have h1 : vals 1 = Value.int .i64 (fi : Int) := h 1 (by kernel_rfl)
        rw [h1]
        obtain ⟨g9, k9, h9, r9, l9, j9, b9⟩ : NewPlane wq (vals 9) (w.heap.size + 2) ((u : Int)) ((v : Int)) (r) (sizedV x y V1 u) := h 9 (by kernel_rfl)
        rw [h9]
        have h11 : vals 11 = Value.int .i64 (q : Int) := h 11 (by kernel_rfl)
        rw [h11]
        obtain ⟨⟨c0, c1, c2⟩, _, _, _, _⟩ := HC.out wq f
        clear h
        have n9 := r9.nums l9 j9
        clear r9
        clear c0 c1 c2
        go_wp2_with fail
        refine (HIh.out wq g9 k9 n9).mono ?_
        rintro e w6 ⟨a6, cp, b6, rfl, n6, f6⟩
        have HN6 := hid n6
        clear n6
        go_wp2
        exact ⟨rfl, rfl, _, rfl, f6, _, _, _, rfl, HN6.out⟩
      · intro vals wq f h
        simp only [fillA, fillT, List.setIfInBounds_toArray, List.set_cons_succ, List.set_cons_zero, Option.getD_some, Nat.zero_add, Nat.reduceAdd]
        have h0 : vals 0 = Value.agg #[.int .i64 (x : Int), .int .i64 (y : Int), .slice (some ⟨g1, 0, none⟩) m m] := h 0 (by kernel_rfl)
        rw [h0]
        obtain ⟨a12, k12, b12, h12, n12⟩ : PlaneN wq (vals 12) ((u : Int)) ((v : Int)) (r) (flatG u (fwdW fi q u v (gridV u (sizedV x y V1 u)))) := h 12 (by kernel_rfl)
        rw [h12]
        obtain ⟨⟨c0, c1, c2⟩, _, _, _, _⟩ := HC.out wq f
        clear h
        have HB0 := HC.out wq f
        have hsz := HB0.2.2.2.2
        clear c0 c1 c2
        go_wp2_with fail
        refine (HLay.out wq a12 k12 b12 HB0.2.2.1 n12).mono ?_
        rintro e w6 ⟨g, rfl, r6, lg, f6⟩
        have HR6 := hid r6
        clear r6
        go_wp2
        exact ⟨rfl, rfl, _, rfl, f6, g, _, rfl, HR6.out.rowC, Nat.le_refl _, by unfold maxLen; omega, by omega⟩
    case tail =>
      intro vals wq f h
      simp only [List.take_succ_cons, List.take_zero, fillA, fillT, List.setIfInBounds_toArray, List.set_cons_succ, List.set_cons_zero, List.drop_succ_cons, List.drop_zero, Nat.zero_add, Nat.reduceAdd]
      obtain ⟨g13, k13, h13, r13, l13, j13, b13⟩ : NewPlane wq (vals 13) (w.heap.size + 2) ((x : Int)) ((y : Int)) (m) (flatG x (layG u v (gridV x V1) (gridV u (flatG u (fwdW fi q u v (gridV u (sizedV x y V1 u))))))) := h 13 (by omega)
      rw [h13]
      obtain ⟨_, BZ, _, FE, hsz⟩ := HC.out wq f
      have z0 : wq.cell? ⟨w.heap.size + 1, 0, none⟩ = some (.int .i64 0) := by rw [BZ.cell]; rfl
      have z1 : wq.cell? ⟨w.heap.size + 1, 1, none⟩ = some (.int .i64 0) := by rw [BZ.cell]; rfl
      have z2 : wq.cell? ⟨w.heap.size + 1, 2, none⟩ = some (.slice none 0 0) := by rw [BZ.cell]; rfl
      have zf := BZ.thaw
      have HR8 := hid (r13.congr (V' := _) fun j hj => HFin.out j hj)
      have HBZ := hid BZ
      have HFE := hid FE
      clear h h13 r13 BZ FE
      gi_wp2
      go_wp2
      refine bodyPost_ret (v := .agg #[.int .i64 (x : Int), .int .i64 (y : Int), .slice (some ⟨g13, 0, none⟩) m k13]) ?_ rfl ⟨_, _, g13, rfl, (HR8.out.fr (fr_put3 _ _ _ _ _) (by omega)).nums l13 j13, HFE.out.put3New (by omega) _ _ _⟩
      exact results_cell_row rfl _ _ (w.heap.size + 1) 25 _ (0, 0) _ rfl (show Blk _ _ _ _ from HBZ.out.put3 _ _ _) Try.underlying25 rfl Try.info_plane

set_option maxHeartbeats 1000000 in
theorem rforward_bad (z : Int) (X Y : Int) (a : Option Addr) (n cap : Nat) (d : Int) (w : World) (hb : waveOk z X Y n d = false) :
    Calls Try.prog 13 #[.int .i64 z, .agg #[.int .i64 X, .int .i64 Y, .slice a n cap], .int .i64 d] w fun e w' => e = .returned (.agg #[.int .i64 0, .int .i64 0, .slice none 0 0]) ∧ Fr (fun _ => False) w w' := by
  obtain ⟨W, hW⟩ : ∃ W, W = (w.alloc (.cells #[.int .i64 X, .int .i64 Y, .slice a n cap] 25)).alloc (.cells #[.int .i64 0, .int .i64 0, .slice none 0 0] 25) := ⟨_, rfl⟩
  have F0 : Fr (fun _ => False) w W := by rw [hW]; exact ((Fr.refl _ w).alloc _).alloc _
  have O0 : Blk W w.heap.size #[.int .i64 X, .int .i64 Y, .slice a n cap] 25 := by rw [hW]; exact (Blk.new _ _ _).alloc _
  have O1 : Blk W (w.heap.size + 1) #[.int .i64 0, .int .i64 0, .slice none 0 0] 25 := by
    rw [hW]
    have := Blk.new (w.alloc (.cells #[.int .i64 X, .int .i64 Y, .slice a n cap] 25)) #[.int .i64 0, .int .i64 0, .slice none 0 0] 25
    simpa using this
  have HW := hid hW
  clear hW
  by_cases h0 : z < 0
  · have g0 : decide (z < 0) = true := decide_eq_true h0
    have z0 : W.cell? ⟨w.heap.size + 1, 0, none⟩ = some (.int .i64 0) := by rw [O1.cell]; rfl
    have z1 : W.cell? ⟨w.heap.size + 1, 1, none⟩ = some (.int .i64 0) := by rw [O1.cell]; rfl
    have z2 : W.cell? ⟨w.heap.size + 1, 2, none⟩ = some (.slice none 0 0) := by rw [O1.cell]; rfl
    have zf := O1.thaw
    have HB2 := hid O1
    have HF3 := hid F0
    rw [HW.out] at z0 z1 z2 zf
    clear O0 O1 F0
    go_enter Try.func13, Try.ntmps13
    go_wp2
    rw [← HW.out]
    refine bodyPost_ret (v := .agg #[.int .i64 0, .int .i64 0, .slice none 0 0]) ?_ rfl ⟨rfl, HF3.out⟩
    exact results_cell_row rfl _ _ (w.heap.size + 1) 25 _ (0, 0) _ rfl (show Blk _ _ _ _ from HB2.out) Try.underlying25 rfl Try.info_plane
  have g0 : decide (z < 0) = false := decide_eq_false h0
  by_cases h4 : 4 < z
  · have g4 : decide (4 < z) = true := decide_eq_true h4
    have z0 : W.cell? ⟨w.heap.size + 1, 0, none⟩ = some (.int .i64 0) := by rw [O1.cell]; rfl
    have z1 : W.cell? ⟨w.heap.size + 1, 1, none⟩ = some (.int .i64 0) := by rw [O1.cell]; rfl
    have z2 : W.cell? ⟨w.heap.size + 1, 2, none⟩ = some (.slice none 0 0) := by rw [O1.cell]; rfl
    have zf := O1.thaw
    have HB2 := hid O1
    have HF3 := hid F0
    rw [HW.out] at z0 z1 z2 zf
    clear O0 O1 F0
    go_enter Try.func13, Try.ntmps13
    go_wp2
    rw [← HW.out]
    refine bodyPost_ret (v := .agg #[.int .i64 0, .int .i64 0, .slice none 0 0]) ?_ rfl ⟨rfl, HF3.out⟩
    exact results_cell_row rfl _ _ (w.heap.size + 1) 25 _ (0, 0) _ rfl (show Blk _ _ _ _ from HB2.out) Try.underlying25 rfl Try.info_plane
  have g4 : decide (4 < z) = false := decide_eq_false h4
  have hfit : fitsP X Y n d = false := by
    have hz : filtB z = true := filtB_iff.2 (by omega)
    rw [waveOk, hz, Bool.true_and] at hb
    exact hb
  have c0 : W.cell? ⟨w.heap.size, 0, none⟩ = some (.int .i64 X) := by rw [O0.cell]; rfl
  have c1 : W.cell? ⟨w.heap.size, 1, none⟩ = some (.int .i64 Y) := by rw [O0.cell]; rfl
  have c2 : W.cell? ⟨w.heap.size, 2, none⟩ = some (.slice a n cap) := by rw [O0.cell]; rfl
  rw [HW.out] at c0 c1 c2
  go_enter Try.func13, Try.ntmps13
  go_wp2_with fail
  rw [← HW.out]
  clear c0 c1 c2
  refine (rfits_any X Y a n cap d W).mono ?_
  rintro e w2 ⟨rfl, f2⟩
  rw [hfit]
  have Z2 := O1.fr f2 (fun h => h)
  have HB2 := hid Z2
  have HF3 := hid (F0.trans' f2)
  have z0 : w2.cell? ⟨w.heap.size + 1, 0, none⟩ = some (.int .i64 0) := by rw [Z2.cell]; rfl
  have z1 : w2.cell? ⟨w.heap.size + 1, 1, none⟩ = some (.int .i64 0) := by rw [Z2.cell]; rfl
  have z2 : w2.cell? ⟨w.heap.size + 1, 2, none⟩ = some (.slice none 0 0) := by rw [Z2.cell]; rfl
  have zf := Z2.thaw
  clear O0 O1 F0 f2 HW Z2
  go_wp2
  refine bodyPost_ret (v := .agg #[.int .i64 0, .int .i64 0, .slice none 0 0]) ?_ rfl ⟨rfl, HF3.out.put3New (by omega) _ _ _⟩
  exact results_cell_row rfl _ _ (w.heap.size + 1) 25 _ (0, 0) _ rfl (show Blk _ _ _ _ from HB2.out.put3 (.int .i64 0) (.int .i64 0) (.slice none 0 0)) Try.underlying25 rfl Try.info_plane

/-- In one form for all filters, planes and depths. -/
theorem rforward_any (z : Int) (X Y : Int) (a : Option Addr) (n cap : Nat) (V : Nat → Int) (b : Nat) (d : Int) (w : World) (h : Nums w a n cap V b) :
    Calls Try.prog 13 #[.int .i64 z, .agg #[.int .i64 X, .int .i64 Y, .slice a n cap], .int .i64 d] w fun e w' => Gave w w' e (okI (waveOk z X Y n d) X) (okI (waveOk z X Y n d) Y) (okN2 (waveOk z X Y n d) n) (flatG X.toNat (fwdW z.toNat d.toNat X.toNat Y.toNat (gridV X.toNat V))) := by
  cases hb : waveOk z X Y n d with
  | false =>
    refine (rforward_bad z X Y a n cap d w hb).mono ?_
    rintro e w' ⟨rfl, f⟩
    exact Gave.zero f _
  | true =>
    obtain ⟨hz, hp⟩ : filtB z = true ∧ fitsP X Y n d = true := by simpa [waveOk] using hb
    obtain ⟨f, rfl⟩ := Int.eq_ofNat_of_zero_le (filtB_iff.1 hz).1
    obtain ⟨x, y, k, rfl, rfl, rfl, hx, hx', hy, hy', hm, hk, fx, fy⟩ := fitsP_nat hp
    exact rforward_go f (by have := (filtB_iff.1 hz).2; omega) k hk x y a n cap V b w hx hx' hy hy' hm fx fy h
end Go.Proofs.Ytonalomagfekaaa
