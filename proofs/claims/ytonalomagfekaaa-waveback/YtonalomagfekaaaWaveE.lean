/-
  Package wave: a level of a part of a plane, there and back: halved, there, back.
-/
import Derived.Test.YtonalomagfekaaaWaveD
namespace Go.Proofs.Ytonalomagfekaaa
open Go.RowKit

theorem wrap64_i64 (z : Int) : I64 (wrap64 z) := by unfold wrap64 I64; omega
theorem half_i64 (z : Int) : I64 (wrap64 (z + 1) / 2) := by unfold wrap64 I64; omega
theorem dblG_i64 {f w h : Nat} {G : Grid} (hI : AllG w h I64 G) : AllG w h I64 (dblG f G) := fun y x hy hx => by
  unfold dblG; split
  · exact hI y x hy hx
  · exact wrap64_i64 _
theorem halfG_i64 {f w h : Nat} {G : Grid} (hI : AllG w h I64 G) : AllG w h I64 (halfG f G) := fun y x hy hx => by
  unfold halfG; split
  · exact hI y x hy hx
  · exact half_i64 _
theorem rowsF_i64 {f w h : Nat} {G : Grid} (hw : Even2 w) (hI : AllG w h I64 G) : AllG w h I64 (rowsF f w G) := fun y _ hy hx => fwdL_i64 hw.2 (fun j hj => hI y j hy hj) hx
theorem colsF_i64 {f w h : Nat} {G : Grid} (hh : Even2 h) (hI : AllG w h I64 G) : AllG w h I64 (colsF f h G) := fun _ x hy hx => fwdL_i64 (V := fun i => G i x) hh.2 (fun j hj => hI j x hj hx) hy
theorem rowsB_i64 {f w h : Nat} {G : Grid} (hw : Even2 w) (hI : AllG w h I64 G) : AllG w h I64 (rowsB f w G) := fun y _ hy hx => bwdL_i64 hw.2 (fun j hj => hI y j hy hj) hx
theorem colsB_i64 {f w h : Nat} {G : Grid} (hh : Even2 h) (hI : AllG w h I64 G) : AllG w h I64 (colsB f h G) := fun _ x hy hx => bwdL_i64 (V := fun i => G i x) hh.2 (fun j hj => hI j x hj hx) hy
theorem levelF_i64 {f w h : Nat} {G : Grid} (hw : Even2 w) (hh : Even2 h) (hI : AllG w h I64 G) : AllG w h I64 (levelF f w h G) := colsF_i64 hh (rowsF_i64 hw (dblG_i64 hI))
theorem levelB_i64 {f w h : Nat} {G : Grid} (hw : Even2 w) (hh : Even2 h) (hI : AllG w h I64 G) : AllG w h I64 (levelB f w h G) := halfG_i64 (rowsB_i64 hw (colsB_i64 hh hI))
theorem AllG.congr {w h : Nat} {P : Int → Prop} {A B : Grid} (hA : AllG w h P A) (e : EqG w h B A) : AllG w h P B := fun y x hy hx => by rw [e y x hy hx]; exact hA y x hy hx
theorem AllG.lay {W H w h : Nat} {P : Int → Prop} {A B : Grid} (hA : AllG W H P A) (hB : AllG w h P B) : AllG W H P (layG w h A B) := fun y x hy hx => by
  by_cases hq : x < w ∧ y < h
  · rw [layG_in hq.1 hq.2]; exact hB y x hq.2 hq.1
  · rw [layG_out hq]; exact hA y x hy hx
theorem layG_eq {w h : Nat} {A B : Grid} : EqG w h (layG w h A B) B := fun _ _ hy hx => layG_in hx hy

/-- What a level there leaves, its three ways one behind the other. -/
theorem level_there {f w h : Nat} {G G1 : Grid} (hw : Even2 w) (hh : Even2 h) (e1 : EqG w h G1 (dblG f G)) (o1 : ∀ y x, ¬ (x < w ∧ y < h) → G1 y x = G y x) (y x : Nat) :
    layG w h (layG w h G1 (fun y x => fwdL f w (G1 y) x)) (fun y x => fwdL f h (fun i => layG w h G1 (fun y x => fwdL f w (G1 y) x) i x) y) y x = layG w h G (levelF f w h G) y x := by
  by_cases hq : x < w ∧ y < h
  · rw [layG_in hq.1 hq.2, layG_in hq.1 hq.2]
    exact colsF_congr hh ((layG_eq (A := G1)).trans (rowsF_congr hw e1)) y x hq.2 hq.1
  · rw [layG_out hq, layG_out hq, layG_out hq, o1 y x hq]
/-- What a level back leaves. -/
theorem level_back {f w h : Nat} {G G2 : Grid} (hw : Even2 w) (e2 : G2 = layG w h (layG w h G (fun y x => bwdL f h (fun i => G i x) y)) (fun y x => bwdL f w (layG w h G (fun y x => bwdL f h (fun i => G i x) y) y) x)) (y x : Nat) :
    layG w h G2 (halfG f G2) y x = layG w h G (levelB f w h G) y x := by
  by_cases hq : x < w ∧ y < h
  · rw [layG_in hq.1 hq.2, layG_in hq.1 hq.2, e2]
    exact halfG_congr (layG_eq.trans (rowsB_congr hw layG_eq)) y x hq.2 hq.1
  · rw [layG_out hq, layG_out hq, e2, layG_out hq, layG_out hq]
theorem Even2.line {n : Nat} (h : Even2 n) : lineB n = true := lineB_iff.2 ⟨by have := h.1; omega, h.2⟩

set_option maxHeartbeats 1000000 in
theorem wthere_any (f : Nat) (hf : f ≤ 4) (g n W H w h : Nat) (G : Grid) (hW : W * H = n) (ew : Even2 w) (eh : Even2 h) (hw : w ≤ W) (hh : h ≤ H) (hW' : W ≤ 1024) (hH' : H ≤ 1024) (hn : n ≤ 1048576) (wd : World) (hr : Row wd g n (flatG W G)) (hI : AllG w h I64 G) :
    Calls Try.prog 28 #[.int .i64 (f : Int), .agg #[.slice (some ⟨g, 0, none⟩) n n, .int .i64 (W : Int), .int .i64 (w : Int), .int .i64 (h : Int)]] wd fun e w' => e = .returned (.tuple #[]) ∧ Row w' g n (flatG W (layG w h G (levelF f w h G))) ∧ Fr (fun k => k = g) wd w' := by
  have hgl := hr.lt
  have hw1 : 1 ≤ w := by have := ew.1; omega
  have hh1 : 1 ≤ h := by have := eh.1; omega
  obtain ⟨W0, hW0⟩ : ∃ W0, W0 = (wd.alloc (.cells #[.int .i64 (f : Int)] 22)).alloc (.cells #[.slice (some ⟨g, 0, none⟩) n n, .int .i64 (W : Int), .int .i64 (w : Int), .int .i64 (h : Int)] 48) := ⟨_, rfl⟩
  have B0 : Blk W0 wd.heap.size #[.int .i64 (f : Int)] 22 := by rw [hW0]; exact (Blk.new _ _ _).alloc _
  have B1 : Blk W0 (wd.heap.size + 1) #[.slice (some ⟨g, 0, none⟩) n n, .int .i64 (W : Int), .int .i64 (w : Int), .int .i64 (h : Int)] 48 := by
    rw [hW0]
    have := Blk.new (wd.alloc (.cells #[.int .i64 (f : Int)] 22)) #[.slice (some ⟨g, 0, none⟩) n n, .int .i64 (W : Int), .int .i64 (w : Int), .int .i64 (h : Int)] 48
    simpa using this
  have R0 : Row W0 g n (flatG W G) := by rw [hW0]; exact hr.quiet (((Fr.refl _ wd).alloc _).alloc _)
  have F0 : Fr (fun k => k = g) wd W0 := by rw [hW0]; exact ((Fr.refl _ wd).alloc _).alloc _
  have HB : Hid (∀ wr, Fr (fun k => k = g) W0 wr → wr.cell? ⟨wd.heap.size, 0, none⟩ = some (.int .i64 (f : Int)) ∧ wr.cell? ⟨wd.heap.size + 1, 0, none⟩ = some (.slice (some ⟨g, 0, none⟩) n n) ∧ wr.cell? ⟨wd.heap.size + 1, 1, none⟩ = some (.int .i64 (W : Int)) ∧ wr.cell? ⟨wd.heap.size + 1, 2, none⟩ = some (.int .i64 (w : Int)) ∧ wr.cell? ⟨wd.heap.size + 1, 3, none⟩ = some (.int .i64 (h : Int))) := by
    intro wr f
    have C0 := B0.fr f (by omega)
    have C1 := B1.fr f (by omega)
    exact ⟨by rw [C0.cell]; rfl, by rw [C1.cell]; rfl, by rw [C1.cell]; rfl, by rw [C1.cell]; rfl, by rw [C1.cell]; rfl⟩
  have HW0 := hid hW0
  have HF0 := hid F0
  have HI := hid hI
  have HWH := hid hW
  have HR0 := hid R0
  obtain ⟨d0, d1, d2, d3, d4⟩ := HB.out W0 (Fr.refl _ _)
  rw [HW0.out] at d0 d1 d2 d3 d4
  clear hW0 B0 B1 F0 hr hI R0 hW
  by_cases h3 : f = 3
  · have hsh : shiftL (f : Int) = 0 := by rw [h3]; rfl
    obtain ⟨G1, hG1⟩ : ∃ G1, G1 = G := ⟨_, rfl⟩
    have R1 : Row W0 g n (flatG W G1) := by rw [hG1]; exact HR0.out
    have e1 : EqG w h G1 (dblG f G) := by rw [hG1]; exact fun y x _ _ => by unfold dblG; rw [if_pos h3]
    have o1 : ∀ y x, ¬ (x < w ∧ y < h) → G1 y x = G y x := fun _ _ _ => by rw [hG1]
    have F1 := Fr.refl (fun k => k = g) W0
    have A1 := hid ((dblG_i64 (f := f) HI.out).congr e1)
    have HO := hid (level_there ew eh e1 o1)
    clear hG1 h3 e1 o1
    go_enter Try.func28, Try.ntmps28
    go_wp2_with fail
    rw [← HW0.out]
    clear d0 d1 d2 d3 d4
    refine (lshift_any (f : Int) W0).mono ?_
    rintro e w1 ⟨rfl, hw1e⟩
    obtain rfl : w1 = W0 := hw1e
    rw [hsh]
    obtain ⟨d0, d1, d2, d3, d4⟩ := HB.out _ F1
    go_wp2_with fail
    clear d0 d1 d2 d3 d4 hsh
    refine (wrows_any 41 wd.heap.size (fwdL f w) g n W H w h G1 HWH.out hw1 hw hh hW' hH' hn w1 R1 A1.out fn_there1 (fun a cap U b w' fr hN hU => wthere1_any f wd.heap.size hf a w cap U b w' (HB.out w' (F1.trans' fr)).1 hN ew.line (by omega) hU)).mono ?_
    rintro e w2 ⟨rfl, R2, f2⟩
    have F2 := F1.trans' f2
    have A2 : AllG w h I64 (layG w h G1 fun y x => fwdL f w (G1 y) x) := A1.out.lay (rowsF_i64 ew A1.out)
    obtain ⟨d0, d1, d2, d3, d4⟩ := HB.out w2 F2
    go_wp2_with fail
    clear d0 d1 d2 d3 d4
    refine (wcolumns_any 41 wd.heap.size (fwdL f h) g n W H w h _ HWH.out hh1 hw hh hW' hH' hn w2 R2 A2 fn_there1 (fun a cap U b w' fr hN hU => wthere1_any f wd.heap.size hf a h cap U b w' (HB.out w' (F2.trans' fr)).1 hN eh.line (by omega) hU)).mono ?_
    rintro e w3 ⟨rfl, R3, f3⟩
    have F3 := F2.trans' f3
    have HR3 := hid (R3.congr (V' := flatG W (layG w h G (levelF f w h G))) fun j _ => HO.out _ _)
    clear R1 R2 R3 A1 A2 F1 F2 f2 f3
    go_wp2
    go_end0
    exact ⟨rfl, HR3.out, HF0.out.trans' F3⟩
  · have hsh : shiftL (f : Int) = 1 := by unfold shiftL; rw [if_pos (by omega)]
    go_enter Try.func28, Try.ntmps28
    go_wp2_with fail
    rw [← HW0.out]
    clear d0 d1 d2 d3 d4
    refine (lshift_any (f : Int) W0).mono ?_
    rintro e w1 ⟨rfl, hw1e⟩
    obtain rfl : w1 = W0 := hw1e
    rw [hsh]
    obtain ⟨d0, d1, d2, d3, d4⟩ := HB.out _ (Fr.refl _ _)
    have HH3 := hid h3
    clear h3
    go_wp2_with fail
    clear d0 d1 d2 d3 d4 hsh
    refine (wnumbers_any 46 (fun z => wrap64 (2 * z)) g n W H w h G HWH.out hw1 hw hh hW' hH' hn w1 HR0.out fn_there2 (fun z w' => wthere2_any z w')).mono ?_
    rintro e w0 ⟨rfl, R1, F1⟩
    obtain ⟨G1, hG1⟩ : ∃ G1, G1 = layG w h G fun y x => wrap64 (2 * G y x) := ⟨_, rfl⟩
    rw [← hG1] at R1
    have e1 : EqG w h G1 (dblG f G) := fun y x hy hx => by rw [hG1, layG_in hx hy]; unfold dblG; rw [if_neg HH3.out]
    have o1 : ∀ y x, ¬ (x < w ∧ y < h) → G1 y x = G y x := fun y x hq => by rw [hG1, layG_out hq]
    have A1 := hid ((dblG_i64 (f := f) HI.out).congr e1)
    have HO := hid (level_there ew eh e1 o1)
    clear hG1 e1 o1
    obtain ⟨d0, d1, d2, d3, d4⟩ := HB.out _ F1
    go_wp2_with fail
    clear d0 d1 d2 d3 d4
    refine (wrows_any 41 wd.heap.size (fwdL f w) g n W H w h G1 HWH.out hw1 hw hh hW' hH' hn w0 R1 A1.out fn_there1 (fun a cap U b w' fr hN hU => wthere1_any f wd.heap.size hf a w cap U b w' (HB.out w' (F1.trans' fr)).1 hN ew.line (by omega) hU)).mono ?_
    rintro e w2 ⟨rfl, R2, f2⟩
    have F2 := F1.trans' f2
    have A2 : AllG w h I64 (layG w h G1 fun y x => fwdL f w (G1 y) x) := A1.out.lay (rowsF_i64 ew A1.out)
    obtain ⟨d0, d1, d2, d3, d4⟩ := HB.out w2 F2
    go_wp2_with fail
    clear d0 d1 d2 d3 d4
    refine (wcolumns_any 41 wd.heap.size (fwdL f h) g n W H w h _ HWH.out hh1 hw hh hW' hH' hn w2 R2 A2 fn_there1 (fun a cap U b w' fr hN hU => wthere1_any f wd.heap.size hf a h cap U b w' (HB.out w' (F2.trans' fr)).1 hN eh.line (by omega) hU)).mono ?_
    rintro e w3 ⟨rfl, R3, f3⟩
    have F3 := F2.trans' f3
    have HR3 := hid (R3.congr (V' := flatG W (layG w h G (levelF f w h G))) fun j _ => HO.out _ _)
    clear R1 R2 R3 A1 A2 F1 F2 f2 f3
    go_wp2
    go_end0
    exact ⟨rfl, HR3.out, HF0.out.trans' F3⟩

set_option maxHeartbeats 1000000 in
theorem wback_any (f : Nat) (hf : f ≤ 4) (g n W H w h : Nat) (G : Grid) (hW : W * H = n) (ew : Even2 w) (eh : Even2 h) (hw : w ≤ W) (hh : h ≤ H) (hW' : W ≤ 1024) (hH' : H ≤ 1024) (hn : n ≤ 1048576) (wd : World) (hr : Row wd g n (flatG W G)) (hI : AllG w h I64 G) :
    Calls Try.prog 32 #[.int .i64 (f : Int), .agg #[.slice (some ⟨g, 0, none⟩) n n, .int .i64 (W : Int), .int .i64 (w : Int), .int .i64 (h : Int)]] wd fun e w' => e = .returned (.tuple #[]) ∧ Row w' g n (flatG W (layG w h G (levelB f w h G))) ∧ Fr (fun k => k = g) wd w' := by
  have hgl := hr.lt
  have hw1 : 1 ≤ w := by have := ew.1; omega
  have hh1 : 1 ≤ h := by have := eh.1; omega
  obtain ⟨W0, hW0⟩ : ∃ W0, W0 = (wd.alloc (.cells #[.int .i64 (f : Int)] 22)).alloc (.cells #[.slice (some ⟨g, 0, none⟩) n n, .int .i64 (W : Int), .int .i64 (w : Int), .int .i64 (h : Int)] 48) := ⟨_, rfl⟩
  have B0 : Blk W0 wd.heap.size #[.int .i64 (f : Int)] 22 := by rw [hW0]; exact (Blk.new _ _ _).alloc _
  have B1 : Blk W0 (wd.heap.size + 1) #[.slice (some ⟨g, 0, none⟩) n n, .int .i64 (W : Int), .int .i64 (w : Int), .int .i64 (h : Int)] 48 := by
    rw [hW0]
    have := Blk.new (wd.alloc (.cells #[.int .i64 (f : Int)] 22)) #[.slice (some ⟨g, 0, none⟩) n n, .int .i64 (W : Int), .int .i64 (w : Int), .int .i64 (h : Int)] 48
    simpa using this
  have R0 : Row W0 g n (flatG W G) := by rw [hW0]; exact hr.quiet (((Fr.refl _ wd).alloc _).alloc _)
  have F0 : Fr (fun k => k = g) wd W0 := by rw [hW0]; exact ((Fr.refl _ wd).alloc _).alloc _
  have HB : Hid (∀ wr, Fr (fun k => k = g) W0 wr → wr.cell? ⟨wd.heap.size, 0, none⟩ = some (.int .i64 (f : Int)) ∧ wr.cell? ⟨wd.heap.size + 1, 0, none⟩ = some (.slice (some ⟨g, 0, none⟩) n n) ∧ wr.cell? ⟨wd.heap.size + 1, 1, none⟩ = some (.int .i64 (W : Int)) ∧ wr.cell? ⟨wd.heap.size + 1, 2, none⟩ = some (.int .i64 (w : Int)) ∧ wr.cell? ⟨wd.heap.size + 1, 3, none⟩ = some (.int .i64 (h : Int))) := by
    intro wr f
    have C0 := B0.fr f (by omega)
    have C1 := B1.fr f (by omega)
    exact ⟨by rw [C0.cell]; rfl, by rw [C1.cell]; rfl, by rw [C1.cell]; rfl, by rw [C1.cell]; rfl, by rw [C1.cell]; rfl⟩
  have HW0 := hid hW0
  have HF0 := hid F0
  have HI := hid hI
  have HWH := hid hW
  have HR0 := hid R0
  obtain ⟨d0, d1, d2, d3, d4⟩ := HB.out W0 (Fr.refl _ _)
  rw [HW0.out] at d0 d1 d2 d3 d4
  clear hW0 B0 B1 F0 hr hI R0 hW
  go_enter Try.func32, Try.ntmps32
  go_wp2_with fail
  rw [← HW0.out]
  clear d0 d1 d2 d3 d4
  refine (wcolumns_any 49 wd.heap.size (bwdL f h) g n W H w h G HWH.out hh1 hw hh hW' hH' hn W0 HR0.out HI.out fn_back1 (fun a cap U b w' fr hN hU => wback1_any f wd.heap.size hf a h cap U b w' (HB.out w' fr).1 hN eh.line (by omega) hU)).mono ?_
  rintro e w1 ⟨rfl, R1, F1⟩
  have A1 : AllG w h I64 (layG w h G fun y x => bwdL f h (fun i => G i x) y) := HI.out.lay (colsB_i64 eh HI.out)
  obtain ⟨d0, d1, d2, d3, d4⟩ := HB.out w1 F1
  go_wp2_with fail
  clear d0 d1 d2 d3 d4
  refine (wrows_any 49 wd.heap.size (bwdL f w) g n W H w h _ HWH.out hw1 hw hh hW' hH' hn w1 R1 A1 fn_back1 (fun a cap U b w' fr hN hU => wback1_any f wd.heap.size hf a w cap U b w' (HB.out w' (F1.trans' fr)).1 hN ew.line (by omega) hU)).mono ?_
  rintro e w2 ⟨rfl, R2, f2⟩
  have F2 := F1.trans' f2
  obtain ⟨G2, hG2⟩ : ∃ G2, G2 = layG w h (layG w h G (fun y x => bwdL f h (fun i => G i x) y)) (fun y x => bwdL f w (layG w h G (fun y x => bwdL f h (fun i => G i x) y) y) x) := ⟨_, rfl⟩
  rw [← hG2] at R2
  have HO := hid (level_back ew hG2)
  have HR2 := hid R2
  clear hG2 R1 R2 A1 F1 f2
  obtain ⟨d0, d1, d2, d3, d4⟩ := HB.out w2 F2
  go_wp2_with fail
  refine (lshift_any (f : Int) w2).mono ?_
  rintro e w3 ⟨rfl, hw3e⟩
  obtain rfl : w3 = w2 := hw3e
  by_cases h3 : f = 3
  · have hsh : shiftL (f : Int) = 0 := by rw [h3]; rfl
    have HR3 := hid (HR2.out.congr (V' := flatG W (layG w h G (levelB f w h G))) fun j _ => by
      unfold flatG
      rw [← HO.out]
      by_cases hq : j % W < w ∧ j / W < h
      · rw [layG_in hq.1 hq.2]; unfold halfG; rw [if_pos h3]
      · rw [layG_out hq])
    rw [hsh]
    clear h3 hsh HR2 d0 d1 d2 d3 d4
    go_wp2
    go_end0
    exact ⟨rfl, HR3.out, HF0.out.trans' F2⟩
  · have hsh : shiftL (f : Int) = 1 := by unfold shiftL; rw [if_pos (by omega)]
    have HH3 := hid h3
    clear h3
    rw [hsh]
    go_wp2_with fail
    clear d0 d1 d2 d3 d4 hsh
    refine (wnumbers_any 52 (fun z => wrap64 (z + 1) / 2) g n W H w h G2 HWH.out hw1 hw hh hW' hH' hn w3 HR2.out fn_back2 (fun z w' => wback2_any z w')).mono ?_
    rintro e w4 ⟨rfl, R4, f4⟩
    have F4 := F2.trans' f4
    have HR4 := hid (R4.congr (V' := flatG W (layG w h G (levelB f w h G))) fun j _ => by
      unfold flatG
      rw [← HO.out]
      by_cases hq : j % W < w ∧ j / W < h
      · rw [layG_in hq.1 hq.2, layG_in hq.1 hq.2]; unfold halfG; rw [if_neg HH3.out]
      · rw [layG_out hq, layG_out hq])
    clear R4 f4 F2 HR2
    go_wp2
    go_end0
    exact ⟨rfl, HR4.out, HF0.out.trans' F4⟩

theorem Try.info_part : (Try.prog.info? 48).map (·.size) = some 4 := by kernel_rfl
/-- A part of a plane: its sides halved so often. -/
theorem whalved_any (g n W H k w h : Nat) (hk : k ≤ 6) (hw : W / 2 ^ k = w) (hh : H / 2 ^ k = h) (wd : World) :
    Calls Try.prog 29 #[.agg #[.int .i64 (W : Int), .int .i64 (H : Int), .slice (some ⟨g, 0, none⟩) n n], .int .i64 (k : Int)] wd fun e w' => e = .returned (.agg #[.slice (some ⟨g, 0, none⟩) n n, .int .i64 (W : Int), .int .i64 (w : Int), .int .i64 (h : Int)]) ∧ Fr (fun _ => False) wd w' := by
  have hw' : (W : Int) / 2 ^ k = (w : Int) := by rw [← hw]; simp
  have hh' : (H : Int) / 2 ^ k = (h : Int) := by rw [← hh]; simp
  have hk' : (k : Int) ≤ 64 := by omega
  clear hw hh
  go_enter Try.func29, Try.ntmps29
  go_wp2
  go_region
  go_wp2
  refine bodyPost_ret (v := .agg #[.slice (some ⟨g, 0, none⟩) n n, .int .i64 (W : Int), .int .i64 (w : Int), .int .i64 (h : Int)]) ?_ rfl ⟨rfl, (((Fr.refl _ wd).alloc _).alloc _).drew⟩
  exact results_cell_row rfl _ _ (wd.heap.size + 1) 48 _ (0, 0) _ rfl (show Blk _ _ _ _ from Blk.drew (by simpa using Blk.new (wd.alloc (.cells #[.int .i64 (W : Int), .int .i64 (H : Int), .slice (some ⟨g, 0, none⟩) n n] 25)) #[.slice (some ⟨g, 0, none⟩) n n, .int .i64 (W : Int), .int .i64 (w : Int), .int .i64 (h : Int)] 48)) Try.underlying48 rfl Try.info_part
end Go.Proofs.Ytonalomagfekaaa
