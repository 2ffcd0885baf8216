/-
  Package split: List.
-/
import Derived.RangeFuncBox
import Derived.Maps.AppendAt
import Derived.Test.YtfnacnelmkemeaaSplitR
namespace Go.Proofs.Ytfnacnelmkemeaa
open Go.RowKit Go.Shelf

attribute [local go_sem] Oper.semAt_some

set_option maxRecDepth 100000 in
set_option maxHeartbeats 2000000 in
theorem slist_any (X Y M N : Int) (w : World) :
    Calls Try.prog 7 #[.int .i64 X, .int .i64 Y, .int .i64 M, .int .i64 N] w fun e w' => PartsMade w w' e (partsN X Y M N) (partsL X Y M N) := by
  obtain ⟨c, d, x, y, hx', hy', hd', hc', hm, hX, hN, hM, hL⟩ : ∃ c d x y : Nat, x ≤ 1024 ∧ y ≤ 1024 ∧ d ≤ 64 ∧ c ≤ 64 ∧ c * d = partsN X Y M N ∧ (0 < c → X = (x : Int) ∧ Y = (y : Int)) ∧ (if splitOk X Y M N then N else 0) = (c : Int) ∧ (if splitOk X Y M N then M else 0) = (d : Int) ∧ (0 < partsN X Y M N → partsL X Y M N = partK x y d c) := by
    cases h : splitOk X Y M N with
    | false => exact ⟨0, 0, 0, 0, by omega, by omega, by omega, by omega, by rw [partsN_no h], fun h => absurd h (by omega), rfl, rfl, fun h2 => by rw [partsN_no h] at h2; exact absurd h2 (by omega)⟩
    | true =>
      obtain ⟨x, y, i, j, rfl, rfl, rfl, rfl, _, h2, _, h4, _, h6, _, h8⟩ := splitOk_nat h
      exact ⟨j, i, x, y, h2, h4, h6, h8, by rw [partsN_nat h], fun _ => ⟨rfl, rfl⟩, rfl, rfl, fun _ => rfl⟩
  obtain ⟨m, hmm⟩ : ∃ m, partsN X Y M N = m := ⟨_, rfl⟩
  have hmb : m ≤ 4096 := by rw [← hmm]; exact partsN_most X Y M N
  rw [hmm] at hm hL ⊢
  have HL := hid hL
  have HX := hid hX
  have HN := hid (And.intro hN hM)
  have HM := hid hm
  clear hL hX hN hM hm hmm
  obtain ⟨W, hW⟩ : ∃ W, W = w.alloc (.cells #[.slice none 0 0] 24) := ⟨_, rfl⟩
  have F0 : Fr (fun _ => False) w W := by rw [hW]; exact (Fr.refl _ w).alloc _
  have hsz : W.heap.size = w.heap.size + 1 := by rw [hW]; simp
  have O0 : Blk W w.heap.size #[.slice none 0 0] 24 := by rw [hW]; exact Blk.new _ _ _
  have HW := hid hW
  clear hW
  refine (callsIn_wide (n := 5)).1 ?_
  refine callsIn_of_wp_marks Try.func7 rfl trivial ?_ rfl
  simp only [Try.ntmps7, List.size_toArray, List.length_cons, List.length_nil, Nat.reduceAdd, Nat.reduceSub, Array.replicate_succ, Array.replicate_zero, List.push_toArray, List.append_toArray, List.nil_append, List.cons_append]
  gi_wp2_with fail
  refine ⟨trivial, ?_⟩
  rw [← HW.out]
  refine (callsIn_wide.2 (sall_any X Y M N W)).mono ?_
  rintro e w4 ⟨bn, bm, bw, bh, rfl, hB, g0, g1, g2, g3, f4⟩
  rw [HN.out.1, HN.out.2] at hB
  have HSeq := sall_stops 4 (by omega) bn bm bw bh c d x y m X Y hx' hy' hd' hc' HM.out HX.out w4 hB
  have l0 := hB.b0.lt
  have l1 := hB.b1.lt
  have l2 := hB.b2.lt
  have l3 := hB.b3.lt
  have F4 := F0.trans' f4
  have P0 := O0.fr f4 (fun h => h)
  have hbl := P0.lt
  have hne : w.heap.size < bn ∧ w.heap.size < bm ∧ w.heap.size < bw ∧ w.heap.size < bh := by omega
  clear HW F0 O0 f4 hB HX HN
  obtain ⟨i0, hi, hz0, hz1, hz2⟩ := info_parts Try.info_rect
  gi_wp2_with fail
  refine wpIn_rangeFunc_ownH rfl (by omega) (gf := 21) (lb := #[.pointer (some ⟨bn, 0, none⟩), .pointer (some ⟨bm, 0, none⟩), .pointer (some ⟨bw, 0, none⟩), .pointer (some ⟨bh, 0, none⟩)]) rfl trivial (enters_of Try.func21 (by kernel_rfl) rfl)
    HSeq Keep4.trans (Keep4.put l0 l1 l2 l3) (Below.refl _ _) (fun _ => rfl)
    (fun pre W => (∃ v, Blk W w.heap.size #[v] 24 ∧ W.ownsRow w4.heap.size 28 4 v pre.length (spotC (fun i => rectC (partK x y d c i)) pre)) ∧ Fr (fun j => j = w.heap.size) w4 W)
    (fun _ _ _ => False)
    (fun s A B row hs hgr hr => ⟨by
      obtain ⟨v, hv, ho⟩ := hs.1
      exact ⟨v, hv.fr (fr_of_grown hgr hr) (by omega), owns_grown ho hgr (fun r e => (hr r e).2)⟩, fr_owned hs.2 (Nat.le_refl _) hgr hr⟩)
    (fun _ _ _ _ _ hs _ _ => hs)
    ⟨⟨_, P0, World.ownsRow_nil _ _ _ _⟩, Fr.refl _ _⟩
    (fun p a' W => ∃ b9, a' = { tmps := #[.int .i64 X, .int .i64 Y, .int .i64 M, .int .i64 N, undef, undef, undef, undef, .slice none 0 0, .pointer (some ⟨w.heap.size, 0, none⟩), undef, .pointer (some ⟨b9, 0, none⟩), .int .i64 X, .int .i64 Y, .int .i64 M, .int .i64 N, .func (.func 21) #[] #[.pointer (some ⟨bn, 0, none⟩), .pointer (some ⟨bm, 0, none⟩), .pointer (some ⟨bw, 0, none⟩), .pointer (some ⟨bh, 0, none⟩)], .int .i64 (p.1 : Int), rectV (partK x y d c p.1), undef, undef, undef, undef, undef], defers := [] } ∧ Blk W b9 #[.int .i64 ((partK x y d c p.1).x : Int), .int .i64 ((partK x y d c p.1).y : Int), .int .i64 ((partK x y d c p.1).w : Int), .int .i64 ((partK x y d c p.1).h : Int)] 28)
    ?hax ?assign ?body ?done ?stop
  case hax =>
    rintro p a' _ A B row ⟨b9, rfl, hb9⟩ hgr hr
    exact ⟨b9, rfl, blk_grown hb9 hgr (fun r e => (hr r e).2)⟩
  case assign =>
    intro l pre p W K hi hK
    simp only [partE, rectV]
    have HI := hid hi
    clear hi
    gi_wp2
    obtain ⟨⟨v, hv, ho⟩, F⟩ := HI.out
    have hF := F.size
    have fA := fun o => (Fr.refl (fun _ => False) W).alloc o
    exact hK _ _ ((KeepsOthers.alloc _ _).from _) (Keep4.of_fr (fA _) ⟨by omega, fun h => h⟩ ⟨by omega, fun h => h⟩ ⟨by omega, fun h => h⟩ ⟨by omega, fun h => h⟩) ⟨⟨v, hv.alloc _, ownsRow_fr ho (fA _) (fun _ _ h => h)⟩, F.alloc _⟩ ⟨_, rfl, Blk.new _ _ _⟩
  case body =>
    rintro l pre ⟨p, hp⟩ a' W hl hr ⟨⟨v, hv, ho⟩, F⟩ ⟨b9, rfl, hb9⟩ hlen
    dsimp only at hb9 ⊢
    unfold rectV
    obtain ⟨b, hb⟩ : ∃ b, b = partK x y d c p := ⟨_, rfl⟩
    rw [← hb] at hb9 ⊢
    have HB := hid hb
    clear hb
    have d0 : W.cell? ⟨w.heap.size, 0, none⟩ = some v := by rw [hv.cell]; rfl
    have d1 : W.cell? ⟨b9, 0, none⟩ = some (.int .i64 (b.x : Int)) := by rw [hb9.cell]; rfl
    have d2 : W.cell? ⟨b9, 1, none⟩ = some (.int .i64 (b.y : Int)) := by rw [hb9.cell]; rfl
    have d3 : W.cell? ⟨b9, 2, none⟩ = some (.int .i64 (b.w : Int)) := by rw [hb9.cell]; rfl
    have d4 : W.cell? ⟨b9, 3, none⟩ = some (.int .i64 (b.h : Int)) := by rw [hb9.cell]; rfl
    have hF := F.size
    gi_wp2_with (gi_at_builtin; refine wpListIn_append_own _ rfl _ _ 24 rfl w4.heap.size 28 i0 (.agg #[.int .i64 0, .int .i64 0, .int .i64 0, .int .i64 0]) 4 32 Try.underlying24 hi hz0 hz1 hz2 rfl (by decide) _ _ _ rfl (ho.alloc _) ⟨W.heap.size, 0, none⟩ 1 1 (rectC b) rfl rfl (cells_fresh W (rectC b) _) (rectC_one b) (by unfold maxLen; omega) (by omega) (by simp; omega) ?_)
    intro v' w1 hown' hgrow _
    obtain ⟨g', cap', rfl⟩ := ownsRow_succ hown'
    have hox : ∀ i, v.ownBlock = some i → w4.heap.size ≤ i := fun i e => (ho.lt i e).1
    obtain ⟨hv1, hv2, _, hk2, _⟩ := Boxed.appended (t := 24) hv (by decide) (ownsRow_lower' ho (Nat.zero_le _)) (Nat.zero_le _) (Nat.zero_le _) (ownsRow_lower' hown' (Nat.zero_le _)) hgrow
    have f1 : Fr (fun j => v.ownBlock = some j) (W.alloc (.cells #[.int .i64 (b.x : Int), .int .i64 (b.y : Int), .int .i64 (b.w : Int), .int .i64 (b.h : Int)] 28)) w1 := (Fr.refl _ _).grown hgrow (fun j e _ => e)
    have hc1 := hv1.cell
    have hf1 := hv1.frozen
    have HE : Hid (KeepsFrom w4.heap.size W (w1.setCell ⟨w.heap.size, 0, none⟩ (.slice (some ⟨g', 0, none⟩) (pre.length + 1) cap')) ∧ Keep4 bn bm bw bh W (w1.setCell ⟨w.heap.size, 0, none⟩ (.slice (some ⟨g', 0, none⟩) (pre.length + 1) cap')) ∧ (∃ v, Blk (w1.setCell ⟨w.heap.size, 0, none⟩ (.slice (some ⟨g', 0, none⟩) (pre.length + 1) cap')) w.heap.size #[v] 24 ∧ (w1.setCell ⟨w.heap.size, 0, none⟩ (.slice (some ⟨g', 0, none⟩) (pre.length + 1) cap')).ownsRow w4.heap.size 28 4 v (pre ++ [(⟨p, hp⟩ : Spot m)]).length (spotC (fun i => rectC (partK x y d c i)) (pre ++ [(⟨p, hp⟩ : Spot m)]))) ∧ Fr (fun j => j = w.heap.size) w4 (w1.setCell ⟨w.heap.size, 0, none⟩ (.slice (some ⟨g', 0, none⟩) (pre.length + 1) cap'))) := by
      refine ⟨hk2.from _, ?_, ⟨_, hv2, ?_⟩, ?_⟩
      · have f2 : Fr (fun j => j = w.heap.size ∨ v.ownBlock = some j) W (w1.setCell ⟨w.heap.size, 0, none⟩ (.slice (some ⟨g', 0, none⟩) (pre.length + 1) cap')) := (((Fr.refl _ W).alloc _).trans f1 (fun i _ e => .inr e)).setCell (p := ⟨w.heap.size, 0, none⟩) (fun _ => .inl rfl) _
        have nb : ∀ i, w.heap.size < i → i < w4.heap.size → ¬ (i = w.heap.size ∨ v.ownBlock = some i) := by
          rintro i h1 h2 (e | e)
          · omega
          · have := hox i e; omega
        exact Keep4.of_fr f2 ⟨by omega, nb _ hne.1 l0⟩ ⟨by omega, nb _ hne.2.1 l1⟩ ⟨by omega, nb _ hne.2.2.1 l2⟩ ⟨by omega, nb _ hne.2.2.2 l3⟩
      · have e1 : (pre ++ [(⟨p, hp⟩ : Spot m)]).length = pre.length + 1 := by simp
        have e2 : spotC (fun i => rectC (partK x y d c i)) (pre ++ [(⟨p, hp⟩ : Spot m)]) = spotC (fun i => rectC (partK x y d c i)) pre ++ rectC b := by
          rw [spotC_snoc, HB.out]
        rw [e1, e2]
        refine ownsRow_fr hown' ((Fr.refl (fun j => j = w.heap.size) w1).setCell (p := ⟨w.heap.size, 0, none⟩) (fun _ => rfl) _) (fun i e h => ?_)
        have := (hown'.lt i e).1
        omega
      · exact ((F.alloc _).trans f1 (fun i hi e => by have := hox i e; omega)).setCell (p := ⟨w.heap.size, 0, none⟩) (fun _ => rfl) _
    clear hv1 hv2 hk2 f1 hown' hgrow ho hv hb9 F
    gi_wp2
    exact HE.out
  case done =>
    rintro E xs W hE hS ⟨⟨v, hv, ho⟩, F⟩ hK
    rw [hS.len, flatC_spots (C := fun i => rectC (partK x y d c i)) hS] at ho
    obtain ⟨a, cap, b, rfl, hBd, hbb⟩ := Cls.of_owns ho (fun _ _ => rfl)
    have d0 : W.cell? ⟨w.heap.size, 0, none⟩ = some (.slice a m cap) := by rw [hv.cell]; rfl
    have HBd : Hid (Rcs W a m cap (partK x y d c) b) := hBd
    have HD := hid hK
    have HF := hid F
    clear hBd hK F hv ho
    gi_wp2
    refine ⟨by simp, .inl ⟨_, _, rfl, run_takeDeferred HD.out, ?_⟩⟩
    have fE : Fr (fun j => j = E) W (W.putObj E (.deferred none)) := (Fr.refl _ W).grown (grownBy_putObj' _ E (.deferred none)) (fun k e _ => by cases e; rfl)
    refine ⟨_, results_tmp rfl _ _ _, a, cap, b, rfl, ?_, fun hm => by have := hbb hm; omega, ?_⟩
    · refine ((HBd.out.fr fE (fun hm e => ?_)).congr fun i hi => ?_)
      · have := (Cls.at' HBd.out hm).2 0 hm 0 _ rfl
        subst e
        simp [World.cell?, HD.out] at this
      · rw [HL.out (by omega)]
    · exact ((F4.mono (S' := fun j => j = w.heap.size) (fun _ _ h => h.elim)).trans HF.out (fun _ _ h => h)).trans fE (fun i hi e => by have := F4.size; omega) |>.mono (fun i hi e => by omega)
  case stop =>
    rintro D c pre W _ _ h _
    exact h.elim
end Go.Proofs.Ytfnacnelmkemeaa
