/-
  Package bands: List.
-/
import Derived.RangeFuncBox
import Derived.Maps.AppendAt
import Derived.Test.YtgmainbgliejhaaBandsR
import Derived.Test.YtgmainbgliejhaaPlaneU
namespace Go.Proofs.Ytgmainbgliejhaa
open Go.RowKit Go.Shelf

attribute [local go_sem] Oper.semAt_some

theorem owns_grown {A C : World} {row : Option Nat} {base : Nat} {e : TypeId} {size : Nat} {v : Value} {n : Nat} {xs : List Value} (h : A.ownsRow base e size v n xs) (hg : A.grownBy C row) (hr : ∀ r, row = some r → ∃ o : Obj, A.heap[r]? = some o ∧ o.isCells = false) : C.ownsRow base e size v n xs := by
  refine h.kept hg ?_
  rcases h.2 with ⟨rfl, _⟩ | ⟨g, cap, cur, rfl, _, hgb, _⟩
  · exact .inl rfl
  · refine .inr fun e' => ?_
    obtain ⟨o, ho, hc⟩ := hr g (by simpa [Value.ownBlock] using e'.symm)
    rw [hgb] at ho; cases ho; cases hc
theorem cell_six_new (w : World) (b : BandN) (t : TypeId) : ∀ j u, (bandC b)[j]? = some u → (w.alloc (.cells #[.int .i64 (b.level : Int), .int .i64 (b.orient : Int), .int .i64 (b.x : Int), .int .i64 (b.y : Int), .int .i64 (b.w : Int), .int .i64 (b.h : Int)] t)).cell? ((⟨w.heap.size, 0, none⟩ : Addr).add j) = some u := by
  intro j u hj
  have := (Blk.new w #[.int .i64 (b.level : Int), .int .i64 (b.orient : Int), .int .i64 (b.x : Int), .int .i64 (b.y : Int), .int .i64 (b.w : Int), .int .i64 (b.h : Int)] t).cell j
  have hadd : (⟨w.heap.size, 0, none⟩ : Addr).add j = ⟨w.heap.size, j, none⟩ := by unfold Addr.add; split <;> simp_all
  rw [hadd, this, ← Array.getElem?_toList]
  exact hj
theorem blk_grown {A C : World} {row : Option Nat} {p : Nat} {cs : Array Value} {t : TypeId} (h : Blk A p cs t) (hg : A.grownBy C row) (hr : ∀ r, row = some r → ∃ o : Obj, A.heap[r]? = some o ∧ o.isCells = false) : Blk C p cs t := by
  refine h.of_block (hg.block p h.lt fun e => ?_)
  obtain ⟨o, ho, hc⟩ := hr p e.symm
  rw [show A.heap[p]? = _ from h] at ho; cases ho; cases hc
def rowL (L : Nat → BandN) {m : Nat} (pre : List (Spot m)) : List BandN := pre.map fun p => L p.1
theorem rowL_all (L : Nat → BandN) {m : Nat} {xs : List (Spot m)} (h : Spots m xs) : (rowL L xs).length = m ∧ ∀ i, i < m → (rowL L xs).getD i noB = L i := by
  have e : rowL L xs = (List.range m).map L := by
    unfold rowL
    have : xs.map Subtype.val = List.range m := h
    rw [← this, List.map_map]; rfl
  rw [e]
  refine ⟨by simp, fun i hi => ?_⟩
  rw [List.getD_eq_getElem?_getD, List.getElem?_map, List.getElem?_range hi]; rfl

set_option maxRecDepth 100000 in
set_option maxHeartbeats 2000000 in
theorem blist_any (X Y D : Int) (w : World) :
    Calls Try.prog 10 #[.int .i64 X, .int .i64 Y, .int .i64 D] w fun e w' => ListMade w w' e (bandsN X Y D) (bandsL X Y D) := by
  obtain ⟨c, k, x, y, hx', hy', hk', hc, hm, hX, hcI, hL⟩ : ∃ c k x y : Nat, x ≤ 1024 ∧ y ≤ 1024 ∧ k ≤ 6 ∧ c ≤ k + 1 ∧ startI c = bandsN X Y D ∧ (0 < c → X = (x : Int) ∧ Y = (y : Int) ∧ D = (k : Int)) ∧ levelsB X Y D = (c : Int) ∧ (0 < bandsN X Y D → bandsL X Y D = bandAt k x y) := by
    cases h : bandsOk X Y D with
    | false => exact ⟨0, 0, 0, 0, by omega, by omega, by omega, by omega, by rw [bandsN_no h]; rfl, fun h => absurd h (by omega), by unfold levelsB; rw [h]; rfl, fun h2 => by rw [bandsN_no h] at h2; exact absurd h2 (by omega)⟩
    | true =>
      obtain ⟨x, y, k, rfl, rfl, rfl, hx, hy, hk, _, _⟩ := bandsOk_nat h
      exact ⟨k + 1, k, x, y, hx, hy, hk, Nat.le_refl _, by rw [bandsN_ok h, startI_succ]; rfl, fun _ => ⟨rfl, rfl, rfl⟩, by unfold levelsB; rw [h]; rfl, fun _ => rfl⟩
  obtain ⟨m, hmm⟩ : ∃ m, bandsN X Y D = m := ⟨_, rfl⟩
  have hm19 : m ≤ 19 := by rw [← hmm]; exact bandsN_most X Y D
  rw [hmm] at hm hL ⊢
  have HL := hid hL
  have HX := hid hX
  have HcI := hid hcI
  have HM := hid hm
  clear hL hX hcI hm hmm
  obtain ⟨W, hW⟩ : ∃ W, W = w.alloc (.cells #[.slice none 0 0] 24) := ⟨_, rfl⟩
  have F0 : Fr (fun _ => False) w W := by rw [hW]; exact (Fr.refl _ w).alloc _
  have hsz : W.heap.size = w.heap.size + 1 := by rw [hW]; simp
  have O0 : Blk W w.heap.size #[.slice none 0 0] 24 := by rw [hW]; exact Blk.new _ _ _
  have HW := hid hW
  clear hW
  refine (callsIn_wide (n := 5)).1 ?_
  refine callsIn_of_wp_marks Try.func10 rfl trivial ?_ rfl
  simp only [Try.ntmps10, List.size_toArray, List.length_cons, List.length_nil, Nat.reduceAdd, Nat.reduceSub, Array.replicate_succ, Array.replicate_zero, List.push_toArray, List.append_toArray, List.nil_append, List.cons_append]
  gi_wp2_with fail
  refine ⟨trivial, ?_⟩
  rw [← HW.out]
  refine (callsIn_wide.2 (ball_any X Y D W)).mono ?_
  rintro e w4 ⟨bc, bw, bh, bd, rfl, hBc, hB0, hB1, hB2, g0, g1, g2, g3, f4⟩
  rw [HcI.out] at hBc
  have HSeq := ball_stops 4 (by omega) bc bw bh bd c k x y m X Y D hx' hy' hk' hc HM.out HX.out w4 hBc ⟨hB0, hB1, hB2⟩
  have l0 := hB0.lt
  have l1 := hB1.lt
  have l2 := hB2.lt
  have F4 := F0.trans' f4
  have P0 := O0.fr f4 (fun h => h)
  have hbl := P0.lt
  have hne : w.heap.size < bw ∧ w.heap.size < bh ∧ w.heap.size < bd := by omega
  clear HW F0 O0 f4 hBc hB0 hB1 hB2 HX HcI
  obtain ⟨i0, hi, hz0, hz1, hz2⟩ := info_parts Try.info_band
  gi_wp2_with fail
  refine wpIn_rangeFunc_ownH rfl (by omega) (gf := 25) (lb := #[.pointer (some ⟨bc, 0, none⟩), .pointer (some ⟨bw, 0, none⟩), .pointer (some ⟨bh, 0, none⟩), .pointer (some ⟨bd, 0, none⟩)]) rfl trivial (enters_of Try.func25 (by kernel_rfl) rfl)
    HSeq Keep3.trans (Keep3.put l0 l1 l2) (Below.refl _ _) (fun _ => rfl)
    (fun pre W => (∃ v, Blk W w.heap.size #[v] 24 ∧ W.ownsRow w4.heap.size 31 6 v pre.length (bandRow (rowL (bandAt k x y) pre))) ∧ Fr (fun j => j = w.heap.size) w4 W)
    (fun _ _ _ => False)
    (fun s A B row hs hgr hr => ⟨by
      obtain ⟨v, hv, ho⟩ := hs.1
      exact ⟨v, hv.fr (fr_of_grown hgr hr) (by omega), owns_grown ho hgr (fun r e => (hr r e).2)⟩, fr_owned hs.2 (Nat.le_refl _) hgr hr⟩)
    (fun _ _ _ _ _ hs _ _ => hs)
    ⟨⟨_, P0, World.ownsRow_nil _ _ _ _⟩, Fr.refl _ _⟩
    (fun p a' W => ∃ b9, a' = { tmps := #[.int .i64 X, .int .i64 Y, .int .i64 D, undef, undef, undef, .slice none 0 0, .pointer (some ⟨w.heap.size, 0, none⟩), undef, .pointer (some ⟨b9, 0, none⟩), .int .i64 X, .int .i64 Y, .int .i64 D, .func (.func 25) #[] #[.pointer (some ⟨bc, 0, none⟩), .pointer (some ⟨bw, 0, none⟩), .pointer (some ⟨bh, 0, none⟩), .pointer (some ⟨bd, 0, none⟩)], .int .i64 (p.1 : Int), bandV (bandAt k x y p.1), undef, undef, undef, undef, undef], defers := [] } ∧ Blk W b9 #[.int .i64 ((bandAt k x y p.1).level : Int), .int .i64 ((bandAt k x y p.1).orient : Int), .int .i64 ((bandAt k x y p.1).x : Int), .int .i64 ((bandAt k x y p.1).y : Int), .int .i64 ((bandAt k x y p.1).w : Int), .int .i64 ((bandAt k x y p.1).h : Int)] 31)
    ?hax ?assign ?body ?done ?stop
  case hax =>
    rintro p a' _ A B row ⟨b9, rfl, hb9⟩ hgr hr
    exact ⟨b9, rfl, blk_grown hb9 hgr (fun r e => (hr r e).2)⟩
  case assign =>
    intro l pre p W K hi hK
    simp only [bandE, bandV]
    have HI := hid hi
    clear hi
    gi_wp2
    obtain ⟨⟨v, hv, ho⟩, F⟩ := HI.out
    have hF := F.size
    have fA := fun o => (Fr.refl (fun _ => False) W).alloc o
    exact hK _ _ ((KeepsOthers.alloc _ _).from _) (Keep3.of_fr (fA _) ⟨by omega, fun h => h⟩ ⟨by omega, fun h => h⟩ ⟨by omega, fun h => h⟩) ⟨⟨v, hv.alloc _, ownsRow_fr ho (fA _) (fun _ _ h => h)⟩, F.alloc _⟩ ⟨_, rfl, Blk.new _ _ _⟩
  case body =>
    rintro l pre ⟨p, hp⟩ a' W hl hr ⟨⟨v, hv, ho⟩, F⟩ ⟨b9, rfl, hb9⟩ hlen
    dsimp only at hb9 ⊢
    unfold bandV
    obtain ⟨b, hb⟩ : ∃ b, b = bandAt k x y p := ⟨_, rfl⟩
    rw [← hb] at hb9 ⊢
    have HB := hid hb
    clear hb
    have d0 : W.cell? ⟨w.heap.size, 0, none⟩ = some v := by rw [hv.cell]; rfl
    have d1 : W.cell? ⟨b9, 0, none⟩ = some (.int .i64 (b.level : Int)) := by rw [hb9.cell]; rfl
    have d2 : W.cell? ⟨b9, 1, none⟩ = some (.int .i64 (b.orient : Int)) := by rw [hb9.cell]; rfl
    have d3 : W.cell? ⟨b9, 2, none⟩ = some (.int .i64 (b.x : Int)) := by rw [hb9.cell]; rfl
    have d4 : W.cell? ⟨b9, 3, none⟩ = some (.int .i64 (b.y : Int)) := by rw [hb9.cell]; rfl
    have d5 : W.cell? ⟨b9, 4, none⟩ = some (.int .i64 (b.w : Int)) := by rw [hb9.cell]; rfl
    have d6 : W.cell? ⟨b9, 5, none⟩ = some (.int .i64 (b.h : Int)) := by rw [hb9.cell]; rfl
    have hF := F.size
    gi_wp2_with (gi_at_builtin; refine wpListIn_append_own _ rfl _ _ 24 rfl w4.heap.size 31 i0 (.agg #[.int .i64 0, .int .i64 0, .int .i64 0, .int .i64 0, .int .i64 0, .int .i64 0]) 6 48 Try.underlying24 hi hz0 hz1 hz2 rfl (by decide) _ _ _ rfl (ho.alloc _) ⟨W.heap.size, 0, none⟩ 1 1 (bandC b) rfl rfl (cell_six_new _ _ _) (bandC_one b) (by unfold maxLen; omega) (by omega) (by simp; omega) ?_)
    intro v' w1 hown' hgrow _
    obtain ⟨g', cap', rfl⟩ := ownsRow_succ hown'
    have hox : ∀ i, v.ownBlock = some i → w4.heap.size ≤ i := fun i e => (ho.lt i e).1
    obtain ⟨hv1, hv2, _, hk2, _⟩ := Boxed.appended (t := 24) hv (by decide) (ownsRow_lower' ho (Nat.zero_le _)) (Nat.zero_le _) (Nat.zero_le _) (ownsRow_lower' hown' (Nat.zero_le _)) hgrow
    have f1 : Fr (fun j => v.ownBlock = some j) (W.alloc (.cells #[.int .i64 (b.level : Int), .int .i64 (b.orient : Int), .int .i64 (b.x : Int), .int .i64 (b.y : Int), .int .i64 (b.w : Int), .int .i64 (b.h : Int)] 31)) w1 := (Fr.refl _ _).grown hgrow (fun j e _ => e)
    have hc1 := hv1.cell
    have hf1 := hv1.frozen
    have HE : Hid (KeepsFrom w4.heap.size W (w1.setCell ⟨w.heap.size, 0, none⟩ (.slice (some ⟨g', 0, none⟩) (pre.length + 1) cap')) ∧ Keep3 bw bh bd W (w1.setCell ⟨w.heap.size, 0, none⟩ (.slice (some ⟨g', 0, none⟩) (pre.length + 1) cap')) ∧ (∃ v, Blk (w1.setCell ⟨w.heap.size, 0, none⟩ (.slice (some ⟨g', 0, none⟩) (pre.length + 1) cap')) w.heap.size #[v] 24 ∧ (w1.setCell ⟨w.heap.size, 0, none⟩ (.slice (some ⟨g', 0, none⟩) (pre.length + 1) cap')).ownsRow w4.heap.size 31 6 v (pre ++ [(⟨p, hp⟩ : Spot m)]).length (bandRow (rowL (bandAt k x y) (pre ++ [(⟨p, hp⟩ : Spot m)])))) ∧ Fr (fun j => j = w.heap.size) w4 (w1.setCell ⟨w.heap.size, 0, none⟩ (.slice (some ⟨g', 0, none⟩) (pre.length + 1) cap'))) := by
      refine ⟨hk2.from _, ?_, ⟨_, hv2, ?_⟩, ?_⟩
      · have f2 : Fr (fun j => j = w.heap.size ∨ v.ownBlock = some j) W (w1.setCell ⟨w.heap.size, 0, none⟩ (.slice (some ⟨g', 0, none⟩) (pre.length + 1) cap')) := (((Fr.refl _ W).alloc _).trans f1 (fun i _ e => .inr e)).setCell (p := ⟨w.heap.size, 0, none⟩) (fun _ => .inl rfl) _
        have nb : ∀ i, w.heap.size < i → i < w4.heap.size → ¬ (i = w.heap.size ∨ v.ownBlock = some i) := by
          rintro i h1 h2 (e | e)
          · omega
          · have := hox i e; omega
        exact Keep3.of_fr f2 ⟨by omega, nb _ hne.1 l0⟩ ⟨by omega, nb _ hne.2.1 l1⟩ ⟨by omega, nb _ hne.2.2 l2⟩
      · have e1 : (pre ++ [(⟨p, hp⟩ : Spot m)]).length = pre.length + 1 := by simp
        have e2 : bandRow (rowL (bandAt k x y) (pre ++ [(⟨p, hp⟩ : Spot m)])) = bandRow (rowL (bandAt k x y) pre) ++ bandC b := by
          unfold rowL
          rw [List.map_append, List.map_singleton, bandRow_snoc, HB.out]
        rw [e1, e2]
        refine ownsRow_fr hown' ((Fr.refl (fun j => j = w.heap.size) w1).setCell (p := ⟨w.heap.size, 0, none⟩) (fun _ => rfl) _) (fun i e h => ?_)
        have := (hown'.lt i e).1
        omega
      · exact ((F.alloc _).trans f1 (fun i hi e => by have := hox i e; omega)).setCell (p := ⟨w.heap.size, 0, none⟩) (fun _ => rfl) _
    clear hv1 hv2 hk2 f1 hown' hgrow ho hv hb9 F
    gi_wp2
    exact HE.out
  case done =>
    rintro E xs W hE hS ⟨⟨v, hv, ho⟩, F⟩ hK
    rw [hS.len] at ho
    obtain ⟨rl1, rl2⟩ := rowL_all (bandAt k x y) hS
    obtain ⟨a, cap, b, rfl, hBd, hbb⟩ := Bds.of_owns ho rl1
    have d0 : W.cell? ⟨w.heap.size, 0, none⟩ = some (.slice a m cap) := by rw [hv.cell]; rfl
    have HBd := hid (hBd.congr rl2)
    have HD := hid hK
    have HF := hid F
    clear hBd hK F hv ho
    gi_wp2
    refine ⟨by simp, .inl ⟨_, _, rfl, run_takeDeferred HD.out, ?_⟩⟩
    have fE : Fr (fun j => j = E) W (W.putObj E (.deferred none)) := (Fr.refl _ W).grown (grownBy_putObj' _ E (.deferred none)) (fun k e _ => by cases e; rfl)
    refine ⟨_, results_tmp rfl _ _ _, a, cap, b, rfl, ?_, fun hm => by have := hbb hm; omega, ?_⟩
    · refine ((HBd.out.fr fE (fun hm e => ?_)).congr fun i hi => ?_)
      · have := (HBd.out.at' hm).2 0 hm 0 _ rfl
        subst e
        simp [World.cell?, HD.out] at this
      · rw [HL.out (by omega)]
    · exact ((F4.mono (S' := fun j => j = w.heap.size) (fun _ _ h => h.elim)).trans HF.out (fun _ _ h => h)).trans fE (fun i hi e => by have := F4.size; omega) |>.mono (fun i hi e => by omega)
  case stop =>
    rintro D c pre W _ _ h _
    exact h.elim
end Go.Proofs.Ytgmainbgliejhaa
