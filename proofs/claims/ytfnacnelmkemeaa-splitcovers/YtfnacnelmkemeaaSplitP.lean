/-
  Package split: among, Right, begins, holds, lies, Of.
-/
import Derived.Laws.ResultCell
import Derived.Test.YtfnacnelmkemeaaSplitM
namespace Go.Proofs.Ytfnacnelmkemeaa
open Go.RowKit

theorem samong_any (z q : Int) (w : World) :
    Calls Try.prog 18 #[.int .i64 z, .int .i64 q] w fun e w' => e = .returned (.bool (amongZ z q)) ∧ w' = w := by
  have HC : Hid (amongZ z q = (decide (1 ≤ z) && decide (z ≤ q))) := (Eq.refl (amongZ z q))
  by_cases h0 : 1 ≤ z
  · have g0 : decide (1 ≤ z) = true := decide_eq_true h0
    go_enter Try.func18, Try.ntmps18
    go_wp2
    go_ret
    exact ⟨ret_bool (by rw [HC.out, g0, Bool.true_and]), rfl⟩
  · have g0 : decide (1 ≤ z) = false := decide_eq_false h0
    go_enter Try.func18, Try.ntmps18
    go_wp2
    go_ret
    exact ⟨ret_bool (by rw [HC.out, g0, Bool.false_and]), rfl⟩

theorem sright_any (x y m n : Int) (w : World) :
    Calls Try.prog 9 #[.int .i64 x, .int .i64 y, .int .i64 m, .int .i64 n] w fun e w' => e = .returned (.bool (splitOk x y m n)) ∧ w' = w := by
  have HC : Hid (splitOk x y m n = (amongZ x 1024 && amongZ y 1024 && amongZ m 64 && amongZ n 64)) := (Eq.refl (splitOk x y m n))
  cases h1 : amongZ x 1024 with
  | false =>
    go_enter Try.func9, Try.ntmps9
    go_wp2_with fail
    refine (samong_any _ _ _).mono ?_
    rintro e w1 ⟨rfl, rfl⟩
    rw [h1]
    go_wp2
    go_ret
    exact ⟨ret_bool (by rw [HC.out, h1]; rfl), rfl⟩
  | true =>
  cases h2 : amongZ y 1024 with
  | false =>
    go_enter Try.func9, Try.ntmps9
    go_wp2_with fail
    refine (samong_any _ _ _).mono ?_
    rintro e w1 ⟨rfl, rfl⟩
    rw [h1]
    go_wp2_with fail
    refine (samong_any _ _ _).mono ?_
    rintro e w1 ⟨rfl, rfl⟩
    rw [h2]
    go_wp2
    go_ret
    exact ⟨ret_bool (by rw [HC.out, h1, h2]; rfl), rfl⟩
  | true =>
  cases h3 : amongZ m 64 with
  | false =>
    go_enter Try.func9, Try.ntmps9
    go_wp2_with fail
    refine (samong_any _ _ _).mono ?_
    rintro e w1 ⟨rfl, rfl⟩
    rw [h1]
    go_wp2_with fail
    refine (samong_any _ _ _).mono ?_
    rintro e w1 ⟨rfl, rfl⟩
    rw [h2]
    go_wp2_with fail
    refine (samong_any _ _ _).mono ?_
    rintro e w1 ⟨rfl, rfl⟩
    rw [h3]
    go_wp2
    go_ret
    exact ⟨ret_bool (by rw [HC.out, h1, h2, h3]; rfl), rfl⟩
  | true =>
    obtain ⟨b, hb⟩ : ∃ b, amongZ n 64 = b := ⟨_, rfl⟩
    go_enter Try.func9, Try.ntmps9
    go_wp2_with fail
    refine (samong_any _ _ _).mono ?_
    rintro e w1 ⟨rfl, rfl⟩
    rw [h1]
    go_wp2_with fail
    refine (samong_any _ _ _).mono ?_
    rintro e w1 ⟨rfl, rfl⟩
    rw [h2]
    go_wp2_with fail
    refine (samong_any _ _ _).mono ?_
    rintro e w1 ⟨rfl, rfl⟩
    rw [h3]
    go_wp2_with fail
    refine (samong_any _ _ _).mono ?_
    rintro e w1 ⟨rfl, rfl⟩
    rw [hb]
    have HB := hid hb
    clear hb
    go_wp2
    go_ret
    exact ⟨ret_bool (by rw [HC.out, h1, h2, h3, HB.out]; rfl), rfl⟩

theorem sbegins_go (x m i : Nat) (w : World) (hx : x ≤ 1024) (hm : 1 ≤ m) (hm' : m ≤ 64) (hi : i ≤ 64) (p : Nat) (hp : cutP x m i = p) :
    Calls Try.prog 23 #[.int .i64 (x : Int), .int .i64 (m : Int), .int .i64 (i : Int)] w fun e w' => e = .returned (.int .i64 (p : Int)) ∧ w' = w := by
  obtain ⟨s, hs⟩ : ∃ s, x * i = s := ⟨_, rfl⟩
  have hsI : (x : Int) * (i : Int) = (s : Int) := by rw [← hs, Int.natCast_mul]
  have hsl : s ≤ 65536 := by rw [← hs]; exact Nat.mul_le_mul hx hi
  have hp' : (s : Int) / (m : Int) = (p : Int) := by rw [← hp, ← hs]; exact (Int.natCast_ediv _ _).symm
  have hpl : p ≤ 65536 := by rw [← hp]; exact Nat.le_trans (Nat.div_le_self _ _) (by rw [hs]; exact hsl)
  have hne : (m : Int) ≠ 0 := by omega
  clear hs hp
  go_enter Try.func23, Try.ntmps23
  go_wp2
  go_ret
  exact ⟨rfl, rfl⟩

theorem sholds_go (x m i : Nat) (w : World) (hx : 1 ≤ x) (hx' : x ≤ 1024) (hm : 1 ≤ m) (hm' : m ≤ 64) (hi : i < x) (p : Nat) (hp : ofP x m i = p) :
    Calls Try.prog 19 #[.int .i64 (x : Int), .int .i64 (m : Int), .int .i64 (i : Int)] w fun e w' => e = .returned (.int .i64 (p : Int)) ∧ w' = w := by
  obtain ⟨t, ht⟩ : ∃ t, i + 1 = t := ⟨_, rfl⟩
  have htI : (i : Int) + 1 = (t : Int) := by omega
  obtain ⟨s, hs⟩ : ∃ s, m * t = s := ⟨_, rfl⟩
  have hsI : (m : Int) * (t : Int) = (s : Int) := by rw [← hs, Int.natCast_mul]
  have hsl : s ≤ 65536 := by rw [← hs]; exact Nat.mul_le_mul hm' (show t ≤ 1024 by omega)
  have hs1 : 1 ≤ s := by rw [← hs]; exact Nat.mul_pos hm (by omega)
  obtain ⟨u, hu⟩ : ∃ u, s - 1 = u := ⟨_, rfl⟩
  have huI : (s : Int) - 1 = (u : Int) := by omega
  have hul : u ≤ 65536 := by omega
  have hp' : (u : Int) / (x : Int) = (p : Int) := by rw [← hp, ← hu, ← hs, ← ht, Nat.mul_comm]; exact (Int.natCast_ediv _ _).symm
  have hpl : p ≤ 65536 := by
    rw [← hp]; unfold ofP
    refine Nat.le_trans (Nat.div_le_self _ _) ?_
    rw [ht, Nat.mul_comm, hs]; omega
  have hne : (x : Int) ≠ 0 := by omega
  clear hs hp ht hu
  go_enter Try.func19, Try.ntmps19
  go_wp2
  go_ret
  exact ⟨rfl, rfl⟩

set_option maxHeartbeats 1000000 in
theorem slies_go (x y m n i j : Nat) (w : World) (hx : x ≤ 1024) (hy : y ≤ 1024) (hm : m ≤ 64) (hn : n ≤ 64) (hi : i < m) (hj : j < n) (R : RectN) (hR : rectP x y m n i j = R) :
    Calls Try.prog 22 #[.int .i64 (x : Int), .int .i64 (y : Int), .int .i64 (m : Int), .int .i64 (n : Int), .int .i64 (i : Int), .int .i64 (j : Int)] w fun e w' => e = .returned (.agg #[.int .i64 (R.x : Int), .int .i64 (R.y : Int), .int .i64 (R.w : Int), .int .i64 (R.h : Int)]) ∧ Fr (fun _ => False) w w' := by
  obtain ⟨p0, hp0⟩ : ∃ p, cutP x m i = p := ⟨_, rfl⟩
  obtain ⟨q0, hq0⟩ : ∃ q, cutP y n j = q := ⟨_, rfl⟩
  obtain ⟨p1, hp1⟩ : ∃ p, cutP x m (i + 1) = p := ⟨_, rfl⟩
  obtain ⟨q1, hq1⟩ : ∃ q, cutP y n (j + 1) = q := ⟨_, rfl⟩
  have lp : p0 ≤ p1 := by rw [← hp0, ← hp1]; exact cutP_le (by omega)
  have lq : q0 ≤ q1 := by rw [← hq0, ← hq1]; exact cutP_le (by omega)
  have up : p1 ≤ 1024 := by rw [← hp1]; exact cutP_small hx (by omega) (by omega)
  have uq : q1 ≤ 1024 := by rw [← hq1]; exact cutP_small hy (by omega) (by omega)
  obtain ⟨sw, hsw⟩ : ∃ s, p1 - p0 = s := ⟨_, rfl⟩
  obtain ⟨sh, hsh⟩ : ∃ s, q1 - q0 = s := ⟨_, rfl⟩
  have hRe : R = ⟨p0, q0, sw, sh⟩ := by
    rw [← hR]; unfold rectP sideP
    rw [hp0, hq0, hp1, hq1, hsw, hsh]
  subst hRe
  dsimp only
  have swI : (p1 : Int) - (p0 : Int) = (sw : Int) := by omega
  have shI : (q1 : Int) - (q0 : Int) = (sh : Int) := by omega
  have swl : sw ≤ 1024 := by omega
  have shl : sh ≤ 1024 := by omega
  obtain ⟨i1, hi1⟩ : ∃ k, i + 1 = k := ⟨_, rfl⟩
  obtain ⟨j1, hj1⟩ : ∃ k, j + 1 = k := ⟨_, rfl⟩
  have i1I : (i : Int) + 1 = (i1 : Int) := by omega
  have j1I : (j : Int) + 1 = (j1 : Int) := by omega
  rw [hi1] at hp1
  rw [hj1] at hq1
  have H1 := hid (fun wx => sbegins_go x m i wx hx (by omega) hm (by omega) p0 hp0)
  have H2 := hid (fun wx => sbegins_go y n j wx hy (by omega) hn (by omega) q0 hq0)
  have H3 := hid (fun wx => sbegins_go x m i1 wx hx (by omega) hm (by omega) p1 hp1)
  have H4 := hid (fun wx => sbegins_go y n j1 wx hy (by omega) hn (by omega) q1 hq1)
  have i1l : i1 ≤ 64 := by omega
  have j1l : j1 ≤ 64 := by omega
  obtain ⟨W, hW⟩ : ∃ W, W = w.alloc (.cells #[.int .i64 0, .int .i64 0, .int .i64 0, .int .i64 0] 28) := ⟨_, rfl⟩
  have F0 : Fr (fun _ => False) w W := by rw [hW]; exact (Fr.refl _ w).alloc _
  have O0 : Blk W w.heap.size #[.int .i64 0, .int .i64 0, .int .i64 0, .int .i64 0] 28 := by rw [hW]; exact Blk.new _ _ _
  have z0 : W.cell? ⟨w.heap.size, 0, none⟩ = some (.int .i64 0) := by rw [O0.cell]; rfl
  have z1 : W.cell? ⟨w.heap.size, 1, none⟩ = some (.int .i64 0) := by rw [O0.cell]; rfl
  have z2 : W.cell? ⟨w.heap.size, 2, none⟩ = some (.int .i64 0) := by rw [O0.cell]; rfl
  have z3 : W.cell? ⟨w.heap.size, 3, none⟩ = some (.int .i64 0) := by rw [O0.cell]; rfl
  have zf := O0.thaw
  have HW := hid hW
  have HO := hid O0
  have HF := hid F0
  clear hR hp0 hq0 hp1 hq1 hsw hsh hi1 hj1 hW O0 F0 lp lq
  go_enter Try.func22, Try.ntmps22
  go_wp2_with fail
  rw [← HW.out]
  refine (H1.out _).mono ?_
  rintro e w1 ⟨rfl, rfl⟩
  go_wp2_with fail
  refine (H2.out _).mono ?_
  rintro e w1 ⟨rfl, rfl⟩
  go_wp2_with fail
  refine (H3.out _).mono ?_
  rintro e w1 ⟨rfl, rfl⟩
  go_wp2_with fail
  refine (H4.out _).mono ?_
  rintro e w1 ⟨rfl, rfl⟩
  go_wp2
  refine bodyPost_ret (v := .agg #[.int .i64 (p0 : Int), .int .i64 (q0 : Int), .int .i64 (sw : Int), .int .i64 (sh : Int)]) ?_ rfl ⟨rfl, ?_⟩
  · exact results_cell_row rfl _ _ w.heap.size 28 _ (0, 0) _ rfl (show Blk _ _ _ _ from HO.out.put4 _ _ _ _) Try.underlying28 rfl Try.size_rect
  · exact HF.out.put4New (Nat.le_refl _) _ _ _ _

/-- Of, of a place that isn't there. -/
def ofB (x y m n px py : Int) : Bool := splitOk x y m n && decide (0 ≤ px) && decide (px < x) && decide (0 ≤ py) && decide (py < y)
theorem ofB_iff {x y m n px py : Int} : ofB x y m n px py = true ↔ splitOk x y m n = true ∧ 0 ≤ px ∧ px < x ∧ 0 ≤ py ∧ py < y := by
  simp only [ofB, Bool.and_eq_true, decide_eq_true_eq, and_assoc]
theorem ofZ_no {x y m n px py : Int} (h : ofB x y m n px py = false) : ofZ x y m n px py = -1 := by
  refine if_neg fun h2 => ?_
  have := ofB_iff.2 h2
  rw [h] at this; cases this
theorem ofZ_nat {x y i j a b : Nat} (h : splitOk x y i j = true) (ha : a < x) (hb : b < y) : ofZ x y i j a b = (ofK x y i j a b : Int) := by
  rw [ofZ, if_pos ⟨h, by omega, by omega, by omega, by omega⟩]; rfl

set_option maxHeartbeats 1000000 in
theorem sof_any (x y m n px py : Int) (w : World) :
    Calls Try.prog 11 #[.int .i64 x, .int .i64 y, .int .i64 m, .int .i64 n, .int .i64 px, .int .i64 py] w fun e w' => e = .returned (.int .i64 (ofZ x y m n px py)) ∧ w' = w := by
  cases h0 : splitOk x y m n with
  | false =>
    have HR : Hid (ofZ x y m n px py = -1) := ofZ_no (by rw [ofB, h0]; rfl)
    go_enter Try.func11, Try.ntmps11
    go_wp2_with fail
    refine (sright_any _ _ _ _ _).mono ?_
    rintro e w1 ⟨rfl, rfl⟩
    rw [h0]
    go_wp2
    go_ret
    exact ⟨ret_int HR.out.symm, rfl⟩
  | true =>
  by_cases h1 : 0 ≤ px
  rotate_left
  · have g1 : px < 0 := by omega
    have g1' : decide (px < 0) = true := decide_eq_true g1
    have HR : Hid (ofZ x y m n px py = -1) := ofZ_no (by rw [← Bool.not_eq_true, ofB_iff]; omega)
    go_enter Try.func11, Try.ntmps11
    go_wp2_with fail
    refine (sright_any _ _ _ _ _).mono ?_
    rintro e w1 ⟨rfl, rfl⟩
    rw [h0]
    go_wp2
    go_ret
    exact ⟨ret_int HR.out.symm, rfl⟩
  have g1 : ¬ px < 0 := by omega
  have g1' : decide (px < 0) = false := decide_eq_false g1
  by_cases h2 : px < x
  rotate_left
  · have g2 : x ≤ px := by omega
    have g2' : decide (x ≤ px) = true := decide_eq_true g2
    have HR : Hid (ofZ x y m n px py = -1) := ofZ_no (by rw [← Bool.not_eq_true, ofB_iff]; omega)
    go_enter Try.func11, Try.ntmps11
    go_wp2_with fail
    refine (sright_any _ _ _ _ _).mono ?_
    rintro e w1 ⟨rfl, rfl⟩
    rw [h0]
    go_wp2
    go_ret
    exact ⟨ret_int HR.out.symm, rfl⟩
  have g2 : ¬ x ≤ px := by omega
  have g2' : decide (x ≤ px) = false := decide_eq_false g2
  by_cases h3 : 0 ≤ py
  rotate_left
  · have g3 : py < 0 := by omega
    have g3' : decide (py < 0) = true := decide_eq_true g3
    have HR : Hid (ofZ x y m n px py = -1) := ofZ_no (by rw [← Bool.not_eq_true, ofB_iff]; omega)
    go_enter Try.func11, Try.ntmps11
    go_wp2_with fail
    refine (sright_any _ _ _ _ _).mono ?_
    rintro e w1 ⟨rfl, rfl⟩
    rw [h0]
    go_wp2
    go_ret
    exact ⟨ret_int HR.out.symm, rfl⟩
  have g3 : ¬ py < 0 := by omega
  have g3' : decide (py < 0) = false := decide_eq_false g3
  by_cases h4 : py < y
  rotate_left
  · have g4 : y ≤ py := by omega
    have g4' : decide (y ≤ py) = true := decide_eq_true g4
    have HR : Hid (ofZ x y m n px py = -1) := ofZ_no (by rw [← Bool.not_eq_true, ofB_iff]; omega)
    go_enter Try.func11, Try.ntmps11
    go_wp2_with fail
    refine (sright_any _ _ _ _ _).mono ?_
    rintro e w1 ⟨rfl, rfl⟩
    rw [h0]
    go_wp2
    go_ret
    exact ⟨ret_int HR.out.symm, rfl⟩
  have g4 : ¬ y ≤ py := by omega
  have g4' : decide (y ≤ py) = false := decide_eq_false g4
  obtain ⟨u, v, i, j, rfl, rfl, rfl, rfl, e1, e2, e3, e4, e5, e6, e7, e8⟩ := splitOk_nat h0
  obtain ⟨a, rfl⟩ : ∃ a : Nat, px = (a : Int) := ⟨px.toNat, by omega⟩
  obtain ⟨b, rfl⟩ : ∃ b : Nat, py = (b : Int) := ⟨py.toNat, by omega⟩
  obtain ⟨c, hc⟩ : ∃ c, ofP u i a = c := ⟨_, rfl⟩
  obtain ⟨d, hd⟩ : ∃ d, ofP v j b = d := ⟨_, rfl⟩
  obtain ⟨s, hs⟩ : ∃ s, d * i = s := ⟨_, rfl⟩
  have hcl : c < i := by rw [← hc]; exact ofP_lt e5 (by omega)
  have hdl : d < j := by rw [← hd]; exact ofP_lt e7 (by omega)
  have hsI : (d : Int) * (i : Int) = (s : Int) := by rw [← hs, Int.natCast_mul]
  have hsl : s ≤ 4096 := by rw [← hs]; exact Nat.mul_le_mul (show d ≤ 64 by omega) e6
  have HR : Hid (ofZ u v i j a b = (s : Int) + (c : Int)) := by
    show _ = _
    rw [ofZ_nat h0 (by omega) (by omega), ofK, hc, hd, hs]; rfl
  have H1 := hid (fun wx => sholds_go v j b wx e3 e4 e7 e8 (by omega) d hd)
  have H2 := hid (fun wx => sholds_go u i a wx e1 e2 e5 e6 (by omega) c hc)
  clear hc hd hs
  go_enter Try.func11, Try.ntmps11
  go_wp2_with fail
  refine (sright_any _ _ _ _ _).mono ?_
  rintro e w1 ⟨rfl, rfl⟩
  rw [h0]
  go_wp2_with fail
  refine (H1.out _).mono ?_
  rintro e w1 ⟨rfl, rfl⟩
  go_wp2_with fail
  refine (H2.out _).mono ?_
  rintro e w1 ⟨rfl, rfl⟩
  go_wp2
  go_ret
  exact ⟨ret_int HR.out.symm, rfl⟩
end Go.Proofs.Ytfnacnelmkemeaa
