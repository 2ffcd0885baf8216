/-
  Law 12, SplitStops: the walk.
-/
import Derived.Deep.DeepCutAuto
import Derived.Test.YtfnacnelmkemeaaFirst12
import Derived.Test.YtfnacnelmkemeaaRef12
import Derived.Test.YtfnacnelmkemeaaSplitT
import Derived.Test.YtfnacnelmkemeaaSplitU
import Derived.Test.YtfnacnelmkemeaaStops12A
namespace Go.Proofs.Ytfnacnelmkemeaa
open Go.RowKit

/-- Is a part too great to be looked at? -/
def bigB (W H : Int) : Bool := (decide (100 < W) && decide (W ≤ 1024)) || (decide (100 < H) && decide (H ≤ 1024))
theorem bigB_false {W H : Int} (h : bigB W H = false) (hok : pointsOk W H = true) : W ≤ 100 ∧ H ≤ 100 := by
  simp only [pointsOk, Bool.and_eq_true, amongZ_iff] at hok
  simp only [bigB, Bool.or_eq_false_iff, Bool.and_eq_false_iff, decide_eq_false_iff_not] at h
  omega
/-- The counts and sides that All has, as numbers. -/
theorem splitForms (X Y M N : Int) : ∃ c d x y : Nat, x ≤ 1024 ∧ y ≤ 1024 ∧ d ≤ 64 ∧ c ≤ 64 ∧ c * d = partsN X Y M N ∧ (0 < c → X = (x : Int) ∧ Y = (y : Int)) ∧ (if splitOk X Y M N then N else 0) = (c : Int) ∧ (if splitOk X Y M N then M else 0) = (d : Int) ∧ (0 < partsN X Y M N → partsL X Y M N = partK x y d c) := by
  cases h : splitOk X Y M N with
  | false => exact ⟨0, 0, 0, 0, by omega, by omega, by omega, by omega, by rw [partsN_no h], fun h => absurd h (by omega), rfl, rfl, fun h2 => by rw [partsN_no h] at h2; exact absurd h2 (by omega)⟩
  | true =>
    obtain ⟨x, y, i, j, rfl, rfl, rfl, rfl, _, h2, _, h4, _, h6, _, h8⟩ := splitOk_nat h
    exact ⟨j, i, x, y, h2, h4, h6, h8, by rw [partsN_nat h], fun _ => ⟨rfl, rfl⟩, rfl, rfl, fun _ => rfl⟩
/-- The part that Points tells of, as numbers. -/
theorem pointsForms (X Y W H : Int) (hb : bigB W H = false) : ∃ (X' Y' : Int) (x y : Nat), x ≤ 1024 ∧ y ≤ 1024 ∧ x * y ≤ 10000 ∧ (if pointsOk W H then #[Value.int .i64 X, Value.int .i64 Y, Value.int .i64 W, Value.int .i64 H] else #[Value.int .i64 0, Value.int .i64 0, Value.int .i64 0, Value.int .i64 0]) = #[Value.int .i64 X', Value.int .i64 Y', Value.int .i64 (x : Int), Value.int .i64 (y : Int)] ∧ (0 < x * y → X' = X ∧ Y' = Y ∧ W = (x : Int) ∧ 1 ≤ x) ∧ (if pointsOk W H then W * H else 0) = ((x * y : Nat) : Int) := by
  cases h : pointsOk W H with
  | false => exact ⟨0, 0, 0, 0, by omega, by omega, by omega, rfl, fun h => absurd h (by omega), rfl⟩
  | true =>
    obtain ⟨h1, h2⟩ := bigB_false hb h
    obtain ⟨x, y, rfl, rfl, h3, h4, h5, h6⟩ := pointsOk_nat h
    exact ⟨X, Y, x, y, h4, h6, Nat.mul_le_mul (show x ≤ 100 by omega) (show y ≤ 100 by omega), rfl, fun _ => ⟨rfl, rfl, rfl, h3⟩, by rw [if_pos rfl, Int.natCast_mul]⟩

set_option maxRecDepth 100000 in
set_option maxHeartbeats 4000000 in
theorem stops12_walk (X Y Wd H M N stop : Int) (w : World) :
    Calls Try.prog 4 #[.agg #[.int .i64 X, .int .i64 Y, .int .i64 Wd, .int .i64 H], .agg #[.int .i64 M, .int .i64 N], .int .i64 stop] w fun e w' => e = .returned (.bool true) ∧ Below w.heap.size w w' := by
  obtain ⟨W, hW⟩ : ∃ W, W = ((w.alloc (.cells #[.int .i64 X, .int .i64 Y, .int .i64 Wd, .int .i64 H] 28)).alloc (.cells #[.int .i64 M, .int .i64 N] 22)).alloc (.cells #[.int .i64 stop] 3) := ⟨_, rfl⟩
  have F0 : Fr (fun _ => False) w W := by rw [hW]; exact (((Fr.refl _ w).alloc _).alloc _).alloc _
  have O0 : Blk W w.heap.size #[.int .i64 X, .int .i64 Y, .int .i64 Wd, .int .i64 H] 28 := by rw [hW]; exact ((Blk.new _ _ _).alloc _).alloc _
  have O1 : Blk W (w.heap.size + 1) #[.int .i64 M, .int .i64 N] 22 := by
    rw [hW]
    have := Blk.new (w.alloc (.cells #[.int .i64 X, .int .i64 Y, .int .i64 Wd, .int .i64 H] 28)) #[.int .i64 M, .int .i64 N] 22
    simp at this
    exact this.alloc _
  have O2 : Blk W (w.heap.size + 2) #[.int .i64 stop] 3 := by
    rw [hW]
    have := Blk.new ((w.alloc (.cells #[.int .i64 X, .int .i64 Y, .int .i64 Wd, .int .i64 H] 28)).alloc (.cells #[.int .i64 M, .int .i64 N] 22)) #[.int .i64 stop] 3
    simpa using this
  have HW := hid hW
  clear hW
  go_enter Try.func4, Try.ntmps4
  go_wp2_with fail
  rw [← HW.out]
  refine (first12_any W).mono ?_
  rintro e w1 ⟨rfl, f1⟩
  have HP0 := hid (O0.fr f1 (fun h => h))
  have HP1 := hid (O1.fr f1 (fun h => h))
  have HP2 := hid (O2.fr f1 (fun h => h))
  have HF1 := hid (F0.trans' f1)
  have c0 : w1.cell? ⟨w.heap.size, 0, none⟩ = some (.int .i64 X) := by rw [HP0.out.cell]; rfl
  have c2 : w1.cell? ⟨w.heap.size, 2, none⟩ = some (.int .i64 Wd) := by rw [HP0.out.cell]; rfl
  have c3 : w1.cell? ⟨w.heap.size, 3, none⟩ = some (.int .i64 H) := by rw [HP0.out.cell]; rfl
  clear O0 O1 O2 F0 f1 HW
  obtain ⟨B, hB⟩ : ∃ B, bigB Wd H = B := ⟨_, rfl⟩
  have HB : Hid (((decide (100 < Wd) && decide (Wd ≤ 1024)) || (decide (100 < H) && decide (H ≤ 1024))) = B) := hB
  have HBig := hid hB
  clear hB
  go_upto_region 3 with (fail)
  go_cut [31] (fun t wx => t = .bool B ∧ SameW wx w1)
  case first =>
    go_wp2
    all_goals
      go_meet
      refine ⟨congrArg Value.bool ?_, SameW.rfl⟩
      rw [← HB.out, Bool.eq_iff_iff]
      simp only [Bool.or_eq_true, Bool.and_eq_true, decide_eq_true_eq, Bool.false_eq_true, eq_self, true_iff, false_iff]
      omega
  case rest =>
    obtain ⟨rfl, hs⟩ := hcut
    obtain rfl : w1 = wc := hs.symm
    clear HB
    cases B with
    | true =>
      have HE := hid (HF1.out.below (Nat.le_refl _) (fun _ _ h => h))
      go_wp2
      go_ret
      exact ⟨rfl, HE.out⟩
    | false =>
      obtain ⟨X', Y', x, y, hx', hy', hm, hcs, hpos, hall⟩ := pointsForms X Y Wd H HBig.out
      obtain ⟨m, hxy⟩ : ∃ m, x * y = m := ⟨_, rfl⟩
      rw [hxy] at hm hpos hall
      obtain ⟨B, hB⟩ : ∃ B, pointsOk Wd H = B := ⟨_, rfl⟩
      have HB : Hid (((decide (1 ≤ Wd) && decide (Wd ≤ 1024)) && (decide (1 ≤ H) && decide (H ≤ 1024))) = B) := hB
      have HPt := hid (fun wz => spoints_any X Y Wd H wz)
      rw [hcs] at HPt
      rw [hB] at hall
      have HAll := hid hall
      have HPos := hid hpos
      have HXY := hid hxy
      clear hall hpos hcs hB HBig hxy
      obtain ⟨W2, hW2⟩ : ∃ W2, W2 = w1.alloc (.cells #[.int .i64 0] 3) := ⟨_, rfl⟩
      have HF2 : Hid (Fr (fun _ => False) w1 W2) := by rw [hW2]; exact (Fr.refl _ w1).alloc _
      have HA2 : Hid (Blk W2 w1.heap.size #[.int .i64 0] 3) := by rw [hW2]; exact Blk.new _ _ _
      have HW2 := hid hW2
      have HP20 := hid (HP0.out.fr HF2.out (fun h => h))
      clear hW2 c0 c2 c3
      go_upto_region 6 with (fail)
      rw [← HW2.out]
      have c0 : W2.cell? ⟨w.heap.size, 0, none⟩ = some (.int .i64 X) := by rw [HP20.out.cell]; rfl
      have c2 : W2.cell? ⟨w.heap.size, 2, none⟩ = some (.int .i64 Wd) := by rw [HP20.out.cell]; rfl
      have c3 : W2.cell? ⟨w.heap.size, 3, none⟩ = some (.int .i64 H) := by rw [HP20.out.cell]; rfl
      go_cut [49] (fun t wx => t = .bool B ∧ SameW wx W2)
      case first =>
        go_wp2
        all_goals
          go_meet
          refine ⟨congrArg Value.bool ?_, SameW.rfl⟩
          rw [← HB.out, Bool.eq_iff_iff]
          simp only [Bool.and_eq_true, decide_eq_true_eq, Bool.false_eq_true, false_iff]
          omega
      case rest =>
        obtain ⟨rfl, hs⟩ := hcut
        obtain rfl : W2 = wc := hs.symm
        clear HB
        go_upto_if 49 with (fail)
        go_cut [] (fun wx => Blk wx w1.heap.size #[.int .i64 (m : Int)] 3 ∧ Fr (fun j => j = w1.heap.size) W2 wx)
        case first =>
          cases B with
          | true =>
            have hmul : Wd * H = (m : Int) := HAll.out
            have ta := HA2.out.thaw
            have ca : W2.cell? ⟨w1.heap.size, 0, none⟩ = some (.int .i64 0) := by rw [HA2.out.cell]; rfl
            go_wp2
            go_meet
            exact ⟨by simpa using HA2.out.set 0 (.int .i64 (m : Int)), (Fr.refl (fun j => j = w1.heap.size) W2).setCell (p := ⟨w1.heap.size, 0, none⟩) (fun _ => rfl) _⟩
          | false =>
            have h0 : (0 : Int) = (m : Int) := HAll.out
            have HR : Hid (Blk W2 w1.heap.size #[.int .i64 (m : Int)] 3) := by rw [← h0]; exact HA2.out
            clear h0
            go_wp2
            go_meet
            exact ⟨HR.out, Fr.refl _ _⟩
        case rest =>
          obtain ⟨hBa, hFa⟩ := hcut
          have hsz1 : w1.heap.size < W2.heap.size := HA2.out.lt
          have hlow : w.heap.size + 2 < w1.heap.size := HP2.out.lt
          have Q0 := HP20.out.fr hFa (by omega)
          have Q1 := (HP1.out.fr HF2.out (fun h => h)).fr hFa (by omega)
          have Q2 := (HP2.out.fr HF2.out (fun h => h)).fr hFa (by omega)
          have HFw : Hid (Fr (fun _ => False) w wc) := (HF1.out.trans' HF2.out).trans hFa (fun i hi e => by have := HF1.out.size; omega)
          have HQ := hid (And.intro Q0 (And.intro Q1 (And.intro Q2 hBa)))
          clear Q0 Q1 Q2 hBa hFa HP0 HP1 HP2 HP20 HF1 HF2 HA2 HW2 c0 c2 c3 HAll
          go_upto_region 9 with (fail)
          obtain ⟨W4, hW4⟩ : ∃ W4, W4 = (wc.alloc (.cells #[.int .i64 0] 3)).alloc (.cells #[.bool true] 4) := ⟨_, rfl⟩
          have f4 : Fr (fun _ => False) wc W4 := by rw [hW4]; exact ((Fr.refl _ wc).alloc _).alloc _
          have Bn4 : Blk W4 wc.heap.size #[.int .i64 0] 3 := by rw [hW4]; exact (Blk.new _ _ _).alloc _
          have Bo4 : Blk W4 (wc.heap.size + 1) #[.bool true] 4 := by
            rw [hW4]
            have := Blk.new (wc.alloc (.cells #[.int .i64 0] 3)) #[.bool true] 4
            simpa using this
          rw [← hW4]
          obtain ⟨bn, hbn⟩ : ∃ bn, wc.heap.size = bn := ⟨_, rfl⟩
          obtain ⟨ba, hba⟩ : ∃ ba, w1.heap.size = ba := ⟨_, rfl⟩
          have hlba : ba < bn := by rw [← hba, ← hbn]; exact HQ.out.2.2.2.lt
          rw [hba] at HQ hlow ⊢
          rw [hbn] at Bn4 Bo4 ⊢
          have Q0 := HQ.out.1.fr f4 (fun h => h)
          have Q1 := HQ.out.2.1.fr f4 (fun h => h)
          have Q2 := HQ.out.2.2.1.fr f4 (fun h => h)
          have Qa := HQ.out.2.2.2.fr f4 (fun h => h)
          have HFw4 : Hid (Fr (fun _ => False) w W4) := HFw.out.trans' f4
          have c0 : W4.cell? ⟨w.heap.size, 0, none⟩ = some (.int .i64 X) := by rw [Q0.cell]; rfl
          have c1 : W4.cell? ⟨w.heap.size, 1, none⟩ = some (.int .i64 Y) := by rw [Q0.cell]; rfl
          have c2 : W4.cell? ⟨w.heap.size, 2, none⟩ = some (.int .i64 Wd) := by rw [Q0.cell]; rfl
          have c3 : W4.cell? ⟨w.heap.size, 3, none⟩ = some (.int .i64 H) := by rw [Q0.cell]; rfl
          have hsz4 : bn + 1 < W4.heap.size := Bo4.lt
          have hbase : w.heap.size ≤ bn := by omega
          clear hW4 f4 hbn hba HQ HFw hsz1
          go_wp2_with fail
          refine (HPt.out W4).mono ?_
          rintro e W5 ⟨br, rfl, Br, hbr, f5⟩
          have HJ0 : Hid (Blk W5 br #[.int .i64 X', .int .i64 Y', .int .i64 (x : Int), .int .i64 (y : Int)] 28 ∧ Blk W5 (bn + 1) #[.bool true] 4 ∧ Blk W5 bn #[.int .i64 ((0 : Nat) : Int)] 3 ∧ Fr (fun j => j = bn + 1 ∨ j = bn) W5 W5) := ⟨Br, Bo4.fr f5 (fun h => h), Bn4.fr f5 (fun h => h), Fr.refl _ _⟩
          have HQ := hid (And.intro (Q0.fr f5 (fun h => h)) (And.intro (Q1.fr f5 (fun h => h)) (And.intro (Q2.fr f5 (fun h => h)) (Qa.fr f5 (fun h => h)))))
          have HFw5 : Hid (Fr (fun _ => False) w W5) := HFw4.out.trans' f5
          have HC1 : Hid (Calls Try.prog 20 #[.func (.func 14) #[] #[.pointer (some ⟨bn + 1, 0, none⟩), .pointer (some ⟨bn, 0, none⟩), .pointer (some ⟨ba, 0, none⟩), .pointer (some ⟨w.heap.size, 0, none⟩), .pointer (some ⟨w.heap.size + 2, 0, none⟩)], .pointer (some ⟨br, 0, none⟩)] W5 fun e w' => e = .returned (.tuple #[]) ∧ ∃ K : Nat, (K = m ∨ ((K : Int) = stop ∧ K < m)) ∧ Blk w' (bn + 1) #[.bool true] 4 ∧ Blk w' bn #[.int .i64 (K : Int)] 3 ∧ Fr (fun j => j = bn + 1 ∨ j = bn) W5 w') := by
            refine (spoints1_call 14 #[.pointer (some ⟨bn + 1, 0, none⟩), .pointer (some ⟨bn, 0, none⟩), .pointer (some ⟨ba, 0, none⟩), .pointer (some ⟨w.heap.size, 0, none⟩), .pointer (some ⟨w.heap.size + 2, 0, none⟩)] br x y X' Y'
              (fun K wr => Blk wr br #[.int .i64 X', .int .i64 Y', .int .i64 (x : Int), .int .i64 (y : Int)] 28 ∧ Blk wr (bn + 1) #[.bool true] 4 ∧ Blk wr bn #[.int .i64 (K : Int)] 3 ∧ Fr (fun j => j = bn + 1 ∨ j = bn) W5 wr)
              (fun K wr => ((K : Int) = stop) ∧ Blk wr (bn + 1) #[.bool true] 4 ∧ Blk wr bn #[.int .i64 (K : Int)] 3 ∧ Fr (fun j => j = bn + 1 ∨ j = bn) W5 wr)
              W5 hx' hy' (fun _ _ => rfl) (fun _ _ h => h.1) ?_ HJ0.out).mono ?_
            · rintro K wr hK ⟨j1, j2, j3, j4⟩
              rw [HXY.out] at hK
              obtain ⟨e1, e2, e3, e4⟩ := HPos.out (by omega)
              obtain ⟨q0, q1, q2, q3⟩ := HQ.out
              have s0 := q0.lt
              rw [e3] at q0
              rw [e1, e2]
              refine (stops1_go x K m X Y H stop (bn + 1) bn ba w.heap.size (w.heap.size + 2) wr e4 hx' hK (by omega) j2 j3 (q3.fr j4 (by omega)) (q0.fr j4 (by omega)) (q2.fr j4 (by omega)) (by omega) (by omega) (by omega)).mono ?_
              rintro e w' ⟨rfl, k2, k3, k4⟩
              have f := j4.trans' k4
              by_cases hst : ((K + 1 : Nat) : Int) = stop
              · exact .inr ⟨by rw [decide_eq_true hst]; rfl, hst, k2, k3, f⟩
              · have j5 := j1.fr k4 (by omega)
                rw [e1, e2] at j5
                exact .inl ⟨by rw [decide_eq_false hst]; rfl, j5, k2, k3, f⟩
            · rintro e w' ⟨rfl, (⟨_, k2, k3, k4⟩ | ⟨K, hK, k1, k2, k3, k4⟩)⟩
              · exact ⟨rfl, x * y, .inl HXY.out, k2, k3, k4⟩
              · rw [HXY.out] at hK
                by_cases hE : K + 1 = m
                · exact ⟨rfl, K + 1, .inl hE, k2, k3, k4⟩
                · exact ⟨rfl, K + 1, .inr ⟨k1, by omega⟩, k2, k3, k4⟩
          clear Q0 Q1 Q2 Qa HFw4 c0 c1 c2 c3 Br f5 Bn4 Bo4
          go_wp2_with fail
          refine HC1.out.mono ?_
          rintro e W6 ⟨rfl, K, hK, Bo, Bn, f6⟩
          have Q0 := HQ.out.1.fr f6 (by omega)
          have Q1 := HQ.out.2.1.fr f6 (by omega)
          have Q2 := HQ.out.2.2.1.fr f6 (by omega)
          have Qa := HQ.out.2.2.2.fr f6 (by omega)
          have HFw6 : Hid (Fr (fun _ => False) w W6) := HFw5.out.trans f6 (fun i hi e => by omega)
          have HP := hid (And.intro Q0 (And.intro Q1 (And.intro Q2 (And.intro Qa (And.intro Bo Bn)))))
          have HK := hid hK
          have hsz6 := f6.size
          clear Q0 Q1 Q2 Qa Bo Bn HC1 HJ0 HQ HFw5 f6 hK HPt HPos HXY
          go_upto_region 10 with (fail)
          have b0 : W6.cell? ⟨bn + 1, 0, none⟩ = some (.bool true) := by rw [HP.out.2.2.2.2.1.cell]; rfl
          have b1 : W6.cell? ⟨bn, 0, none⟩ = some (.int .i64 (K : Int)) := by rw [HP.out.2.2.2.2.2.cell]; rfl
          have b2 : W6.cell? ⟨ba, 0, none⟩ = some (.int .i64 (m : Int)) := by rw [HP.out.2.2.2.1.cell]; rfl
          have b3 : W6.cell? ⟨w.heap.size + 2, 0, none⟩ = some (.int .i64 stop) := by rw [HP.out.2.2.1.cell]; rfl
          go_cut [75] (fun t wx => t = .bool false ∧ SameW wx W6)
          case first =>
            rcases HK.out with rfl | ⟨hs, hlt⟩
            · clear HK
              go_wp2
              go_meet
              exact ⟨rfl, SameW.rfl⟩
            · rw [← hs] at b3
              have g1 : ((K : Int) != (m : Int)) = true := bne_iff_ne.2 (by omega)
              have g2 : ¬ (m : Int) < (K : Int) := by omega
              have g3 : ¬ (K : Int) = (m : Int) := by omega
              clear HK hs hlt
              go_wp2
              go_meet
              exact ⟨rfl, SameW.rfl⟩
          case rest =>
            obtain ⟨rfl, hs⟩ := hcut
            obtain rfl : W6 = wc := hs.symm
            clear b0 b1 b2 b3 HK
            obtain ⟨c, d, x2, y2, hx2, hy2, hd2, hc2, hcd, hX2, hN2, hM2, hL2⟩ := splitForms Wd H M N
            obtain ⟨q, hq⟩ : ∃ q, partsN Wd H M N = q := ⟨_, rfl⟩
            obtain ⟨L, hL⟩ : ∃ L, partsL Wd H M N = L := ⟨_, rfl⟩
            have hq4 : q ≤ 4096 := by rw [← hq]; exact partsN_most _ _ _ _
            have HRl := hid (fun wz => rlist12_any Wd H M N wz)
            have HAl := hid (fun wz => sall_any Wd H M N wz)
            rw [hq, hL] at HRl
            rw [hN2, hM2] at HAl
            rw [hq] at hcd hL2
            rw [hL] at hL2
            have HSp := hid (And.intro hcd (And.intro hX2 hL2))
            clear hcd hX2 hN2 hM2 hL2 hq hL
            have c0 : W6.cell? ⟨w.heap.size, 0, none⟩ = some (.int .i64 X) := by rw [HP.out.1.cell]; rfl
            have c2 : W6.cell? ⟨w.heap.size, 2, none⟩ = some (.int .i64 Wd) := by rw [HP.out.1.cell]; rfl
            have c3 : W6.cell? ⟨w.heap.size, 3, none⟩ = some (.int .i64 H) := by rw [HP.out.1.cell]; rfl
            have d0 : W6.cell? ⟨w.heap.size + 1, 0, none⟩ = some (.int .i64 M) := by rw [HP.out.2.1.cell]; rfl
            have d1 : W6.cell? ⟨w.heap.size + 1, 1, none⟩ = some (.int .i64 N) := by rw [HP.out.2.1.cell]; rfl
            go_wp2_with fail
            refine (HRl.out W6).mono ?_
            rintro e W7 ⟨a7, cap7, b7, rfl, R7, hb7, f7⟩
            clear c0 c2 c3 d0 d1
            go_upto_region 14 with (fail)
            obtain ⟨W8, hW8⟩ : ∃ W8, W8 = (W7.alloc (.cells #[.slice a7 q cap7] 24)).alloc (.cells #[.int .i64 0] 3) := ⟨_, rfl⟩
            have f8 : Fr (fun _ => False) W7 W8 := by rw [hW8]; exact ((Fr.refl _ W7).alloc _).alloc _
            have Bl8 : Blk W8 W7.heap.size #[.slice a7 q cap7] 24 := by rw [hW8]; exact (Blk.new _ _ _).alloc _
            have Bk8 : Blk W8 (W7.heap.size + 1) #[.int .i64 0] 3 := by
              rw [hW8]
              have := Blk.new (W7.alloc (.cells #[.slice a7 q cap7] 24)) #[.int .i64 0] 3
              simpa using this
            rw [← hW8]
            have hsz7 := f7.size
            have hb7l : 0 < q → b7 < W7.heap.size := fun h => R7.lt h
            obtain ⟨bl, hbl⟩ : ∃ bl, W7.heap.size = bl := ⟨_, rfl⟩
            rw [hbl] at Bl8 Bk8 hsz7 hb7l ⊢
            have F8 := f7.trans' f8
            have Q0 := HP.out.1.fr F8 (fun h => h)
            have Q1 := HP.out.2.1.fr F8 (fun h => h)
            have Q2 := HP.out.2.2.1.fr F8 (fun h => h)
            have Qo := HP.out.2.2.2.2.1.fr F8 (fun h => h)
            have R8 := R7.quiet f8
            have HFw8 : Hid (Fr (fun _ => False) w W8) := HFw6.out.trans' F8
            have c0 : W8.cell? ⟨w.heap.size, 0, none⟩ = some (.int .i64 X) := by rw [Q0.cell]; rfl
            have c2 : W8.cell? ⟨w.heap.size, 2, none⟩ = some (.int .i64 Wd) := by rw [Q0.cell]; rfl
            have c3 : W8.cell? ⟨w.heap.size, 3, none⟩ = some (.int .i64 H) := by rw [Q0.cell]; rfl
            have d0 : W8.cell? ⟨w.heap.size + 1, 0, none⟩ = some (.int .i64 M) := by rw [Q1.cell]; rfl
            have d1 : W8.cell? ⟨w.heap.size + 1, 1, none⟩ = some (.int .i64 N) := by rw [Q1.cell]; rfl
            have hob : bn + 1 < W6.heap.size := HP.out.2.2.2.2.1.lt
            have hlk : bl + 1 < W8.heap.size := Bk8.lt
            clear hW8 f8 hbl F8 HP HFw6 R7 f7 HRl
            go_wp2_with fail
            refine (HAl.out W8).mono ?_
            rintro e W9 ⟨bq, bm, bw, bh, rfl, B4, g0, g1, g2, g3, f9⟩
            have HJ0 : Hid (Boxes4 W9 bq bm bw bh (c : Int) (d : Int) Wd H ∧ Rcs W9 a7 q cap7 L b7 ∧ Blk W9 (bn + 1) #[.bool true] 4 ∧ Blk W9 (bl + 1) #[.int .i64 ((0 : Nat) : Int)] 3 ∧ Fr (fun j => j = bn + 1 ∨ j = bl + 1) W9 W9) := ⟨B4, R8.quiet f9, Qo.fr f9 (fun h => h), Bk8.fr f9 (fun h => h), Fr.refl _ _⟩
            have HQ := hid (And.intro (Q2.fr f9 (fun h => h)) (Bl8.fr f9 (fun h => h)))
            have HFw9 : Hid (Fr (fun _ => False) w W9) := HFw8.out.trans' f9
            have HC2 : Hid (Calls Try.prog 21 #[.func (.func 16) #[] #[.pointer (some ⟨bn + 1, 0, none⟩), .pointer (some ⟨bl + 1, 0, none⟩), .pointer (some ⟨bl, 0, none⟩), .pointer (some ⟨w.heap.size + 2, 0, none⟩)], .pointer (some ⟨bq, 0, none⟩), .pointer (some ⟨bm, 0, none⟩), .pointer (some ⟨bw, 0, none⟩), .pointer (some ⟨bh, 0, none⟩)] W9 fun e w' => e = .returned (.tuple #[]) ∧ ∃ K : Nat, (K = q ∨ ((K : Int) = stop ∧ K < q)) ∧ Blk w' (bn + 1) #[.bool true] 4 ∧ Blk w' (bl + 1) #[.int .i64 (K : Int)] 3 ∧ Fr (fun j => j = bn + 1 ∨ j = bl + 1) W9 w') := by
              refine (sall1_call 16 #[.pointer (some ⟨bn + 1, 0, none⟩), .pointer (some ⟨bl + 1, 0, none⟩), .pointer (some ⟨bl, 0, none⟩), .pointer (some ⟨w.heap.size + 2, 0, none⟩)] bq bm bw bh c d x2 y2 q Wd H
                (fun K wr => Boxes4 wr bq bm bw bh (c : Int) (d : Int) Wd H ∧ Rcs wr a7 q cap7 L b7 ∧ Blk wr (bn + 1) #[.bool true] 4 ∧ Blk wr (bl + 1) #[.int .i64 (K : Int)] 3 ∧ Fr (fun j => j = bn + 1 ∨ j = bl + 1) W9 wr)
                (fun K wr => ((K : Int) = stop) ∧ Blk wr (bn + 1) #[.bool true] 4 ∧ Blk wr (bl + 1) #[.int .i64 (K : Int)] 3 ∧ Fr (fun j => j = bn + 1 ∨ j = bl + 1) W9 wr)
                W9 hx2 hy2 hd2 hc2 HSp.out.1 HSp.out.2.1 (fun _ _ => rfl) (fun _ _ h => h.1) ?_ ?_ HJ0.out).mono ?_
              · rintro K w1' w2' ⟨j1, j2, j3, j4, j5⟩ f
                exact ⟨j1.quiet f, j2.quiet f, j3.fr f (fun h => h), j4.fr f (fun h => h), j5.trans f (fun _ _ h => h.elim)⟩
              · rintro K wr hK ⟨j1, j2, j3, j4, j5⟩
                rw [← HSp.out.2.2 (by omega)]
                have hbq := hb7 (by omega)
                have hbl7 := hb7l (by omega)
                refine (stops2_go K q a7 cap7 L b7 stop (bn + 1) (bl + 1) bl (w.heap.size + 2) wr hK hq4 j2 j3 j4 (HQ.out.2.fr j5 (by omega)) (HQ.out.1.fr j5 (by omega)) (by omega) (by omega) (by omega)).mono ?_
                rintro e w' ⟨rfl, k2, k3, k4⟩
                have f := j5.trans' k4
                by_cases hst : ((K + 1 : Nat) : Int) = stop
                · exact .inr ⟨by rw [decide_eq_true hst]; rfl, hst, k2, k3, f⟩
                · exact .inl ⟨by rw [decide_eq_false hst]; rfl, j1.fr k4 (by omega) (by omega) (by omega) (by omega), j2.fr k4 (by omega), k2, k3, f⟩
              · rintro e w' ⟨rfl, (⟨_, _, k2, k3, k4⟩ | ⟨K, hK, k1, k2, k3, k4⟩)⟩
                · exact ⟨rfl, q, .inl rfl, k2, k3, k4⟩
                · by_cases hE : K + 1 = q
                  · exact ⟨rfl, K + 1, .inl hE, k2, k3, k4⟩
                  · exact ⟨rfl, K + 1, .inr ⟨k1, by omega⟩, k2, k3, k4⟩
            clear Q0 Q1 Q2 Qo HFw8 c0 c2 c3 d0 d1 B4 Bl8 Bk8 R8
            go_wp2_with fail
            refine HC2.out.mono ?_
            rintro e W10 ⟨rfl, K, hK, Bo, Bk, f10⟩
            have HE : Hid (Below w.heap.size w W10) := (HFw9.out.trans f10 (fun i hi e => by omega)).below (Nat.le_refl _) (fun _ _ h => h)
            have b0 : W10.cell? ⟨bn + 1, 0, none⟩ = some (.bool true) := by rw [Bo.cell]; rfl
            have b1 : W10.cell? ⟨bl + 1, 0, none⟩ = some (.int .i64 (K : Int)) := by rw [Bk.cell]; rfl
            have b2 : W10.cell? ⟨bl, 0, none⟩ = some (.slice a7 q cap7) := by rw [(HQ.out.2.fr f10 (by omega)).cell]; rfl
            have b3 : W10.cell? ⟨w.heap.size + 2, 0, none⟩ = some (.int .i64 stop) := by rw [(HQ.out.1.fr f10 (by omega)).cell]; rfl
            clear HC2 HJ0 HQ HFw9 f9 f10 HSp HAl Bo Bk
            rcases hK with rfl | ⟨hs, hlt⟩
            · go_wp2
              go_ret
              exact ⟨rfl, HE.out⟩
            · rw [← hs] at b3
              have g1 : ((K : Int) == (q : Int)) = false := beq_eq_false_iff_ne.2 (by omega)
              have g2 : (K : Int) < (q : Int) := by omega
              have g3 : ¬ (K : Int) = (q : Int) := by omega
              clear hs hlt
              go_wp2
              go_ret
              exact ⟨rfl, HE.out⟩
end Go.Proofs.Ytfnacnelmkemeaa
