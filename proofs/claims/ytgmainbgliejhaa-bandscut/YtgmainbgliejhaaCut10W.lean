/-
  BandsCut: for any plane, band and plane to lay.
-/
import Derived.Test.YtgmainbgliejhaaCut10
namespace Go.Proofs.Ytgmainbgliejhaa
open Go.RowKit

/-- What is cut out and laid again is as it was, where all else was. -/
theorem put_back {x : Nat} {b : BandN} {V V2 : Nat → Int} (hout : ∀ j, inB b (j / x) (j % x) = false → V2 j = V j) (j : Nat) : putF x b V2 (cutF x b V) j = V j := by
  have hfe := flat_eq x j
  show (putG b (gridV x V2) (gridV b.w (cutF x b V))) (j / x) (j % x) = V j
  cases h : inB b (j / x) (j % x) with
  | false =>
    rw [putG_out h]
    show V2 (j / x * x + j % x) = V j
    rw [hfe]
    exact hout j h
  | true =>
    have hb := inB_iff.1 h
    rw [putG_in h]
    show flatG b.w (cutG b (gridV x V)) ((j / x - b.y) * b.w + (j % x - b.x)) = V j
    unfold flatG
    rw [flat_div (by omega), flat_mod (by omega)]
    show V ((b.y + (j / x - b.y)) * x + (b.x + (j % x - b.x))) = V j
    rw [show b.y + (j / x - b.y) = j / x by omega, show b.x + (j % x - b.x) = j % x by omega, hfe]
theorem putF_out {x : Nat} {b : BandN} {V Q : Nat → Int} {j : Nat} (h : inB b (j / x) (j % x) = false) : putF x b V Q j = V j := by
  have hfe := flat_eq x j
  show (putG b (gridV x V) (gridV b.w Q)) (j / x) (j % x) = V j
  rw [putG_out h]
  show V (j / x * x + j % x) = V j
  rw [hfe]
theorem RowC.ownL {w w' : World} {base : Nat} {a : Option Addr} {n cap : Nat} {V V' : Nat → Int} {b : Nat} (h : OwnL w base a n cap V b) (hn : 0 < n) (r : RowC w' b n V') : OwnL w' base a n cap V' b := by
  obtain ⟨rfl, _, hb⟩ := h.row hn
  exact ⟨r.nums h.nums.le h.nums.most, h.nil, fun _ => ⟨rfl, r, hb⟩⟩
theorem OwnL.congr {w : World} {base : Nat} {a : Option Addr} {n cap : Nat} {V V' : Nat → Int} {b : Nat} (h : OwnL w base a n cap V b) (e : ∀ j, j < n → V j = V' j) : OwnL w base a n cap V' b :=
  ⟨h.nums.congr e, h.nil, fun hn => ⟨(h.row hn).1, (h.row hn).2.1.congr e, (h.row hn).2.2⟩⟩

set_option maxRecDepth 100000 in
set_option maxHeartbeats 1000000 in
/-- Too many numbers. -/
theorem cut10_big (X Y : Int) (a : Option Addr) (n cap : Nat) (lv o bx by' bw bh : Int) (QX QY : Int) (a' : Option Addr) (m cap' : Nat) (w : World) (hb : 3000 < n ∨ 3000 < m) :
    Calls Try.prog 4 #[.agg #[.int .i64 X, .int .i64 Y, .slice a n cap], .agg #[.int .i64 lv, .int .i64 o, .int .i64 bx, .int .i64 by', .int .i64 bw, .int .i64 bh], .agg #[.int .i64 QX, .int .i64 QY, .slice a' m cap']] w fun e w' => e = .returned (.bool true) ∧ Below w.heap.size w w' := by
  obtain ⟨W, hW⟩ : ∃ W, W = ((w.alloc (.cells #[.int .i64 X, .int .i64 Y, .slice a n cap] 38)).alloc (.cells #[.int .i64 lv, .int .i64 o, .int .i64 bx, .int .i64 by', .int .i64 bw, .int .i64 bh] 31)).alloc (.cells #[.int .i64 QX, .int .i64 QY, .slice a' m cap'] 38) := ⟨_, rfl⟩
  have F0 : Fr (fun _ => False) w W := by rw [hW]; exact (((Fr.refl _ w).alloc _).alloc _).alloc _
  have O0 : Blk W w.heap.size #[.int .i64 X, .int .i64 Y, .slice a n cap] 38 := by rw [hW]; exact ((Blk.new _ _ _).alloc _).alloc _
  have O1 : Blk W (w.heap.size + 1) #[.int .i64 lv, .int .i64 o, .int .i64 bx, .int .i64 by', .int .i64 bw, .int .i64 bh] 31 := by
    rw [hW]
    have := Blk.new (w.alloc (.cells #[.int .i64 X, .int .i64 Y, .slice a n cap] 38)) #[.int .i64 lv, .int .i64 o, .int .i64 bx, .int .i64 by', .int .i64 bw, .int .i64 bh] 31
    simp at this
    exact this.alloc _
  have O2 : Blk W (w.heap.size + 2) #[.int .i64 QX, .int .i64 QY, .slice a' m cap'] 38 := by
    rw [hW]
    have := Blk.new ((w.alloc (.cells #[.int .i64 X, .int .i64 Y, .slice a n cap] 38)).alloc (.cells #[.int .i64 lv, .int .i64 o, .int .i64 bx, .int .i64 by', .int .i64 bw, .int .i64 bh] 31)) #[.int .i64 QX, .int .i64 QY, .slice a' m cap'] 38
    simpa using this
  have HW := hid hW
  clear hW O1
  have HGo : Hid (∀ w1, Fr (fun _ => False) W w1 → (w1.cell? ⟨w.heap.size, 2, none⟩ = some (.slice a n cap) ∧ w1.cell? ⟨w.heap.size + 2, 2, none⟩ = some (.slice a' m cap')) ∧ Below w.heap.size w w1) := fun w1 f => by
    have P0 := O0.fr f (fun h => h)
    have P2 := O2.fr f (fun h => h)
    exact ⟨⟨by rw [P0.cell]; rfl, by rw [P2.cell]; rfl⟩, (F0.trans' f).below (Nat.le_refl _) (fun _ _ h => h)⟩
  clear O0 O2 F0
  by_cases h3 : 3000 < n
  · have g1 : decide ((3000 : Int) < (n : Int)) = true := decide_eq_true (by omega)
    clear hb h3
    go_enter Try.func4, Try.ntmps4
    go_wp2_with fail
    rw [← HW.out]
    refine (first10_any W).mono ?_
    rintro e w1 ⟨rfl, f1⟩
    obtain ⟨⟨c0, c1⟩, HE⟩ := HGo.out w1 f1
    have HE := hid HE
    clear f1 HW HGo
    go_wp2
    go_ret
    exact ⟨rfl, HE.out⟩
  · have g1 : decide ((3000 : Int) < (n : Int)) = false := decide_eq_false (by omega)
    have g2 : decide ((3000 : Int) < (m : Int)) = true := decide_eq_true (by omega)
    clear hb h3
    go_enter Try.func4, Try.ntmps4
    go_wp2_with fail
    rw [← HW.out]
    refine (first10_any W).mono ?_
    rintro e w1 ⟨rfl, f1⟩
    obtain ⟨⟨c0, c1⟩, HE⟩ := HGo.out w1 f1
    have HE := hid HE
    clear f1 HW HGo
    go_wp2
    go_ret
    exact ⟨rfl, HE.out⟩

theorem cut10_nums (X Y : Int) (a : Option Addr) (n cap : Nat) (V : Nat → Int) (p : Nat) (lv o bx by' bw bh : Int) (QX QY : Int) (a' : Option Addr) (m cap' : Nat) (Q : Nat → Int) (p' : Nat) (w : World)
    (h : Nums w a n cap V p) (hf : a = none → n = 0 ∧ cap = 0) (h' : Nums w a' m cap' Q p') (ux : bx ≤ 9223372036854775807) (uy : by' ≤ 9223372036854775807) (uw : bw ≤ 9223372036854775807) (uh : bh ≤ 9223372036854775807) :
    Calls Try.prog 4 #[.agg #[.int .i64 X, .int .i64 Y, .slice a n cap], .agg #[.int .i64 lv, .int .i64 o, .int .i64 bx, .int .i64 by', .int .i64 bw, .int .i64 bh], .agg #[.int .i64 QX, .int .i64 QY, .slice a' m cap']] w fun e w' => e = .returned (.bool true) ∧ Below w.heap.size w w' := by
  by_cases hb : 3000 < n ∨ 3000 < m
  · exact cut10_big X Y a n cap lv o bx by' bw bh QX QY a' m cap' w hb
  have hlayno : layB X Y n bx by' bw bh QX QY m = false → ∀ w1 a1 cap1 b1 base, OwnL w1 base a1 n cap1 V b1 → Fr (fun _ => False) w w1 → Calls Try.prog 19 #[.agg #[.int .i64 X, .int .i64 Y, .slice a1 n cap1], .agg #[.int .i64 lv, .int .i64 o, .int .i64 bx, .int .i64 by', .int .i64 bw, .int .i64 bh], .agg #[.int .i64 QX, .int .i64 QY, .slice a' m cap']] w1 fun e w' => e = .returned (.bool false) ∧ OwnL w' base a1 n cap1 V b1 ∧ Fr (fun j => 0 < n ∧ j = b1) w1 w' := by
    intro hno w1 a1 cap1 b1 base ho _
    refine (blay_no X Y a1 n cap1 lv o bx by' bw bh QX QY a' m cap' w1 ux uw uh hno).mono ?_
    rintro e w' ⟨rfl, f⟩
    exact ⟨rfl, ho.quiet f, f.mono (fun _ _ h => h.elim)⟩
  have hlaidno : layB X Y n bx by' bw bh QX QY m = false → ∀ w1, Fr (fun _ => False) w w1 → Calls Try.prog 20 #[.agg #[.int .i64 X, .int .i64 Y, .slice a n cap], .agg #[.int .i64 lv, .int .i64 o, .int .i64 bx, .int .i64 by', .int .i64 bw, .int .i64 bh], .agg #[.int .i64 QX, .int .i64 QY, .slice a' m cap']] w1 fun e w' => ∃ a2 cap2 b2, e = .returned (.tuple #[.agg #[.int .i64 X, .int .i64 Y, .slice a2 n cap2], .bool false]) ∧ Nums w' a2 n cap2 V b2 ∧ Fr (fun _ => False) w1 w' := by
    intro hno w1 f1
    refine (rlaid_no X Y a n cap lv o bx by' bw bh QX QY a' m cap' w1 ux uy uw uh hno).mono ?_
    rintro e w' ⟨rfl, f⟩
    exact ⟨a, cap, p, rfl, h.quiet (f1.trans' f), f⟩
  cases hwi : withinB X Y n bx by' bw bh with
  | false =>
    have hno : layB X Y n bx by' bw bh QX QY m = false := by
      rw [← Bool.not_eq_true, layB_iff, hwi]
      exact fun h => absurd h.1 (by decide)
    exact cut10_core X Y a n cap V p lv o bx by' bw bh QX QY a' m cap' w h hf (by omega) (by omega) false V 0 0 0 V
      (fun w1 _ => bcut_no X Y a n cap V lv o bx by' bw bh w1 ux uw uh hwi) (fun w1 _ => rcut_no X Y a n cap V lv o bx by' bw bh w1 ux uy uw uh hwi) (hlayno hno) (hlaidno hno) (fun h => absurd h (by omega))
  | true =>
    obtain ⟨x, y, b, rfl, rfl, rfl, rfl, rfl, rfl, hx, hx', hy, hy', hm, hw1, hh1, hbx, hby⟩ := withinB_nat hwi
    have hpos : 0 < n := by rw [← hm]; exact Nat.mul_pos (by omega) (by omega)
    have hback : ∀ V2 : Nat → Int, (∀ j, inB b (j / x) (j % x) = false → V2 j = V j) → 0 < b.w * b.h → ∀ w1 a1 cap1 b1 base ac kc bc, OwnL w1 base a1 n cap1 V2 b1 → Nums w1 ac (b.w * b.h) kc (cutF x b V) bc → Calls Try.prog 19 #[.agg #[.int .i64 (x : Int), .int .i64 (y : Int), .slice a1 n cap1], .agg #[.int .i64 lv, .int .i64 o, .int .i64 (b.x : Int), .int .i64 (b.y : Int), .int .i64 (b.w : Int), .int .i64 (b.h : Int)], .agg #[.int .i64 (b.w : Int), .int .i64 (b.h : Int), .slice ac (b.w * b.h) kc]] w1 fun e w' => ∃ r, e = .returned (.bool r) ∧ OwnL w' base a1 n cap1 V b1 ∧ Fr (fun j => 0 < n ∧ j = b1) w1 w' := by
      intro V2 hout _ w1 a1 cap1 b1 base ac kc bc ho hc
      obtain ⟨rfl, hr, hb1⟩ := ho.row hpos
      refine (blay_go x y b1 n cap1 V2 lv o b ac (b.w * b.h) kc (cutF x b V) bc w1 hx hx' hy hy' hm hr ho.nums.le hw1 hh1 hbx hby rfl hc).mono ?_
      rintro e w' ⟨rfl, hr', f⟩
      exact ⟨true, rfl, (hr'.ownL ho hpos).congr fun j _ => put_back hout j, f.mono (fun _ _ e => ⟨hpos, e⟩)⟩
    have hcut : ∀ w1, Fr (fun _ => False) w w1 → Calls Try.prog 16 #[.agg #[.int .i64 (x : Int), .int .i64 (y : Int), .slice a n cap], .agg #[.int .i64 lv, .int .i64 o, .int .i64 (b.x : Int), .int .i64 (b.y : Int), .int .i64 (b.w : Int), .int .i64 (b.h : Int)]] w1 fun e w' => Made w1 w' e b.w b.h (b.w * b.h) (cutF x b V) := fun w1 f => bcut_go x y a n cap V p lv o b w1 hx hx' hy hy' hm (h.quiet f) hw1 hh1 hbx hby
    have hrcut : ∀ w1, Fr (fun _ => False) w w1 → Calls Try.prog 18 #[.agg #[.int .i64 (x : Int), .int .i64 (y : Int), .slice a n cap], .agg #[.int .i64 lv, .int .i64 o, .int .i64 (b.x : Int), .int .i64 (b.y : Int), .int .i64 (b.w : Int), .int .i64 (b.h : Int)]] w1 fun e w' => Made w1 w' e b.w b.h (b.w * b.h) (cutF x b V) := fun w1 f => rcut_go x y a n cap V p lv o b w1 hx hx' hy hy' hm (h.quiet f) hw1 hh1 hbx hby
    cases hla : layB x y n b.x b.y b.w b.h QX QY m with
    | false =>
      exact cut10_core x y a n cap V p lv o b.x b.y b.w b.h QX QY a' m cap' w h hf (by omega) (by omega) false V b.w b.h (b.w * b.h) (cutF x b V) hcut hrcut (hlayno hla) (hlaidno hla) (hback V fun _ _ => rfl)
    | true =>
      obtain ⟨_, hRq, rfl, rfl⟩ := layB_iff.1 hla
      have hm2 : b.w * b.h = m := by
        have := (rightP_iff.1 hRq).2.2
        rw [← Int.natCast_mul] at this
        omega
      refine cut10_core x y a n cap V p lv o b.x b.y b.w b.h b.w b.h a' m cap' w h hf (by omega) (by omega) true (putF x b V Q) b.w b.h (b.w * b.h) (cutF x b V) hcut hrcut ?_ ?_ (hback _ fun j hj => putF_out hj)
      · intro w1 a1 cap1 b1 base ho f1
        obtain ⟨rfl, hr, hb1⟩ := ho.row hpos
        refine (blay_go x y b1 n cap1 V lv o b a' m cap' Q p' w1 hx hx' hy hy' hm hr ho.nums.le hw1 hh1 hbx hby hm2 (h'.quiet f1)).mono ?_
        rintro e w' ⟨rfl, hr', f⟩
        exact ⟨rfl, hr'.ownL ho hpos, f.mono (fun _ _ e => ⟨hpos, e⟩)⟩
      · intro w1 f1
        have hn : n ≤ 1048576 := by rw [← hm]; exact mul_most hx' hy'
        refine (rlaid_go x y a n cap V p lv o b a' m cap' Q p' w1 hx hx' hy hy' hm (h.quiet f1) hw1 hh1 hbx hby hm2 (h'.quiet f1)).mono ?_
        rintro e w' ⟨g, rfl, hr, _, f⟩
        exact ⟨_, n, g, rfl, hr.nums (by unfold maxLen; omega), f⟩
theorem cut10_walk (X Y : Int) (a : Option Addr) (n cap : Nat) (V : Nat → Int) (lv o bx by' bw bh : Int) (QX QY : Int) (a' : Option Addr) (m cap' : Nat) (Q : Nat → Int) (w : World)
    (c : CellsIn w a n cap (fun i => .int .i64 (V i))) (c' : CellsIn w a' m cap' (fun i => .int .i64 (Q i))) (ux : bx ≤ 9223372036854775807) (uy : by' ≤ 9223372036854775807) (uw : bw ≤ 9223372036854775807) (uh : bh ≤ 9223372036854775807) :
    Calls Try.prog 4 #[.agg #[.int .i64 X, .int .i64 Y, .slice a n cap], .agg #[.int .i64 lv, .int .i64 o, .int .i64 bx, .int .i64 by', .int .i64 bw, .int .i64 bh], .agg #[.int .i64 QX, .int .i64 QY, .slice a' m cap']] w fun e w' => e = .returned (.bool true) ∧ Below w.heap.size w w' := by
  obtain ⟨p, h, _⟩ := Nums.of_in c
  obtain ⟨p', h', _⟩ := Nums.of_in c'
  have hf : a = none → n = 0 ∧ cap = 0 := by
    intro e
    rcases c.2.2 with ⟨_, h1, h2⟩ | ⟨_, _, _, h1, _⟩
    · exact ⟨h1, h2⟩
    · rw [e] at h1; cases h1
  exact cut10_nums X Y a n cap V p lv o bx by' bw bh QX QY a' m cap' Q p' w h hf h' ux uy uw uh
end Go.Proofs.Ytgmainbgliejhaa
