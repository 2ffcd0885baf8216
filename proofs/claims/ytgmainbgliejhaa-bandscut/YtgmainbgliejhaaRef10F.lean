/-
  The document's answer for layer 10: Laid.
-/
import Derived.Laws.ResultCell
import Derived.Test.YtgmainbgliejhaaRef10E
import Derived.Test.YtgmainbgliejhaaBandsG
namespace Go.Proofs.Ytgmainbgliejhaa
open Go.RowKit

theorem results_cell_row2 {P : Program} {fn : Func} {p u : Tmp} {ty : TypeId} (h : fn.results = #[.cell p ty, .tmp u]) (tmps : Array Value) (w : World) (g : Nat) (t : TypeId) (cs : Array Value) (fr : Nat × Nat) (d : TypeDesc) (v : Value)
    (hp : tmps.getD p undef = .pointer (some ⟨g, 0, none⟩)) (hv : tmps.getD u undef = v) (hg : w.heap[g]? = some (.cells cs t fr))
    (hu : P.underlying ty = some d) (hd : (match d with | .struct _ | .array _ _ => true | _ => false) = true) (hi : (P.info? ty).map (·.size) = some cs.size) :
    (results fn tmps).run P w = .ok (.tuple #[.agg cs, v]) w := by
  rw [results_cell_tmp h, hp, hv]
  simp [asAddr, Result.andThen, run_loadVar_row w g t ty cs fr d hg hu hd hi]
theorem sizedV_same {x y : Nat} {V : Nat → Int} {j : Nat} (hj : j < x * y) : sizedV x y V x j = V j := by
  unfold sizedV
  rw [atP_in (col_lt hj) (row_lt hj), flat_eq]
/-- A place that stays as it is. -/
theorem rowN_skip {W w k q : Nat} {A B : Grid} (hq : q < W) (hs : B k q = A k q) (j : Nat) : flatG W (rowN w k q A B) j = flatG W (rowN w k (q + 1) A B) j := by
  rw [← rowN_set hq j]
  by_cases e : j = k * W + q
  · rw [if_pos e, e]
    unfold flatG
    rw [flat_div hq, flat_mod hq, rowN_here, hs]
  · rw [if_neg e]

set_option maxHeartbeats 1000000 in
theorem rlaid_no (X Y : Int) (a : Option Addr) (n cap : Nat) (lv o bx by' bw bh QX QY : Int) (a' : Option Addr) (m cap' : Nat) (w : World) (ux : bx ≤ 9223372036854775807) (uy : by' ≤ 9223372036854775807) (uw : bw ≤ 9223372036854775807) (uh : bh ≤ 9223372036854775807) (hno : layB X Y n bx by' bw bh QX QY m = false) :
    Calls Try.prog 20 #[.agg #[.int .i64 X, .int .i64 Y, .slice a n cap], .agg #[.int .i64 lv, .int .i64 o, .int .i64 bx, .int .i64 by', .int .i64 bw, .int .i64 bh], .agg #[.int .i64 QX, .int .i64 QY, .slice a' m cap']] w fun e w' => e = .returned (.tuple #[.agg #[.int .i64 X, .int .i64 Y, .slice a n cap], .bool false]) ∧ Fr (fun _ => False) w w' := by
  obtain ⟨W, hW⟩ : ∃ W, W = (((w.alloc (.cells #[.int .i64 X, .int .i64 Y, .slice a n cap] 38)).alloc (.cells #[.int .i64 lv, .int .i64 o, .int .i64 bx, .int .i64 by', .int .i64 bw, .int .i64 bh] 31)).alloc (.cells #[.int .i64 QX, .int .i64 QY, .slice a' m cap'] 38)).alloc (.cells #[.int .i64 0, .int .i64 0, .slice none 0 0] 38) := ⟨_, rfl⟩
  have F0 : Fr (fun _ => False) w W := by rw [hW]; exact ((((Fr.refl _ w).alloc _).alloc _).alloc _).alloc _
  have O0 : Blk W w.heap.size #[.int .i64 X, .int .i64 Y, .slice a n cap] 38 := by rw [hW]; exact (((Blk.new _ _ _).alloc _).alloc _).alloc _
  have O1 : Blk W (w.heap.size + 1) #[.int .i64 lv, .int .i64 o, .int .i64 bx, .int .i64 by', .int .i64 bw, .int .i64 bh] 31 := by
    rw [hW]
    have := Blk.new (w.alloc (.cells #[.int .i64 X, .int .i64 Y, .slice a n cap] 38)) #[.int .i64 lv, .int .i64 o, .int .i64 bx, .int .i64 by', .int .i64 bw, .int .i64 bh] 31
    simp at this
    exact (this.alloc _).alloc _
  have O2 : Blk W (w.heap.size + 2) #[.int .i64 QX, .int .i64 QY, .slice a' m cap'] 38 := by
    rw [hW]
    have := Blk.new ((w.alloc (.cells #[.int .i64 X, .int .i64 Y, .slice a n cap] 38)).alloc (.cells #[.int .i64 lv, .int .i64 o, .int .i64 bx, .int .i64 by', .int .i64 bw, .int .i64 bh] 31)) #[.int .i64 QX, .int .i64 QY, .slice a' m cap'] 38
    simp at this
    exact this.alloc _
  have O3 : Blk W (w.heap.size + 3) #[.int .i64 0, .int .i64 0, .slice none 0 0] 38 := by
    rw [hW]
    have := Blk.new (((w.alloc (.cells #[.int .i64 X, .int .i64 Y, .slice a n cap] 38)).alloc (.cells #[.int .i64 lv, .int .i64 o, .int .i64 bx, .int .i64 by', .int .i64 bw, .int .i64 bh] 31)).alloc (.cells #[.int .i64 QX, .int .i64 QY, .slice a' m cap'] 38)) #[.int .i64 0, .int .i64 0, .slice none 0 0] 38
    simpa using this
  have HW := hid hW
  clear hW
  cases hwi : withinB X Y n bx by' bw bh with
  | false =>
    go_enter Try.func20, Try.ntmps20
    go_wp2_with fail
    rw [← HW.out]
    refine (rwithin_any X Y a n cap lv o bx by' bw bh W ux uy uw uh).mono ?_
    rintro e w1 ⟨rfl, f1⟩
    rw [hwi]
    have BP := O0.fr f1 (fun h => h)
    have BB := O1.fr f1 (fun h => h)
    have BQ := O2.fr f1 (fun h => h)
    have BZ := O3.fr f1 (fun h => h)
    have FE := F0.trans' f1
    have p0 : w1.cell? ⟨w.heap.size, 0, none⟩ = some (.int .i64 X) := by rw [BP.cell]; rfl
    have p1 : w1.cell? ⟨w.heap.size, 1, none⟩ = some (.int .i64 Y) := by rw [BP.cell]; rfl
    have p2 : w1.cell? ⟨w.heap.size, 2, none⟩ = some (.slice a n cap) := by rw [BP.cell]; rfl
    have z0 : w1.cell? ⟨w.heap.size + 3, 0, none⟩ = some (.int .i64 0) := by rw [BZ.cell]; rfl
    have z1 : w1.cell? ⟨w.heap.size + 3, 1, none⟩ = some (.int .i64 0) := by rw [BZ.cell]; rfl
    have z2 : w1.cell? ⟨w.heap.size + 3, 2, none⟩ = some (.slice none 0 0) := by rw [BZ.cell]; rfl
    have zf := BZ.thaw
    have HBZ := hid BZ
    have HFE := hid FE
    clear BQ BB O0 O1 O2 O3 F0 f1 HW hwi hno
    go_wp2
    refine bodyPost_ret (v := .tuple #[.agg #[.int .i64 X, .int .i64 Y, .slice a n cap], .bool false]) ?_ rfl ⟨rfl, HFE.out.put3New (by omega) _ _ _⟩
    exact results_cell_row2 rfl _ _ (w.heap.size + 3) 38 _ (0, 0) _ (.bool false) rfl rfl (show Blk _ _ _ _ from HBZ.out.put3 _ _ _) Try.underlying38 rfl Try.info_plane
  | true =>
    cases hRq : rightP QX QY m with
    | false =>
      go_enter Try.func20, Try.ntmps20
      go_wp2_with fail
      rw [← HW.out]
      refine (rwithin_any X Y a n cap lv o bx by' bw bh W ux uy uw uh).mono ?_
      rintro e w1 ⟨rfl, f1⟩
      rw [hwi]
      have BP := O0.fr f1 (fun h => h)
      have BB := O1.fr f1 (fun h => h)
      have BQ := O2.fr f1 (fun h => h)
      have BZ := O3.fr f1 (fun h => h)
      have FE := F0.trans' f1
      have q0 : w1.cell? ⟨w.heap.size + 2, 0, none⟩ = some (.int .i64 QX) := by rw [BQ.cell]; rfl
      have q1 : w1.cell? ⟨w.heap.size + 2, 1, none⟩ = some (.int .i64 QY) := by rw [BQ.cell]; rfl
      have q2 : w1.cell? ⟨w.heap.size + 2, 2, none⟩ = some (.slice a' m cap') := by rw [BQ.cell]; rfl
      clear O0 O1 O2 O3 F0 f1 HW
      go_wp2_with fail
      refine (rright_any QX QY a' m cap' w1).mono ?_
      rintro e w2 ⟨rfl, f2⟩
      rw [hRq]
      replace BP := BP.fr f2 (fun h => h)
      replace BB := BB.fr f2 (fun h => h)
      replace BQ := BQ.fr f2 (fun h => h)
      replace BZ := BZ.fr f2 (fun h => h)
      replace FE := FE.trans' f2
      clear q0 q1 q2 f2
      have q0 : w2.cell? ⟨w.heap.size + 2, 0, none⟩ = some (.int .i64 QX) := by rw [BQ.cell]; rfl
      have q1 : w2.cell? ⟨w.heap.size + 2, 1, none⟩ = some (.int .i64 QY) := by rw [BQ.cell]; rfl
      have q2 : w2.cell? ⟨w.heap.size + 2, 2, none⟩ = some (.slice a' m cap') := by rw [BQ.cell]; rfl
      have b4 : w2.cell? ⟨w.heap.size + 1, 4, none⟩ = some (.int .i64 bw) := by rw [BB.cell]; rfl
      have b5 : w2.cell? ⟨w.heap.size + 1, 5, none⟩ = some (.int .i64 bh) := by rw [BB.cell]; rfl
      have p0 : w2.cell? ⟨w.heap.size, 0, none⟩ = some (.int .i64 X) := by rw [BP.cell]; rfl
      have p1 : w2.cell? ⟨w.heap.size, 1, none⟩ = some (.int .i64 Y) := by rw [BP.cell]; rfl
      have p2 : w2.cell? ⟨w.heap.size, 2, none⟩ = some (.slice a n cap) := by rw [BP.cell]; rfl
      have z0 : w2.cell? ⟨w.heap.size + 3, 0, none⟩ = some (.int .i64 0) := by rw [BZ.cell]; rfl
      have z1 : w2.cell? ⟨w.heap.size + 3, 1, none⟩ = some (.int .i64 0) := by rw [BZ.cell]; rfl
      have z2 : w2.cell? ⟨w.heap.size + 3, 2, none⟩ = some (.slice none 0 0) := by rw [BZ.cell]; rfl
      have zf := BZ.thaw
      have HBZ := hid BZ
      have HFE := hid FE
      clear BP BQ BB BZ FE hwi hno hRq
      go_wp2
      refine bodyPost_ret (v := .tuple #[.agg #[.int .i64 X, .int .i64 Y, .slice a n cap], .bool false]) ?_ rfl ⟨rfl, HFE.out.put3New (by omega) _ _ _⟩
      exact results_cell_row2 rfl _ _ (w.heap.size + 3) 38 _ (0, 0) _ (.bool false) rfl rfl (show Blk _ _ _ _ from HBZ.out.put3 _ _ _) Try.underlying38 rfl Try.info_plane
    | true =>
      by_cases e1 : QX = bw
      · by_cases e2 : QY = bh
        · exfalso
          rw [show layB X Y n bx by' bw bh QX QY m = true from layB_iff.2 ⟨hwi, hRq, e1, e2⟩] at hno
          cases hno
        · have g1 : (QX != bw) = false := by simpa using e1
          have g2 : (QY != bh) = true := by simpa using e2
          clear e1 e2
          go_enter Try.func20, Try.ntmps20
          go_wp2_with fail
          rw [← HW.out]
          refine (rwithin_any X Y a n cap lv o bx by' bw bh W ux uy uw uh).mono ?_
          rintro e w1 ⟨rfl, f1⟩
          rw [hwi]
          have BP := O0.fr f1 (fun h => h)
          have BB := O1.fr f1 (fun h => h)
          have BQ := O2.fr f1 (fun h => h)
          have BZ := O3.fr f1 (fun h => h)
          have FE := F0.trans' f1
          have q0 : w1.cell? ⟨w.heap.size + 2, 0, none⟩ = some (.int .i64 QX) := by rw [BQ.cell]; rfl
          have q1 : w1.cell? ⟨w.heap.size + 2, 1, none⟩ = some (.int .i64 QY) := by rw [BQ.cell]; rfl
          have q2 : w1.cell? ⟨w.heap.size + 2, 2, none⟩ = some (.slice a' m cap') := by rw [BQ.cell]; rfl
          clear O0 O1 O2 O3 F0 f1 HW
          go_wp2_with fail
          refine (rright_any QX QY a' m cap' w1).mono ?_
          rintro e w2 ⟨rfl, f2⟩
          rw [hRq]
          replace BP := BP.fr f2 (fun h => h)
          replace BB := BB.fr f2 (fun h => h)
          replace BQ := BQ.fr f2 (fun h => h)
          replace BZ := BZ.fr f2 (fun h => h)
          replace FE := FE.trans' f2
          clear q0 q1 q2 f2
          have q0 : w2.cell? ⟨w.heap.size + 2, 0, none⟩ = some (.int .i64 QX) := by rw [BQ.cell]; rfl
          have q1 : w2.cell? ⟨w.heap.size + 2, 1, none⟩ = some (.int .i64 QY) := by rw [BQ.cell]; rfl
          have q2 : w2.cell? ⟨w.heap.size + 2, 2, none⟩ = some (.slice a' m cap') := by rw [BQ.cell]; rfl
          have b4 : w2.cell? ⟨w.heap.size + 1, 4, none⟩ = some (.int .i64 bw) := by rw [BB.cell]; rfl
          have b5 : w2.cell? ⟨w.heap.size + 1, 5, none⟩ = some (.int .i64 bh) := by rw [BB.cell]; rfl
          have p0 : w2.cell? ⟨w.heap.size, 0, none⟩ = some (.int .i64 X) := by rw [BP.cell]; rfl
          have p1 : w2.cell? ⟨w.heap.size, 1, none⟩ = some (.int .i64 Y) := by rw [BP.cell]; rfl
          have p2 : w2.cell? ⟨w.heap.size, 2, none⟩ = some (.slice a n cap) := by rw [BP.cell]; rfl
          have z0 : w2.cell? ⟨w.heap.size + 3, 0, none⟩ = some (.int .i64 0) := by rw [BZ.cell]; rfl
          have z1 : w2.cell? ⟨w.heap.size + 3, 1, none⟩ = some (.int .i64 0) := by rw [BZ.cell]; rfl
          have z2 : w2.cell? ⟨w.heap.size + 3, 2, none⟩ = some (.slice none 0 0) := by rw [BZ.cell]; rfl
          have zf := BZ.thaw
          have HBZ := hid BZ
          have HFE := hid FE
          clear BP BQ BB BZ FE hwi hno hRq
          go_wp2
          refine bodyPost_ret (v := .tuple #[.agg #[.int .i64 X, .int .i64 Y, .slice a n cap], .bool false]) ?_ rfl ⟨rfl, HFE.out.put3New (by omega) _ _ _⟩
          exact results_cell_row2 rfl _ _ (w.heap.size + 3) 38 _ (0, 0) _ (.bool false) rfl rfl (show Blk _ _ _ _ from HBZ.out.put3 _ _ _) Try.underlying38 rfl Try.info_plane
      · have g1 : (QX != bw) = true := by simpa using e1
        clear e1
        go_enter Try.func20, Try.ntmps20
        go_wp2_with fail
        rw [← HW.out]
        refine (rwithin_any X Y a n cap lv o bx by' bw bh W ux uy uw uh).mono ?_
        rintro e w1 ⟨rfl, f1⟩
        rw [hwi]
        have BP := O0.fr f1 (fun h => h)
        have BB := O1.fr f1 (fun h => h)
        have BQ := O2.fr f1 (fun h => h)
        have BZ := O3.fr f1 (fun h => h)
        have FE := F0.trans' f1
        have q0 : w1.cell? ⟨w.heap.size + 2, 0, none⟩ = some (.int .i64 QX) := by rw [BQ.cell]; rfl
        have q1 : w1.cell? ⟨w.heap.size + 2, 1, none⟩ = some (.int .i64 QY) := by rw [BQ.cell]; rfl
        have q2 : w1.cell? ⟨w.heap.size + 2, 2, none⟩ = some (.slice a' m cap') := by rw [BQ.cell]; rfl
        clear O0 O1 O2 O3 F0 f1 HW
        go_wp2_with fail
        refine (rright_any QX QY a' m cap' w1).mono ?_
        rintro e w2 ⟨rfl, f2⟩
        rw [hRq]
        replace BP := BP.fr f2 (fun h => h)
        replace BB := BB.fr f2 (fun h => h)
        replace BQ := BQ.fr f2 (fun h => h)
        replace BZ := BZ.fr f2 (fun h => h)
        replace FE := FE.trans' f2
        clear q0 q1 q2 f2
        have q0 : w2.cell? ⟨w.heap.size + 2, 0, none⟩ = some (.int .i64 QX) := by rw [BQ.cell]; rfl
        have q1 : w2.cell? ⟨w.heap.size + 2, 1, none⟩ = some (.int .i64 QY) := by rw [BQ.cell]; rfl
        have q2 : w2.cell? ⟨w.heap.size + 2, 2, none⟩ = some (.slice a' m cap') := by rw [BQ.cell]; rfl
        have b4 : w2.cell? ⟨w.heap.size + 1, 4, none⟩ = some (.int .i64 bw) := by rw [BB.cell]; rfl
        have b5 : w2.cell? ⟨w.heap.size + 1, 5, none⟩ = some (.int .i64 bh) := by rw [BB.cell]; rfl
        have p0 : w2.cell? ⟨w.heap.size, 0, none⟩ = some (.int .i64 X) := by rw [BP.cell]; rfl
        have p1 : w2.cell? ⟨w.heap.size, 1, none⟩ = some (.int .i64 Y) := by rw [BP.cell]; rfl
        have p2 : w2.cell? ⟨w.heap.size, 2, none⟩ = some (.slice a n cap) := by rw [BP.cell]; rfl
        have z0 : w2.cell? ⟨w.heap.size + 3, 0, none⟩ = some (.int .i64 0) := by rw [BZ.cell]; rfl
        have z1 : w2.cell? ⟨w.heap.size + 3, 1, none⟩ = some (.int .i64 0) := by rw [BZ.cell]; rfl
        have z2 : w2.cell? ⟨w.heap.size + 3, 2, none⟩ = some (.slice none 0 0) := by rw [BZ.cell]; rfl
        have zf := BZ.thaw
        have HBZ := hid BZ
        have HFE := hid FE
        clear BP BQ BB BZ FE hwi hno hRq
        go_wp2
        refine bodyPost_ret (v := .tuple #[.agg #[.int .i64 X, .int .i64 Y, .slice a n cap], .bool false]) ?_ rfl ⟨rfl, HFE.out.put3New (by omega) _ _ _⟩
        exact results_cell_row2 rfl _ _ (w.heap.size + 3) 38 _ (0, 0) _ (.bool false) rfl rfl (show Blk _ _ _ _ from HBZ.out.put3 _ _ _) Try.underlying38 rfl Try.info_plane

set_option maxRecDepth 100000 in
set_option maxHeartbeats 4000000 in
theorem rlaid_go (x y : Nat) (a : Option Addr) (n cap : Nat) (V : Nat → Int) (p : Nat) (lv o : Int) (b : BandN) (a' : Option Addr) (m cap' : Nat) (Q : Nat → Int) (p' : Nat) (w : World) (hx : 1 ≤ x) (hx' : x ≤ 1024) (hy : 1 ≤ y) (hy' : y ≤ 1024) (hm : x * y = n) (h : Nums w a n cap V p) (hw1 : 1 ≤ b.w) (hh1 : 1 ≤ b.h) (hbx : b.x + b.w ≤ x) (hby : b.y + b.h ≤ y) (hm2 : b.w * b.h = m) (h' : Nums w a' m cap' Q p') :
    Calls Try.prog 20 #[.agg #[.int .i64 (x : Int), .int .i64 (y : Int), .slice a n cap], .agg #[.int .i64 lv, .int .i64 o, .int .i64 (b.x : Int), .int .i64 (b.y : Int), .int .i64 (b.w : Int), .int .i64 (b.h : Int)], .agg #[.int .i64 (b.w : Int), .int .i64 (b.h : Int), .slice a' m cap']] w fun e w' => ∃ g, e = .returned (.tuple #[.agg #[.int .i64 (x : Int), .int .i64 (y : Int), .slice (some ⟨g, 0, none⟩) n n], .bool true]) ∧ Row w' g n (putF x b V Q) ∧ w.heap.size ≤ g ∧ Fr (fun _ => False) w w' := by
  have hn : n ≤ 1048576 := by rw [← hm]; exact mul_most hx' hy'
  have hR : rightP x y n = true := by rw [← hm]; exact rightP_of hx hx' hy hy'
  have hbw' : b.w ≤ 1024 := by omega
  have hbh' : b.h ≤ 1024 := by omega
  have hRq : rightP b.w b.h m = true := by rw [← hm2]; exact rightP_of hw1 hbw' hh1 hbh'
  have hwi : withinB x y n b.x b.y b.w b.h = true := withinB_iff.2 ⟨hR, by omega, by omega, by omega, by omega, by omega, by omega⟩
  have HSz := hid (fun (w1 : World) (f : Fr (fun _ => False) w w1) => rsized_go x y x y a n cap V p n w1 hx hx' hy hy' hx hx' hy hy' hm hm (h.quiet f))
  have HQN := hid h'
  obtain ⟨W, hW⟩ : ∃ W, W = (((w.alloc (.cells #[.int .i64 (x : Int), .int .i64 (y : Int), .slice a n cap] 38)).alloc (.cells #[.int .i64 lv, .int .i64 o, .int .i64 (b.x : Int), .int .i64 (b.y : Int), .int .i64 (b.w : Int), .int .i64 (b.h : Int)] 31)).alloc (.cells #[.int .i64 (b.w : Int), .int .i64 (b.h : Int), .slice a' m cap'] 38)).alloc (.cells #[.int .i64 0, .int .i64 0, .slice none 0 0] 38) := ⟨_, rfl⟩
  have F0 : Fr (fun _ => False) w W := by rw [hW]; exact ((((Fr.refl _ w).alloc _).alloc _).alloc _).alloc _
  have O0 : Blk W w.heap.size #[.int .i64 (x : Int), .int .i64 (y : Int), .slice a n cap] 38 := by rw [hW]; exact (((Blk.new _ _ _).alloc _).alloc _).alloc _
  have O1 : Blk W (w.heap.size + 1) #[.int .i64 lv, .int .i64 o, .int .i64 (b.x : Int), .int .i64 (b.y : Int), .int .i64 (b.w : Int), .int .i64 (b.h : Int)] 31 := by
    rw [hW]
    have := Blk.new (w.alloc (.cells #[.int .i64 (x : Int), .int .i64 (y : Int), .slice a n cap] 38)) #[.int .i64 lv, .int .i64 o, .int .i64 (b.x : Int), .int .i64 (b.y : Int), .int .i64 (b.w : Int), .int .i64 (b.h : Int)] 31
    simp at this
    exact (this.alloc _).alloc _
  have O2 : Blk W (w.heap.size + 2) #[.int .i64 (b.w : Int), .int .i64 (b.h : Int), .slice a' m cap'] 38 := by
    rw [hW]
    have := Blk.new ((w.alloc (.cells #[.int .i64 (x : Int), .int .i64 (y : Int), .slice a n cap] 38)).alloc (.cells #[.int .i64 lv, .int .i64 o, .int .i64 (b.x : Int), .int .i64 (b.y : Int), .int .i64 (b.w : Int), .int .i64 (b.h : Int)] 31)) #[.int .i64 (b.w : Int), .int .i64 (b.h : Int), .slice a' m cap'] 38
    simp at this
    exact this.alloc _
  have O3 : Blk W (w.heap.size + 3) #[.int .i64 0, .int .i64 0, .slice none 0 0] 38 := by
    rw [hW]
    have := Blk.new (((w.alloc (.cells #[.int .i64 (x : Int), .int .i64 (y : Int), .slice a n cap] 38)).alloc (.cells #[.int .i64 lv, .int .i64 o, .int .i64 (b.x : Int), .int .i64 (b.y : Int), .int .i64 (b.w : Int), .int .i64 (b.h : Int)] 31)).alloc (.cells #[.int .i64 (b.w : Int), .int .i64 (b.h : Int), .slice a' m cap'] 38)) #[.int .i64 0, .int .i64 0, .slice none 0 0] 38
    simpa using this
  have HW := hid hW
  clear hW h h'
  go_enter Try.func20, Try.ntmps20
  go_wp2_with fail
  rw [← HW.out]
  refine (rwithin_any x y a n cap lv o b.x b.y b.w b.h W (by omega) (by omega) (by omega) (by omega)).mono ?_
  rintro e w1 ⟨rfl, f1⟩
  rw [hwi]
  have BP := O0.fr f1 (fun h => h)
  have BB := O1.fr f1 (fun h => h)
  have BQ := O2.fr f1 (fun h => h)
  have BZ := O3.fr f1 (fun h => h)
  have FE := F0.trans' f1
  have q0 : w1.cell? ⟨w.heap.size + 2, 0, none⟩ = some (.int .i64 (b.w : Int)) := by rw [BQ.cell]; rfl
  have q1 : w1.cell? ⟨w.heap.size + 2, 1, none⟩ = some (.int .i64 (b.h : Int)) := by rw [BQ.cell]; rfl
  have q2 : w1.cell? ⟨w.heap.size + 2, 2, none⟩ = some (.slice a' m cap') := by rw [BQ.cell]; rfl
  clear O0 O1 O2 O3 F0 f1 HW
  go_wp2_with fail
  refine (rright_any b.w b.h a' m cap' w1).mono ?_
  rintro e w2 ⟨rfl, f2⟩
  rw [hRq]
  replace BP := BP.fr f2 (fun h => h)
  replace BB := BB.fr f2 (fun h => h)
  replace BQ := BQ.fr f2 (fun h => h)
  replace BZ := BZ.fr f2 (fun h => h)
  replace FE := FE.trans' f2
  clear q0 q1 q2 f2
  have q0 : w2.cell? ⟨w.heap.size + 2, 0, none⟩ = some (.int .i64 (b.w : Int)) := by rw [BQ.cell]; rfl
  have q1 : w2.cell? ⟨w.heap.size + 2, 1, none⟩ = some (.int .i64 (b.h : Int)) := by rw [BQ.cell]; rfl
  have q2 : w2.cell? ⟨w.heap.size + 2, 2, none⟩ = some (.slice a' m cap') := by rw [BQ.cell]; rfl
  have p0 : w2.cell? ⟨w.heap.size, 0, none⟩ = some (.int .i64 (x : Int)) := by rw [BP.cell]; rfl
  have p1 : w2.cell? ⟨w.heap.size, 1, none⟩ = some (.int .i64 (y : Int)) := by rw [BP.cell]; rfl
  have p2 : w2.cell? ⟨w.heap.size, 2, none⟩ = some (.slice a n cap) := by rw [BP.cell]; rfl
  have b4 : w2.cell? ⟨w.heap.size + 1, 4, none⟩ = some (.int .i64 (b.w : Int)) := by rw [BB.cell]; rfl
  have b5 : w2.cell? ⟨w.heap.size + 1, 5, none⟩ = some (.int .i64 (b.h : Int)) := by rw [BB.cell]; rfl
  go_wp2_with fail
  refine (HSz.out w2 FE).mono ?_
  rintro e w3 ⟨g, rfl, r3, lg, f3⟩
  have hgl := r3.lt
  have hs1 := BZ.lt
  have hs2 := f3.size
  replace BP := BP.fr f3 (fun h => h)
  replace BB := BB.fr f3 (fun h => h)
  replace BQ := BQ.fr f3 (fun h => h)
  replace BZ := BZ.fr f3 (fun h => h)
  replace FE := FE.trans' f3
  obtain ⟨W3, hW3⟩ : ∃ W3, W3 = w3.alloc (.cells #[.int .i64 (x : Int), .int .i64 (y : Int), .slice (some ⟨g, 0, none⟩) n n] 38) := ⟨_, rfl⟩
  obtain ⟨br, hbr⟩ : ∃ br, br = w3.heap.size := ⟨_, rfl⟩
  have F3 : Fr (fun _ => False) w W3 := by rw [hW3]; exact FE.alloc _
  have S0 : Blk W3 w.heap.size #[.int .i64 (x : Int), .int .i64 (y : Int), .slice a n cap] 38 := by rw [hW3]; exact BP.alloc _
  have S1 : Blk W3 (w.heap.size + 1) #[.int .i64 lv, .int .i64 o, .int .i64 (b.x : Int), .int .i64 (b.y : Int), .int .i64 (b.w : Int), .int .i64 (b.h : Int)] 31 := by rw [hW3]; exact BB.alloc _
  have S2 : Blk W3 (w.heap.size + 2) #[.int .i64 (b.w : Int), .int .i64 (b.h : Int), .slice a' m cap'] 38 := by rw [hW3]; exact BQ.alloc _
  have S4 : Blk W3 (w.heap.size + 3) #[.int .i64 0, .int .i64 0, .slice none 0 0] 38 := by rw [hW3]; exact BZ.alloc _
  have S3 : Blk W3 br #[.int .i64 (x : Int), .int .i64 (y : Int), .slice (some ⟨g, 0, none⟩) n n] 38 := by rw [hW3, hbr]; exact Blk.new _ _ _
  have R3 : Row W3 g n (flatG x (gridV x V)) := by rw [hW3]; exact (r3.quiet ((Fr.refl _ w3).alloc _)).congr fun j hj => by rw [flatG_grid, sizedV_same (by rw [hm]; exact hj)]
  have hgbr : g < br := by omega
  have hwg : w.heap.size + 3 < g := by omega
  have HC : Hid (∀ wr, Fr (fun j => j = g) W3 wr → (wr.cell? ⟨br, 0, none⟩ = some (.int .i64 (x : Int)) ∧ wr.cell? ⟨br, 1, none⟩ = some (.int .i64 (y : Int)) ∧ wr.cell? ⟨br, 2, none⟩ = some (.slice (some ⟨g, 0, none⟩) n n)) ∧ (wr.cell? ⟨w.heap.size, 0, none⟩ = some (.int .i64 (x : Int)) ∧ wr.cell? ⟨w.heap.size, 1, none⟩ = some (.int .i64 (y : Int)) ∧ wr.cell? ⟨w.heap.size, 2, none⟩ = some (.slice a n cap)) ∧ (wr.cell? ⟨w.heap.size + 1, 0, none⟩ = some (.int .i64 lv) ∧ wr.cell? ⟨w.heap.size + 1, 1, none⟩ = some (.int .i64 o) ∧ wr.cell? ⟨w.heap.size + 1, 2, none⟩ = some (.int .i64 (b.x : Int)) ∧ wr.cell? ⟨w.heap.size + 1, 3, none⟩ = some (.int .i64 (b.y : Int)) ∧ wr.cell? ⟨w.heap.size + 1, 4, none⟩ = some (.int .i64 (b.w : Int)) ∧ wr.cell? ⟨w.heap.size + 1, 5, none⟩ = some (.int .i64 (b.h : Int))) ∧ (wr.cell? ⟨w.heap.size + 2, 0, none⟩ = some (.int .i64 (b.w : Int)) ∧ wr.cell? ⟨w.heap.size + 2, 1, none⟩ = some (.int .i64 (b.h : Int)) ∧ wr.cell? ⟨w.heap.size + 2, 2, none⟩ = some (.slice a' m cap')) ∧ Blk wr (w.heap.size + 3) #[.int .i64 0, .int .i64 0, .slice none 0 0] 38 ∧ Fr (fun _ => False) w wr) := by
    intro wr f
    have T3 := S3.fr f (by omega)
    have T0 := S0.fr f (by omega)
    have T1 := S1.fr f (by omega)
    have T2 := S2.fr f (by omega)
    exact ⟨⟨by rw [T3.cell]; rfl, by rw [T3.cell]; rfl, by rw [T3.cell]; rfl⟩, ⟨by rw [T0.cell]; rfl, by rw [T0.cell]; rfl, by rw [T0.cell]; rfl⟩, ⟨by rw [T1.cell]; rfl, by rw [T1.cell]; rfl, by rw [T1.cell]; rfl, by rw [T1.cell]; rfl, by rw [T1.cell]; rfl, by rw [T1.cell]; rfl⟩, ⟨by rw [T2.cell]; rfl, by rw [T2.cell]; rfl, by rw [T2.cell]; rfl⟩, S4.fr f (by omega), F3.trans f (fun i hi e => by omega)⟩
  have HAt : Hid (∀ wq, Fr (fun j => j = g) W3 wq → ∀ px py : Nat, px < b.w → py < b.h → Calls Try.prog 32 #[.agg #[.int .i64 (b.w : Int), .int .i64 (b.h : Int), .slice a' m cap'], .int .i64 (px : Int), .int .i64 (py : Int)] wq fun e w' => e = .returned (.int .i64 (Q (py * b.w + px))) ∧ Fr (fun _ => False) wq w') := by
    intro wq f px py hpx hpy
    have := rat_go b.w b.h _ m cap' Q p' px py wq hw1 hbw' hh1 hbh' hm2 (by omega) (by omega) (HQN.out.quiet (HC.out wq f).2.2.2.2.2)
    rwa [atP_in hpx hpy] at this
  have HBR := hid hbr
  have HW3 := hid hW3
  have HF3 := hid (Fr.refl (fun j => j = g) W3)
  have HR3 := hid R3
  clear BP BB BQ BZ FE F3 S0 S1 S2 S3 S4 R3 r3 f3 hW3 hbr HQN HSz hs1 hs2 lg p0 p1 p2 q0 q1 q2 b4 b5
  go_wp2
  rw [← HW3.out, ← HBR.out]
  go_loopw [9] (fun i wr => ∃ k : Nat, k ≤ y ∧ i = .int .i64 (k : Int) ∧ Row wr g n (flatG x (layG x k (gridV x V) (putG b (gridV x V) (gridV b.w Q)))) ∧ Fr (fun j => j = g) W3 wr) (fun i _ => y - (intOf i).toNat)
  case atStart => exact ⟨0, Nat.zero_le _, rfl, HR3.out.congr (fun j _ => by unfold flatG; rw [layG_none]), HF3.out⟩
  case round =>
    clear HR3 HF3
    obtain ⟨k, hk, rfl, hrr2, F⟩ := hrel
    by_cases hlt : k < y
    · have hki : (k : Int) < (y : Int) := by omega
      obtain ⟨⟨d0, d1, d2⟩, ⟨c0, c1, c2⟩, ⟨b0, b1, b2, b3, b4, b5⟩, ⟨q0, q1, q2⟩, _, _⟩ := HC.out wr F
      have HR1 := hid hrr2
      have HF1 := hid F
      clear hrr2 F
      go_wp2
      clear d0 d1 d2 c0 c1 c2 b0 b1 b2 b3 b4 b5 q0 q1 q2
      go_loopw [10] (fun i wr => ∃ q : Nat, q ≤ x ∧ i = .int .i64 (q : Int) ∧ Row wr g n (flatG x (rowN x k q (gridV x V) (putG b (gridV x V) (gridV b.w Q)))) ∧ Fr (fun j => j = g) W3 wr) (fun i _ => x - (intOf i).toNat)
      case atStart => exact ⟨0, Nat.zero_le _, rfl, HR1.out.congr (fun j _ => by unfold flatG; rw [rowN_zero]), HF1.out⟩
      case round =>
        clear HR1 HF1
        obtain ⟨q, hq, rfl, hrr2, F⟩ := hrel
        by_cases hlq : q < x
        · have hqi : (q : Int) < (x : Int) := by omega
          obtain ⟨⟨d0, d1, d2⟩, ⟨c0, c1, c2⟩, ⟨b0, b1, b2, b3, b4, b5⟩, ⟨q0, q1, q2⟩, _, _⟩ := HC.out wr F
          obtain ⟨xe, hxe⟩ : ∃ xe, xe = b.x + b.w := ⟨_, rfl⟩
          obtain ⟨ye, hye⟩ : ∃ ye, ye = b.y + b.h := ⟨_, rfl⟩
          have hxeI : (b.x : Int) + (b.w : Int) = (xe : Int) := by omega
          have hyeI : (b.y : Int) + (b.h : Int) = (ye : Int) := by omega
          by_cases j1 : b.x ≤ q
          rotate_left
          · as_aux_lemma =>
            have HNO : Hid (Row wr g n (flatG x (rowN x k (q + 1) (gridV x V) (putG b (gridV x V) (gridV b.w Q))))) := hrr2.congr fun j _ => rowN_skip hlq (putG_out (by rw [← Bool.not_eq_true, inB_iff]; omega)) j
            have g1 : decide ((b.x : Int) ≤ (q : Int)) = false := decide_eq_false (by omega)
            clear hrr2 hxe hye
            go_wp2
            clear d0 d1 d2 c0 c1 c2 b0 b1 b2 b3 b4 b5 q0 q1 q2
            go_roundw
            case rel => exact ⟨q + 1, by omega, by go_num, HNO.out, F⟩
            case measure => simp [intOf]; omega
          by_cases j2 : q < xe
          rotate_left
          · as_aux_lemma =>
            have HNO : Hid (Row wr g n (flatG x (rowN x k (q + 1) (gridV x V) (putG b (gridV x V) (gridV b.w Q))))) := hrr2.congr fun j _ => rowN_skip hlq (putG_out (by rw [← Bool.not_eq_true, inB_iff]; omega)) j
            have g1 : decide ((b.x : Int) ≤ (q : Int)) = true := decide_eq_true (by omega)
            have g2 : decide ((q : Int) < (xe : Int)) = false := decide_eq_false (by omega)
            clear hrr2 hxe hye
            go_wp2
            clear d0 d1 d2 c0 c1 c2 b0 b1 b2 b3 b4 b5 q0 q1 q2
            go_roundw
            case rel => exact ⟨q + 1, by omega, by go_num, HNO.out, F⟩
            case measure => simp [intOf]; omega
          by_cases j3 : b.y ≤ k
          rotate_left
          · as_aux_lemma =>
            have HNO : Hid (Row wr g n (flatG x (rowN x k (q + 1) (gridV x V) (putG b (gridV x V) (gridV b.w Q))))) := hrr2.congr fun j _ => rowN_skip hlq (putG_out (by rw [← Bool.not_eq_true, inB_iff]; omega)) j
            have g1 : decide ((b.x : Int) ≤ (q : Int)) = true := decide_eq_true (by omega)
            have g2 : decide ((q : Int) < (xe : Int)) = true := decide_eq_true (by omega)
            have g3 : decide ((b.y : Int) ≤ (k : Int)) = false := decide_eq_false (by omega)
            clear hrr2 hxe hye
            go_wp2
            clear d0 d1 d2 c0 c1 c2 b0 b1 b2 b3 b4 b5 q0 q1 q2
            go_roundw
            case rel => exact ⟨q + 1, by omega, by go_num, HNO.out, F⟩
            case measure => simp [intOf]; omega
          by_cases j4 : k < ye
          rotate_left
          · as_aux_lemma =>
            have HNO : Hid (Row wr g n (flatG x (rowN x k (q + 1) (gridV x V) (putG b (gridV x V) (gridV b.w Q))))) := hrr2.congr fun j _ => rowN_skip hlq (putG_out (by rw [← Bool.not_eq_true, inB_iff]; omega)) j
            have g1 : decide ((b.x : Int) ≤ (q : Int)) = true := decide_eq_true (by omega)
            have g2 : decide ((q : Int) < (xe : Int)) = true := decide_eq_true (by omega)
            have g3 : decide ((b.y : Int) ≤ (k : Int)) = true := decide_eq_true (by omega)
            have g4 : decide ((k : Int) < (ye : Int)) = false := decide_eq_false (by omega)
            clear hrr2 hxe hye
            go_wp2
            clear d0 d1 d2 c0 c1 c2 b0 b1 b2 b3 b4 b5 q0 q1 q2
            go_roundw
            case rel => exact ⟨q + 1, by omega, by go_num, HNO.out, F⟩
            case measure => simp [intOf]; omega
          as_aux_lemma =>
            have g1 : decide ((b.x : Int) ≤ (q : Int)) = true := decide_eq_true (by omega)
            have g2 : decide ((q : Int) < (xe : Int)) = true := decide_eq_true (by omega)
            have g3 : decide ((b.y : Int) ≤ (k : Int)) = true := decide_eq_true (by omega)
            have g4 : decide ((k : Int) < (ye : Int)) = true := decide_eq_true (by omega)
            have hend := row_end hm hlt
            obtain ⟨s, hs⟩ : ∃ s, s = k * x := ⟨_, rfl⟩
            rw [← hs] at hend
            have hsI : (k : Int) * (x : Int) = (s : Int) := by rw [hs, Int.natCast_mul]
            obtain ⟨i, hi⟩ : ∃ i, i = s + q := ⟨_, rfl⟩
            have hiI : (s : Int) + (q : Int) = (i : Int) := by omega
            have hin : i < n := by omega
            have hinI : (i : Int) < (n : Int) := by omega
            obtain ⟨px, hpx⟩ : ∃ px, px = q - b.x := ⟨_, rfl⟩
            obtain ⟨py, hpy⟩ : ∃ py, py = k - b.y := ⟨_, rfl⟩
            have hpxI : (q : Int) - (b.x : Int) = (px : Int) := by omega
            have hpyI : (k : Int) - (b.y : Int) = (py : Int) := by omega
            have hpxl : px < b.w := by omega
            have hpyl : py < b.h := by omega
            obtain ⟨z, hz⟩ : ∃ z, z = Q (py * b.w + px) := ⟨_, rfl⟩
            have HSET : Hid (∀ j, (if j = i then z else flatG x (rowN x k q (gridV x V) (putG b (gridV x V) (gridV b.w Q))) j) = flatG x (rowN x k (q + 1) (gridV x V) (putG b (gridV x V) (gridV b.w Q))) j) := fun j => by
              have hP : z = (putG b (gridV x V) (gridV b.w Q)) k q := by
                rw [putG_in (inB_iff.2 ⟨⟨j1, by omega⟩, j3, by omega⟩), hz, hpx, hpy]; rfl
              rw [hi, hs, hP]
              exact rowN_set (B := (putG b (gridV x V) (gridV b.w Q))) hlq j
            have HZ : Hid (Q (py * b.w + px) = z) := hz.symm
            have HR := hid hrr2
            clear hrr2 hi hs hz hpx hpy hxe hye
            go_wp2
            clear d0 d1 d2 c0 c1 c2 b0 b1 b2 b3 b4 b5 q0 q1 q2
            refine weaveS 19 [.eq (Value.pointer (some ⟨br, 2, none⟩)), .eq (Value.slice (some ⟨g, 0, none⟩) n n), .eq (Value.int .i64 (k : Int)), .eq (Value.pointer (some ⟨w.heap.size, 0, none⟩)), .eq (Value.int .i64 (x : Int)), .eq (Value.int .i64 (s : Int)), .eq (Value.int .i64 (q : Int)), .eq (Value.int .i64 (i : Int)), .eq (Value.agg #[.int .i64 (b.w : Int), .int .i64 (b.h : Int), .slice a' m cap']), .eq (Value.int .i64 (q : Int)), .eq (Value.pointer (some ⟨w.heap.size + 1, 2, none⟩)), .eq (Value.int .i64 (b.x : Int)), .eq (Value.int .i64 (px : Int)), .eq (Value.int .i64 (k : Int)), .eq (Value.pointer (some ⟨w.heap.size + 1, 3, none⟩)), .eq (Value.int .i64 (b.y : Int)), .eq (Value.int .i64 (py : Int)), .eq (Value.int .i64 z), .eq (Value.pointer (some ⟨g, i, none⟩))] (by kernel_rfl) (by kernel_rfl) ?obls ?tail
            case obls =>
              simp only [List.take_succ_cons, List.take_zero]
              refine ⟨?_, ?_, ?_, ?_, ?_, ?_, ?_, ?_, ?_, ?_, ?_, ?_, ?_, ?_, ?_, ?_, ?_, ?_, ?_, trivial⟩
              · intro vals wq f h
                simp only [fillA, fillT, List.setIfInBounds_toArray, List.set_cons_succ, List.set_cons_zero, Option.getD_some, Nat.zero_add, Nat.reduceAdd]
                have fq := F.trans ((Fr.refl (fun _ => False) _).drew.trans' f) (fun _ _ h => False.elim h)
                obtain ⟨⟨d0, d1, d2⟩, ⟨c0, c1, c2⟩, ⟨b0, b1, b2, b3, b4, b5⟩, ⟨q0, q1, q2⟩, _, _⟩ := HC.out wq fq
                clear h
                go_wp2
                exact ⟨rfl, rfl, _, rfl, Fr.refl _ _, rfl⟩
              · intro vals wq f h
                simp only [fillA, fillT, List.setIfInBounds_toArray, List.set_cons_succ, List.set_cons_zero, Option.getD_some, Nat.zero_add, Nat.reduceAdd]
                have h0 : vals 0 = Value.pointer (some ⟨br, 2, none⟩) := h 0 (by kernel_rfl)
                rw [h0]
                have fq := F.trans ((Fr.refl (fun _ => False) _).drew.trans' f) (fun _ _ h => False.elim h)
                obtain ⟨⟨d0, d1, d2⟩, ⟨c0, c1, c2⟩, ⟨b0, b1, b2, b3, b4, b5⟩, ⟨q0, q1, q2⟩, _, _⟩ := HC.out wq fq
                clear h
                go_wp2
                exact ⟨rfl, rfl, _, rfl, Fr.refl _ _, rfl⟩
              · intro vals wq f h
                simp only [fillA, fillT, List.setIfInBounds_toArray, List.set_cons_succ, List.set_cons_zero, Option.getD_some, Nat.zero_add, Nat.reduceAdd]
                have fq := F.trans ((Fr.refl (fun _ => False) _).drew.trans' f) (fun _ _ h => False.elim h)
                obtain ⟨⟨d0, d1, d2⟩, ⟨c0, c1, c2⟩, ⟨b0, b1, b2, b3, b4, b5⟩, ⟨q0, q1, q2⟩, _, _⟩ := HC.out wq fq
                clear h
                go_wp2
                exact ⟨rfl, rfl, _, rfl, Fr.refl _ _, rfl⟩
              · intro vals wq f h
                simp only [fillA, fillT, List.setIfInBounds_toArray, List.set_cons_succ, List.set_cons_zero, Option.getD_some, Nat.zero_add, Nat.reduceAdd]
                have fq := F.trans ((Fr.refl (fun _ => False) _).drew.trans' f) (fun _ _ h => False.elim h)
                obtain ⟨⟨d0, d1, d2⟩, ⟨c0, c1, c2⟩, ⟨b0, b1, b2, b3, b4, b5⟩, ⟨q0, q1, q2⟩, _, _⟩ := HC.out wq fq
                clear h
                go_wp2
                exact ⟨rfl, rfl, _, rfl, Fr.refl _ _, rfl⟩
              · intro vals wq f h
                simp only [fillA, fillT, List.setIfInBounds_toArray, List.set_cons_succ, List.set_cons_zero, Option.getD_some, Nat.zero_add, Nat.reduceAdd]
                have h3 : vals 3 = Value.pointer (some ⟨w.heap.size, 0, none⟩) := h 3 (by kernel_rfl)
                rw [h3]
                have fq := F.trans ((Fr.refl (fun _ => False) _).drew.trans' f) (fun _ _ h => False.elim h)
                obtain ⟨⟨d0, d1, d2⟩, ⟨c0, c1, c2⟩, ⟨b0, b1, b2, b3, b4, b5⟩, ⟨q0, q1, q2⟩, _, _⟩ := HC.out wq fq
                clear h
                go_wp2
                exact ⟨rfl, rfl, _, rfl, Fr.refl _ _, rfl⟩
              · intro vals wq f h
                simp only [fillA, fillT, List.setIfInBounds_toArray, List.set_cons_succ, List.set_cons_zero, Option.getD_some, Nat.zero_add, Nat.reduceAdd]
                have h2 : vals 2 = Value.int .i64 (k : Int) := h 2 (by kernel_rfl)
                rw [h2]
                have h4 : vals 4 = Value.int .i64 (x : Int) := h 4 (by kernel_rfl)
                rw [h4]
                have fq := F.trans ((Fr.refl (fun _ => False) _).drew.trans' f) (fun _ _ h => False.elim h)
                obtain ⟨⟨d0, d1, d2⟩, ⟨c0, c1, c2⟩, ⟨b0, b1, b2, b3, b4, b5⟩, ⟨q0, q1, q2⟩, _, _⟩ := HC.out wq fq
                clear h
                go_wp2
                exact ⟨rfl, rfl, _, rfl, Fr.refl _ _, rfl⟩
              · intro vals wq f h
                simp only [fillA, fillT, List.setIfInBounds_toArray, List.set_cons_succ, List.set_cons_zero, Option.getD_some, Nat.zero_add, Nat.reduceAdd]
                have fq := F.trans ((Fr.refl (fun _ => False) _).drew.trans' f) (fun _ _ h => False.elim h)
                obtain ⟨⟨d0, d1, d2⟩, ⟨c0, c1, c2⟩, ⟨b0, b1, b2, b3, b4, b5⟩, ⟨q0, q1, q2⟩, _, _⟩ := HC.out wq fq
                clear h
                go_wp2
                exact ⟨rfl, rfl, _, rfl, Fr.refl _ _, rfl⟩
              · intro vals wq f h
                simp only [fillA, fillT, List.setIfInBounds_toArray, List.set_cons_succ, List.set_cons_zero, Option.getD_some, Nat.zero_add, Nat.reduceAdd]
                have h5 : vals 5 = Value.int .i64 (s : Int) := h 5 (by kernel_rfl)
                rw [h5]
                have h6 : vals 6 = Value.int .i64 (q : Int) := h 6 (by kernel_rfl)
                rw [h6]
                have fq := F.trans ((Fr.refl (fun _ => False) _).drew.trans' f) (fun _ _ h => False.elim h)
                obtain ⟨⟨d0, d1, d2⟩, ⟨c0, c1, c2⟩, ⟨b0, b1, b2, b3, b4, b5⟩, ⟨q0, q1, q2⟩, _, _⟩ := HC.out wq fq
                clear h
                go_wp2
                exact ⟨rfl, rfl, _, rfl, Fr.refl _ _, rfl⟩
              · intro vals wq f h
                simp only [fillA, fillT, List.setIfInBounds_toArray, List.set_cons_succ, List.set_cons_zero, Option.getD_some, Nat.zero_add, Nat.reduceAdd]
                have fq := F.trans ((Fr.refl (fun _ => False) _).drew.trans' f) (fun _ _ h => False.elim h)
                obtain ⟨⟨d0, d1, d2⟩, ⟨c0, c1, c2⟩, ⟨b0, b1, b2, b3, b4, b5⟩, ⟨q0, q1, q2⟩, _, _⟩ := HC.out wq fq
                clear h
                go_wp2
                exact ⟨rfl, rfl, _, rfl, Fr.refl _ _, rfl⟩
              · intro vals wq f h
                simp only [fillA, fillT, List.setIfInBounds_toArray, List.set_cons_succ, List.set_cons_zero, Option.getD_some, Nat.zero_add, Nat.reduceAdd]
                have fq := F.trans ((Fr.refl (fun _ => False) _).drew.trans' f) (fun _ _ h => False.elim h)
                obtain ⟨⟨d0, d1, d2⟩, ⟨c0, c1, c2⟩, ⟨b0, b1, b2, b3, b4, b5⟩, ⟨q0, q1, q2⟩, _, _⟩ := HC.out wq fq
                clear h
                go_wp2
                exact ⟨rfl, rfl, _, rfl, Fr.refl _ _, rfl⟩
              · intro vals wq f h
                simp only [fillA, fillT, List.setIfInBounds_toArray, List.set_cons_succ, List.set_cons_zero, Option.getD_some, Nat.zero_add, Nat.reduceAdd]
                have fq := F.trans ((Fr.refl (fun _ => False) _).drew.trans' f) (fun _ _ h => False.elim h)
                obtain ⟨⟨d0, d1, d2⟩, ⟨c0, c1, c2⟩, ⟨b0, b1, b2, b3, b4, b5⟩, ⟨q0, q1, q2⟩, _, _⟩ := HC.out wq fq
                clear h
                go_wp2
                exact ⟨rfl, rfl, _, rfl, Fr.refl _ _, rfl⟩
              · intro vals wq f h
                simp only [fillA, fillT, List.setIfInBounds_toArray, List.set_cons_succ, List.set_cons_zero, Option.getD_some, Nat.zero_add, Nat.reduceAdd]
                have h10 : vals 10 = Value.pointer (some ⟨w.heap.size + 1, 2, none⟩) := h 10 (by kernel_rfl)
                rw [h10]
                have fq := F.trans ((Fr.refl (fun _ => False) _).drew.trans' f) (fun _ _ h => False.elim h)
                obtain ⟨⟨d0, d1, d2⟩, ⟨c0, c1, c2⟩, ⟨b0, b1, b2, b3, b4, b5⟩, ⟨q0, q1, q2⟩, _, _⟩ := HC.out wq fq
                clear h
                go_wp2
                exact ⟨rfl, rfl, _, rfl, Fr.refl _ _, rfl⟩
              · intro vals wq f h
                simp only [fillA, fillT, List.setIfInBounds_toArray, List.set_cons_succ, List.set_cons_zero, Option.getD_some, Nat.zero_add, Nat.reduceAdd]
                have h9 : vals 9 = Value.int .i64 (q : Int) := h 9 (by kernel_rfl)
                rw [h9]
                have h11 : vals 11 = Value.int .i64 (b.x : Int) := h 11 (by kernel_rfl)
                rw [h11]
                have fq := F.trans ((Fr.refl (fun _ => False) _).drew.trans' f) (fun _ _ h => False.elim h)
                obtain ⟨⟨d0, d1, d2⟩, ⟨c0, c1, c2⟩, ⟨b0, b1, b2, b3, b4, b5⟩, ⟨q0, q1, q2⟩, _, _⟩ := HC.out wq fq
                clear h
                go_wp2
                exact ⟨rfl, rfl, _, rfl, Fr.refl _ _, rfl⟩
              · intro vals wq f h
                simp only [fillA, fillT, List.setIfInBounds_toArray, List.set_cons_succ, List.set_cons_zero, Option.getD_some, Nat.zero_add, Nat.reduceAdd]
                have fq := F.trans ((Fr.refl (fun _ => False) _).drew.trans' f) (fun _ _ h => False.elim h)
                obtain ⟨⟨d0, d1, d2⟩, ⟨c0, c1, c2⟩, ⟨b0, b1, b2, b3, b4, b5⟩, ⟨q0, q1, q2⟩, _, _⟩ := HC.out wq fq
                clear h
                go_wp2
                exact ⟨rfl, rfl, _, rfl, Fr.refl _ _, rfl⟩
              · intro vals wq f h
                simp only [fillA, fillT, List.setIfInBounds_toArray, List.set_cons_succ, List.set_cons_zero, Option.getD_some, Nat.zero_add, Nat.reduceAdd]
                have fq := F.trans ((Fr.refl (fun _ => False) _).drew.trans' f) (fun _ _ h => False.elim h)
                obtain ⟨⟨d0, d1, d2⟩, ⟨c0, c1, c2⟩, ⟨b0, b1, b2, b3, b4, b5⟩, ⟨q0, q1, q2⟩, _, _⟩ := HC.out wq fq
                clear h
                go_wp2
                exact ⟨rfl, rfl, _, rfl, Fr.refl _ _, rfl⟩
              · intro vals wq f h
                simp only [fillA, fillT, List.setIfInBounds_toArray, List.set_cons_succ, List.set_cons_zero, Option.getD_some, Nat.zero_add, Nat.reduceAdd]
                have h14 : vals 14 = Value.pointer (some ⟨w.heap.size + 1, 3, none⟩) := h 14 (by kernel_rfl)
                rw [h14]
                have fq := F.trans ((Fr.refl (fun _ => False) _).drew.trans' f) (fun _ _ h => False.elim h)
                obtain ⟨⟨d0, d1, d2⟩, ⟨c0, c1, c2⟩, ⟨b0, b1, b2, b3, b4, b5⟩, ⟨q0, q1, q2⟩, _, _⟩ := HC.out wq fq
                clear h
                go_wp2
                exact ⟨rfl, rfl, _, rfl, Fr.refl _ _, rfl⟩
              · intro vals wq f h
                simp only [fillA, fillT, List.setIfInBounds_toArray, List.set_cons_succ, List.set_cons_zero, Option.getD_some, Nat.zero_add, Nat.reduceAdd]
                have h13 : vals 13 = Value.int .i64 (k : Int) := h 13 (by kernel_rfl)
                rw [h13]
                have h15 : vals 15 = Value.int .i64 (b.y : Int) := h 15 (by kernel_rfl)
                rw [h15]
                have fq := F.trans ((Fr.refl (fun _ => False) _).drew.trans' f) (fun _ _ h => False.elim h)
                obtain ⟨⟨d0, d1, d2⟩, ⟨c0, c1, c2⟩, ⟨b0, b1, b2, b3, b4, b5⟩, ⟨q0, q1, q2⟩, _, _⟩ := HC.out wq fq
                clear h
                go_wp2
                exact ⟨rfl, rfl, _, rfl, Fr.refl _ _, rfl⟩
              · intro vals wq f h
                simp only [fillA, fillT, List.setIfInBounds_toArray, List.set_cons_succ, List.set_cons_zero, Option.getD_some, Nat.zero_add, Nat.reduceAdd]
                have h8 : vals 8 = Value.agg #[.int .i64 (b.w : Int), .int .i64 (b.h : Int), .slice a' m cap'] := h 8 (by kernel_rfl)
                rw [h8]
                have h12 : vals 12 = Value.int .i64 (px : Int) := h 12 (by kernel_rfl)
                rw [h12]
                have h16 : vals 16 = Value.int .i64 (py : Int) := h 16 (by kernel_rfl)
                rw [h16]
                have fq := F.trans ((Fr.refl (fun _ => False) _).drew.trans' f) (fun _ _ h => False.elim h)
                obtain ⟨⟨d0, d1, d2⟩, ⟨c0, c1, c2⟩, ⟨b0, b1, b2, b3, b4, b5⟩, ⟨q0, q1, q2⟩, _, _⟩ := HC.out wq fq
                clear h
                go_wp2_with fail
                refine (HAt.out wq fq px py (by omega) (by omega)).mono ?_
                rintro e w6 ⟨rfl, f6⟩
                rw [HZ.out]
                go_wp2
                exact ⟨rfl, rfl, _, rfl, f6, rfl⟩
              · intro vals wq f h
                simp only [fillA, fillT, List.setIfInBounds_toArray, List.set_cons_succ, List.set_cons_zero, Option.getD_some, Nat.zero_add, Nat.reduceAdd]
                have h1 : vals 1 = Value.slice (some ⟨g, 0, none⟩) n n := h 1 (by kernel_rfl)
                rw [h1]
                have h7 : vals 7 = Value.int .i64 (i : Int) := h 7 (by kernel_rfl)
                rw [h7]
                have fq := F.trans ((Fr.refl (fun _ => False) _).drew.trans' f) (fun _ _ h => False.elim h)
                obtain ⟨⟨d0, d1, d2⟩, ⟨c0, c1, c2⟩, ⟨b0, b1, b2, b3, b4, b5⟩, ⟨q0, q1, q2⟩, _, _⟩ := HC.out wq fq
                clear h
                go_wp2
                exact ⟨rfl, rfl, _, rfl, Fr.refl _ _, rfl⟩
            case tail =>
              intro vals wq f h
              simp only [List.take_succ_cons, List.take_zero, fillA, fillT, List.setIfInBounds_toArray, List.set_cons_succ, List.set_cons_zero, List.drop_succ_cons, List.drop_zero, Nat.zero_add, Nat.reduceAdd]
              have h17 : vals 17 = Value.int .i64 z := h 17 (by omega)
              rw [h17]
              have h18 : vals 18 = Value.pointer (some ⟨g, i, none⟩) := h 18 (by omega)
              rw [h18]
              have F7 := F.trans ((Fr.refl (fun _ => False) _).drew.trans' f) (fun _ _ h => False.elim h)
              have r7 := HR.out.quiet ((Fr.refl (fun _ => False) _).drew.trans' f)
              have ck := r7.cell hin
              have cf := r7.thaw i
              have HR7 := hid r7
              generalize flatG x (rowN x k q (gridV x V) (putG b (gridV x V) (gridV b.w Q))) i = old at ck
              clear h h17 h18 r7
              gi_wp2
              go_wp2
              go_roundw
              case rel => exact ⟨q + 1, by omega, by go_num, (HR7.out.set i z).congr fun j _ => HSET.out j, F7.setCell (p := ⟨g, i, none⟩) (fun _ => rfl) _⟩
              case measure => simp [intOf]; omega
        · have hqi : ¬ (q : Int) < (x : Int) := by omega
          have hqe : q = x := by omega
          obtain ⟨⟨d0, d1, d2⟩, ⟨c0, c1, c2⟩, ⟨b0, b1, b2, b3, b4, b5⟩, ⟨q0, q1, q2⟩, _, _⟩ := HC.out wr F
          have HR := hid (hrr2.congr (V' := flatG x (layG x (k + 1) (gridV x V) (putG b (gridV x V) (gridV b.w Q)))) (fun j _ => by unfold flatG; rw [hqe, rowN_end]))
          clear hrr2 hqe
          go_wp2
          go_roundw
          case rel => exact ⟨k + 1, by omega, by go_num, HR.out, F⟩
          case measure => simp [intOf]; omega
    · have hki : ¬ (k : Int) < (y : Int) := by omega
      have hke : k = y := by omega
      have HR := hid (hrr2.congr (V' := putF x b V Q) fun j hj => by
        unfold putF flatG
        rw [hke, layG_in (col_lt (by rw [hm]; exact hj)) (row_lt (by rw [hm]; exact hj))])
      clear hke
      obtain ⟨⟨d0, d1, d2⟩, ⟨c0, c1, c2⟩, ⟨b0, b1, b2, b3, b4, b5⟩, ⟨q0, q1, q2⟩, BZ, FE⟩ := HC.out wr F
      have z0 : wr.cell? ⟨w.heap.size + 3, 0, none⟩ = some (.int .i64 0) := by rw [BZ.cell]; rfl
      have z1 : wr.cell? ⟨w.heap.size + 3, 1, none⟩ = some (.int .i64 0) := by rw [BZ.cell]; rfl
      have z2 : wr.cell? ⟨w.heap.size + 3, 2, none⟩ = some (.slice none 0 0) := by rw [BZ.cell]; rfl
      have zf := BZ.thaw
      have HBZ := hid BZ
      have HFE := hid FE
      clear BZ FE hrr2 F
      go_wp2
      refine bodyPost_ret (v := .tuple #[.agg #[.int .i64 (x : Int), .int .i64 (y : Int), .slice (some ⟨g, 0, none⟩) n n], .bool true]) ?_ rfl ⟨g, rfl, HR.out.fr (fr_put3 _ _ _ _ _) (by omega), by omega, HFE.out.put3New (by omega) _ _ _⟩
      exact results_cell_row2 rfl _ _ (w.heap.size + 3) 38 _ (0, 0) _ (.bool true) rfl rfl (show Blk _ _ _ _ from HBZ.out.put3 _ _ _) Try.underlying38 rfl Try.info_plane
end Go.Proofs.Ytgmainbgliejhaa
