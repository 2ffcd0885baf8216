/-
  The document's answer for layer 7: right planes, noughts, like planes, sums, clipped planes.
-/
import Derived.Test.YthhhecdnnbgddaaPlaneK
import Derived.Test.YthhhecdnnbgddaaWeaveP
namespace Go.Proofs.Ythhhecdnnbgddaa
open Go.RowKit

theorem rright_any (X Y : Int) (a : Option Addr) (n cap : Nat) (w : World) :
    Calls Try.prog 16 #[.agg #[.int .i64 X, .int .i64 Y, .slice a n cap]] w fun e w' => e = .returned (.bool (rightP X Y n)) ∧ Fr (fun _ => False) w w' := by
  by_cases h0 : 1 ≤ X
  rotate_left
  · have g0 : decide (1 ≤ X) = false := decide_eq_false h0
    have HR : Hid (rightP X Y n = false) := by show _ = _; rw [← Bool.not_eq_true, rightP_iff]; omega
    go_enter Try.func16, Try.ntmps16
    go_wp2
    go_ret
    exact ⟨ret_bool HR.out.symm, (Fr.refl _ w).alloc _⟩
  by_cases h1 : X ≤ 1024
  rotate_left
  · have g1 : decide (X ≤ 1024) = false := decide_eq_false h1
    have g0 : decide (1 ≤ X) = true := decide_eq_true h0
    have HR : Hid (rightP X Y n = false) := by show _ = _; rw [← Bool.not_eq_true, rightP_iff]; omega
    go_enter Try.func16, Try.ntmps16
    go_wp2
    go_ret
    exact ⟨ret_bool HR.out.symm, (Fr.refl _ w).alloc _⟩
  by_cases h2 : 1 ≤ Y
  rotate_left
  · have g2 : decide (1 ≤ Y) = false := decide_eq_false h2
    have g0 : decide (1 ≤ X) = true := decide_eq_true h0
    have g1 : decide (X ≤ 1024) = true := decide_eq_true h1
    have HR : Hid (rightP X Y n = false) := by show _ = _; rw [← Bool.not_eq_true, rightP_iff]; omega
    go_enter Try.func16, Try.ntmps16
    go_wp2
    go_ret
    exact ⟨ret_bool HR.out.symm, (Fr.refl _ w).alloc _⟩
  by_cases h3 : Y ≤ 1024
  rotate_left
  · have g3 : decide (Y ≤ 1024) = false := decide_eq_false h3
    have g0 : decide (1 ≤ X) = true := decide_eq_true h0
    have g1 : decide (X ≤ 1024) = true := decide_eq_true h1
    have g2 : decide (1 ≤ Y) = true := decide_eq_true h2
    have HR : Hid (rightP X Y n = false) := by show _ = _; rw [← Bool.not_eq_true, rightP_iff]; omega
    go_enter Try.func16, Try.ntmps16
    go_wp2
    go_ret
    exact ⟨ret_bool HR.out.symm, (Fr.refl _ w).alloc _⟩
  obtain ⟨x, y, rfl, rfl⟩ : ∃ x y : Nat, X = (x : Int) ∧ Y = (y : Int) := ⟨X.toNat, Y.toNat, by omega, by omega⟩
  have HR : Hid (rightP x y n = decide ((n : Int) = ((x * y : Nat) : Int))) := by
    show _ = _
    rw [Bool.eq_iff_iff, rightP_iff, decide_eq_true_iff, Int.natCast_mul]
    exact ⟨fun h => h.2.2, fun h => ⟨⟨h0, h1⟩, ⟨h2, h3⟩, h⟩⟩
  have hm := mul_most (x := x) (y := y) (by omega) (by omega)
  obtain ⟨m, hxy⟩ : ∃ m : Nat, x * y = m := ⟨_, rfl⟩
  rw [hxy] at HR hm
  have hI : (x : Int) * (y : Int) = (m : Int) := by rw [← hxy, Int.natCast_mul]
  clear hxy
  go_enter Try.func16, Try.ntmps16
  go_wp2
  go_ret
  exact ⟨ret_bool (by rw [HR.out]; first | rfl | simp | (apply decide_eq_decide.2; omega)), (Fr.refl _ w).alloc _⟩

theorem rnew_go (x y : Nat) (hx : 1 ≤ x) (hx' : x ≤ 1024) (hy : 1 ≤ y) (hy' : y ≤ 1024) (w : World) :
    Calls Try.prog 28 #[.int .i64 (x : Int), .int .i64 (y : Int)] w fun e w' => ∃ g, e = .returned (.agg #[.int .i64 (x : Int), .int .i64 (y : Int), .slice (some ⟨g, 0, none⟩) (x * y) (x * y)]) ∧ Row w' g (x * y) (fun _ => 0) ∧ w.heap.size ≤ g ∧ Fr (fun _ => False) w w' := by
  have hm := mul_most hx' hy'
  have e0 : decide ((x : Int) < 1) = false := decide_eq_false (by omega)
  have e1 : decide ((1024 : Int) < (x : Int)) = false := decide_eq_false (by omega)
  have e2 : decide ((y : Int) < 1) = false := decide_eq_false (by omega)
  have e3 : decide ((1024 : Int) < (y : Int)) = false := decide_eq_false (by omega)
  obtain ⟨m, hxy⟩ : ∃ m : Nat, x * y = m := ⟨_, rfl⟩
  rw [hxy] at hm ⊢
  have hI : (x : Int) * (y : Int) = (m : Int) := by rw [← hxy, Int.natCast_mul]
  clear hxy
  have hmk : ∀ w : World, (Instr.makeSlice 22 (.int .i64 (m : Int)) (.int .i64 (m : Int))).run Try.prog w = .ok (.slice (some ⟨w.heap.size, 0, none⟩) m m) (w.alloc (.cells (madeCells #[.int .i64 0] m) 3)) := run_make_row' (P := Try.prog) 22 3 (.int .i64 0) 8 Try.underlying22 Try.info_int rfl .i64 .i64 m (by omega) (by omega)
  go_enter Try.func28, Try.ntmps28
  go_wp2
  refine bodyPost_ret (v := .agg #[.int .i64 (x : Int), .int .i64 (y : Int), .slice (some ⟨w.heap.size + 1, 0, none⟩) m m]) ?_ rfl ⟨w.heap.size + 1, rfl, ?_, by omega, ?_⟩
  · exact results_cell_row rfl _ _ w.heap.size 24 _ (0, 0) _ rfl (show Blk _ _ _ _ from (Blk.new w _ _).alloc _) Try.underlying24 rfl Try.info_plane
  · simpa using Row.made (w.alloc (Obj.cells #[.int .i64 (x : Int), .int .i64 (y : Int), .slice (some ⟨w.heap.size + 1, 0, none⟩) m m] 24)) m
  · exact ((Fr.refl _ w).alloc _).alloc _

theorem rlike_any (X Y : Int) (a : Option Addr) (n cap : Nat) (X' Y' : Int) (a' : Option Addr) (n' cap' : Nat) (w : World) :
    Calls Try.prog 15 #[.agg #[.int .i64 X, .int .i64 Y, .slice a n cap], .agg #[.int .i64 X', .int .i64 Y', .slice a' n' cap']] w fun e w' => e = .returned (.bool (likeP X Y n X' Y' n')) ∧ Fr (fun _ => False) w w' := by
  obtain ⟨W, hW⟩ : ∃ W, W = ((w.alloc (.cells #[.int .i64 X, .int .i64 Y, .slice a n cap] 24)).alloc (.cells #[.int .i64 X', .int .i64 Y', .slice a' n' cap'] 24)) := ⟨_, rfl⟩
  have F0 : Fr (fun _ => False) w W := by rw [hW]; exact (((Fr.refl _ w).alloc _).alloc _)
  have hsz : W.heap.size = w.heap.size + 2 := by rw [hW]; simp
  have O0 : Blk W w.heap.size #[.int .i64 X, .int .i64 Y, .slice a n cap] 24 := by
    rw [hW]
    have := Blk.new (w) #[.int .i64 X, .int .i64 Y, .slice a n cap] 24
    first | exact (this.alloc _) | (simp at this; exact (this.alloc _))
  have O1 : Blk W (w.heap.size + 1) #[.int .i64 X', .int .i64 Y', .slice a' n' cap'] 24 := by
    rw [hW]
    have := Blk.new ((w.alloc (.cells #[.int .i64 X, .int .i64 Y, .slice a n cap] 24))) #[.int .i64 X', .int .i64 Y', .slice a' n' cap'] 24
    first | exact this | (simp at this; exact this)
  have HW := hid hW
  clear hW
  cases h1 : rightP X Y n with
  | false =>
    have HR : Hid (likeP X Y n X' Y' n' = false) := by show _ = _; simp [likeP, h1]
    go_enter Try.func15, Try.ntmps15
    go_wp2_with fail
    rw [← HW.out]
    refine (rright_any X Y _ n cap W).mono ?_
    rintro e w1 ⟨rfl, f1⟩
    rw [h1]
    go_wp2
    go_ret
    exact ⟨ret_bool HR.out.symm, F0.trans' f1⟩
  | true =>
    cases h2 : rightP X' Y' n' with
    | false =>
      have HR : Hid (likeP X Y n X' Y' n' = false) := by show _ = _; simp [likeP, h2]
      go_enter Try.func15, Try.ntmps15
      go_wp2_with fail
      rw [← HW.out]
      refine (rright_any X Y _ n cap W).mono ?_
      rintro e w1 ⟨rfl, f1⟩
      rw [h1]
      have O1' := O1.fr f1 (fun h => h)
      have d0 : w1.cell? ⟨w.heap.size + 1, 0, none⟩ = some (.int .i64 X') := by rw [O1'.cell]; rfl
      have d1 : w1.cell? ⟨w.heap.size + 1, 1, none⟩ = some (.int .i64 Y') := by rw [O1'.cell]; rfl
      have d2 : w1.cell? ⟨w.heap.size + 1, 2, none⟩ = some (.slice a' n' cap') := by rw [O1'.cell]; rfl
      clear O0 O1 O1'
      go_wp2_with fail
      refine (rright_any X' Y' _ n' cap' w1).mono ?_
      rintro e w2 ⟨rfl, f2⟩
      rw [h2]
      go_wp2
      go_ret
      exact ⟨ret_bool HR.out.symm, (F0.trans' f1).trans' f2⟩
    | true =>
      have HR : Hid (likeP X Y n X' Y' n' = (decide (X = X') && decide (Y = Y'))) := by show _ = _; simp [likeP, h1, h2]
      by_cases hX : X = X'
      rotate_left
      · have hXd : (X == X') = false := by simpa using hX
        have HR2 : Hid (likeP X Y n X' Y' n' = false) := by show _ = _; rw [HR.out]; simp [hX]
        clear hX
        go_enter Try.func15, Try.ntmps15
        go_wp2_with fail
        rw [← HW.out]
        refine (rright_any X Y _ n cap W).mono ?_
        rintro e w1 ⟨rfl, f1⟩
        rw [h1]
        have O1' := O1.fr f1 (fun h => h)
        have d0 : w1.cell? ⟨w.heap.size + 1, 0, none⟩ = some (.int .i64 X') := by rw [O1'.cell]; rfl
        have d1 : w1.cell? ⟨w.heap.size + 1, 1, none⟩ = some (.int .i64 Y') := by rw [O1'.cell]; rfl
        have d2 : w1.cell? ⟨w.heap.size + 1, 2, none⟩ = some (.slice a' n' cap') := by rw [O1'.cell]; rfl
        go_wp2_with fail
        refine (rright_any X' Y' _ n' cap' w1).mono ?_
        rintro e w2 ⟨rfl, f2⟩
        rw [h2]
        have O0'' := (O0.fr f1 (fun h => h)).fr f2 (fun h => h)
        have O1'' := O1'.fr f2 (fun h => h)
        have g0 : w2.cell? ⟨w.heap.size, 0, none⟩ = some (.int .i64 X) := by rw [O0''.cell]; rfl
        have g1 : w2.cell? ⟨w.heap.size, 1, none⟩ = some (.int .i64 Y) := by rw [O0''.cell]; rfl
        have g2 : w2.cell? ⟨w.heap.size + 1, 0, none⟩ = some (.int .i64 X') := by rw [O1''.cell]; rfl
        have g3 : w2.cell? ⟨w.heap.size + 1, 1, none⟩ = some (.int .i64 Y') := by rw [O1''.cell]; rfl
        clear O0 O1 O1' O0'' O1'' d0 d1 d2
        go_wp2
        go_ret
        exact ⟨ret_bool HR2.out.symm, (F0.trans' f1).trans' f2⟩
      · have hXd : (X == X') = true := by simpa using hX
        have HR2 : Hid (likeP X Y n X' Y' n' = (Y == Y')) := by show _ = _; rw [HR.out]; simp [hX]; rfl
        clear hX
        go_enter Try.func15, Try.ntmps15
        go_wp2_with fail
        rw [← HW.out]
        refine (rright_any X Y _ n cap W).mono ?_
        rintro e w1 ⟨rfl, f1⟩
        rw [h1]
        have O1' := O1.fr f1 (fun h => h)
        have d0 : w1.cell? ⟨w.heap.size + 1, 0, none⟩ = some (.int .i64 X') := by rw [O1'.cell]; rfl
        have d1 : w1.cell? ⟨w.heap.size + 1, 1, none⟩ = some (.int .i64 Y') := by rw [O1'.cell]; rfl
        have d2 : w1.cell? ⟨w.heap.size + 1, 2, none⟩ = some (.slice a' n' cap') := by rw [O1'.cell]; rfl
        go_wp2_with fail
        refine (rright_any X' Y' _ n' cap' w1).mono ?_
        rintro e w2 ⟨rfl, f2⟩
        rw [h2]
        have O0'' := (O0.fr f1 (fun h => h)).fr f2 (fun h => h)
        have O1'' := O1'.fr f2 (fun h => h)
        have g0 : w2.cell? ⟨w.heap.size, 0, none⟩ = some (.int .i64 X) := by rw [O0''.cell]; rfl
        have g1 : w2.cell? ⟨w.heap.size, 1, none⟩ = some (.int .i64 Y) := by rw [O0''.cell]; rfl
        have g2 : w2.cell? ⟨w.heap.size + 1, 0, none⟩ = some (.int .i64 X') := by rw [O1''.cell]; rfl
        have g3 : w2.cell? ⟨w.heap.size + 1, 1, none⟩ = some (.int .i64 Y') := by rw [O1''.cell]; rfl
        clear O0 O1 O1' O0'' O1'' d0 d1 d2
        go_wp2
        go_ret
        exact ⟨ret_bool HR2.out.symm, (F0.trans' f1).trans' f2⟩

set_option maxHeartbeats 2000000 in
theorem rsum_go (x y : Nat) (a : Option Addr) (cap : Nat) (V : Nat → Int) (b : Nat) (a' : Option Addr) (cap' : Nat) (V' : Nat → Int) (b' : Nat) (kk : Int) (w : World) (hx : 1 ≤ x) (hx' : x ≤ 1024) (hy : 1 ≤ y) (hy' : y ≤ 1024) (h : Nums w a (x * y) cap V b) (h' : Nums w a' (x * y) cap' V' b') :
    Calls Try.prog 10 #[.agg #[.int .i64 (x : Int), .int .i64 (y : Int), .slice a (x * y) cap], .agg #[.int .i64 (x : Int), .int .i64 (y : Int), .slice a' (x * y) cap'], .int .i64 kk] w fun e w' => Made w w' e x y (x * y) (fun j => wrap64 (V j + wrap64 (kk * V' j))) := by
  have hm := mul_most hx' hy'
  have hR := rightP_of hx hx' hy hy'
  have hL : likeP (x : Int) (y : Int) (x * y) (x : Int) (y : Int) (x * y) = true := by simp [likeP, hR]
  have hpos : 0 < x * y := Nat.mul_pos (by omega) (by omega)
  have HNew := hid (fun w => rnew_go x y hx hx' hy hy' w)
  have hb := h.lt hpos
  have hb' := h'.lt hpos
  obtain ⟨off, rfl, hc⟩ := h.at' hpos
  obtain ⟨off', rfl, hc'⟩ := h'.at' hpos
  obtain ⟨m, hxy⟩ : ∃ m : Nat, x * y = m := ⟨_, rfl⟩
  rw [hxy] at hm hL hpos HNew hc hc' h h' ⊢
  clear hxy hR hx hx' hy hy' h h'
  have HC := hid hc
  have HC' := hid hc'
  clear hc hc'
  obtain ⟨W, hW⟩ : ∃ W, W = ((w.alloc (.cells #[.int .i64 (x : Int), .int .i64 (y : Int), .slice (some ⟨b, off, none⟩) m cap] 24)).alloc (.cells #[.int .i64 (x : Int), .int .i64 (y : Int), .slice (some ⟨b', off', none⟩) m cap'] 24)).alloc (.cells #[.int .i64 0, .int .i64 0, .slice none 0 0] 24) := ⟨_, rfl⟩
  have F0 : Fr (fun _ => False) w W := by rw [hW]; exact (((Fr.refl _ w).alloc _).alloc _).alloc _
  have hsz : W.heap.size = w.heap.size + 3 := by rw [hW]; simp
  have O0 : Blk W w.heap.size #[.int .i64 (x : Int), .int .i64 (y : Int), .slice (some ⟨b, off, none⟩) m cap] 24 := by rw [hW]; exact ((Blk.new _ _ _).alloc _).alloc _
  have O1 : Blk W (w.heap.size + 1) #[.int .i64 (x : Int), .int .i64 (y : Int), .slice (some ⟨b', off', none⟩) m cap'] 24 := by
    rw [hW]
    have := Blk.new (w.alloc (.cells #[.int .i64 (x : Int), .int .i64 (y : Int), .slice (some ⟨b, off, none⟩) m cap] 24)) #[.int .i64 (x : Int), .int .i64 (y : Int), .slice (some ⟨b', off', none⟩) m cap'] 24
    simp at this
    exact this.alloc _
  have O2 : Blk W (w.heap.size + 2) #[.int .i64 0, .int .i64 0, .slice none 0 0] 24 := by
    rw [hW]
    have := Blk.new ((w.alloc (.cells #[.int .i64 (x : Int), .int .i64 (y : Int), .slice (some ⟨b, off, none⟩) m cap] 24)).alloc (.cells #[.int .i64 (x : Int), .int .i64 (y : Int), .slice (some ⟨b', off', none⟩) m cap'] 24)) #[.int .i64 0, .int .i64 0, .slice none 0 0] 24
    simpa using this
  have HW := hid hW
  clear hW
  go_enter Try.func10, Try.ntmps10
  go_wp2_with fail
  rw [← HW.out]
  refine (rlike_any x y _ m cap x y _ m cap' W).mono ?_
  rintro e w1 ⟨rfl, f1⟩
  rw [hL]
  have P0 := O0.fr f1 (fun h => h)
  have P1 := O1.fr f1 (fun h => h)
  have P2 := O2.fr f1 (fun h => h)
  have F1 := F0.trans' f1
  have s1 := f1.size
  clear O0 O1 O2 F0 f1 HW
  have c0 : w1.cell? ⟨w.heap.size, 0, none⟩ = some (.int .i64 (x : Int)) := by rw [P0.cell]; rfl
  have c1 : w1.cell? ⟨w.heap.size, 1, none⟩ = some (.int .i64 (y : Int)) := by rw [P0.cell]; rfl
  go_wp2_with fail
  refine (HNew.out w1).mono ?_
  rintro e w2 ⟨g, rfl, hrow, hg, f2⟩
  have hgl := hrow.lt
  have Q0 := P0.fr f2 (fun h => h)
  have Q1 := P1.fr f2 (fun h => h)
  have Q2 := P2.fr f2 (fun h => h)
  have F2 := F1.trans' f2
  clear P0 P1 P2 F1 f2 c0 c1 HNew
  obtain ⟨W3, hW3⟩ : ∃ W3, W3 = w2.alloc (.cells #[.int .i64 (x : Int), .int .i64 (y : Int), .slice (some ⟨g, 0, none⟩) m m] 24) := ⟨_, rfl⟩
  have F3 : Fr (fun _ => False) w W3 := by rw [hW3]; exact F2.alloc _
  have r3 : Row W3 g m (fun _ => 0) := by rw [hW3]; exact hrow.quiet ((Fr.refl _ w2).alloc _)
  have R0 : Blk W3 w.heap.size #[.int .i64 (x : Int), .int .i64 (y : Int), .slice (some ⟨b, off, none⟩) m cap] 24 := by rw [hW3]; exact Q0.alloc _
  have R1 : Blk W3 (w.heap.size + 1) #[.int .i64 (x : Int), .int .i64 (y : Int), .slice (some ⟨b', off', none⟩) m cap'] 24 := by rw [hW3]; exact Q1.alloc _
  have R2 : Blk W3 (w.heap.size + 2) #[.int .i64 0, .int .i64 0, .slice none 0 0] 24 := by rw [hW3]; exact Q2.alloc _
  have R3 : Blk W3 w2.heap.size #[.int .i64 (x : Int), .int .i64 (y : Int), .slice (some ⟨g, 0, none⟩) m m] 24 := by rw [hW3]; exact Blk.new _ _ _
  have HW3 := hid hW3
  clear hW3 Q0 Q1 Q2 F2 hrow
  have HK : Hid (∀ wr k, Fr (fun j => j = g) W3 wr → k < m → wr.cell? ⟨w.heap.size + 1, 2, none⟩ = some (.slice (some ⟨b', off', none⟩) m cap') ∧ wr.cell? ⟨w2.heap.size, 2, none⟩ = some (.slice (some ⟨g, 0, none⟩) m m) ∧ wr.cell? ⟨b, off + k, none⟩ = some (.int .i64 (V k)) ∧ wr.cell? ⟨b', off' + k, none⟩ = some (.int .i64 (V' k)) ∧ wr.cell? ⟨w.heap.size, 2, none⟩ = some (.slice (some ⟨b, off, none⟩) m cap)) := by
    intro wr k f hk
    have e1 := HC.out k hk
    have e2 := HC'.out k hk
    have e3 := (F3.cell (p := ⟨b, off + k, none⟩) (cell_lt e1) (fun h => h)).trans e1
    have e4 := (F3.cell (p := ⟨b', off' + k, none⟩) (cell_lt e2) (fun h => h)).trans e2
    refine ⟨by rw [(R1.fr f (by omega)).cell]; rfl, by rw [(R3.fr f (by omega)).cell]; rfl, (f.cell (p := ⟨b, off + k, none⟩) (cell_lt e3) (by show ¬ b = g; omega)).trans e3, (f.cell (p := ⟨b', off' + k, none⟩) (cell_lt e4) (by show ¬ b' = g; omega)).trans e4, by rw [(R0.fr f (by omega)).cell]; rfl⟩
  have HE : Hid (∀ wr, Fr (fun j => j = g) W3 wr → Blk wr (w.heap.size + 2) #[.int .i64 0, .int .i64 0, .slice none 0 0] 24 ∧ Blk wr w2.heap.size #[.int .i64 (x : Int), .int .i64 (y : Int), .slice (some ⟨g, 0, none⟩) m m] 24) := fun wr f => ⟨R2.fr f (by omega), R3.fr f (by omega)⟩
  have d0 : W3.cell? ⟨w.heap.size, 2, none⟩ = some (.slice (some ⟨b, off, none⟩) m cap) := by rw [R0.cell]; rfl
  clear R0 R1 R2 R3 HC HC'
  rw [HW3.out] at d0
  go_wp2
  rw [← HW3.out]
  go_loopw [22] (fun i wr => ∃ k : Nat, k ≤ m ∧ i = .int .i64 (k : Int) ∧ Row wr g m (fun j => if j < k then wrap64 (V j + wrap64 (kk * V' j)) else 0) ∧ Fr (fun j => j = g) W3 wr) (fun i _ => m - (intOf i).toNat)
  case atStart => exact ⟨0, Nat.zero_le _, rfl, r3.congr (fun j _ => by simp), Fr.refl _ _⟩
  case round =>
    obtain ⟨k, hk, rfl, hr, F⟩ := hrel
    by_cases hlt : k < m
    · have hki : (k : Int) < (m : Int) := by omega
      obtain ⟨e1, e2, e3, e4, e0⟩ := HK.out wr k F hlt
      have e5 := hr.cell hlt
      have e6 := hr.thaw k
      have HR := hid hr
      clear hr
      obtain ⟨u, hu⟩ : ∃ u, V k = u := ⟨_, rfl⟩
      obtain ⟨v, hv⟩ : ∃ v, V' k = v := ⟨_, rfl⟩
      rw [hu] at e3
      rw [hv] at e4
      rw [if_neg (Nat.lt_irrefl k)] at e5
      have HU := hid hu
      have HV := hid hv
      clear hu hv
      go_wp2
      have HWR : Hid (∀ wq, Fr (fun _ => False) wr.drew wq → wq.cell? ⟨w.heap.size + 1, 2, none⟩ = some (.slice (some ⟨b', off', none⟩) m cap') ∧ wq.cell? ⟨w2.heap.size, 2, none⟩ = some (.slice (some ⟨g, 0, none⟩) m m) ∧ wq.cell? ⟨b, off + k, none⟩ = some (.int .i64 u) ∧ wq.cell? ⟨b', off' + k, none⟩ = some (.int .i64 v) ∧ wq.cell? ⟨w.heap.size, 2, none⟩ = some (.slice (some ⟨b, off, none⟩) m cap)) := by
        intro wq f
        have f' := (Fr.refl _ wr).drew.trans' f
        exact ⟨(f'.cell (cell_lt e1) (fun h => h)).trans e1, (f'.cell (cell_lt e2) (fun h => h)).trans e2, (f'.cell (cell_lt e3) (fun h => h)).trans e3, (f'.cell (cell_lt e4) (fun h => h)).trans e4, (f'.cell (cell_lt e0) (fun h => h)).trans e0⟩
      refine weaveS 17 [.eq (Value.pointer (some ⟨w2.heap.size, 2, none⟩)), .eq (Value.slice (some ⟨g, 0, none⟩) m m), .eq (Value.int .i64 (k : Int)), .eq (Value.pointer (some ⟨w.heap.size, 2, none⟩)), .eq (Value.slice (some ⟨b, off, none⟩) m cap), .eq (Value.int .i64 (k : Int)), .eq (Value.pointer (some ⟨b, off + k, none⟩)), .eq (Value.int .i64 u), .eq (Value.int .i64 kk), .eq (Value.pointer (some ⟨w.heap.size + 1, 2, none⟩)), .eq (Value.slice (some ⟨b', off', none⟩) m cap'), .eq (Value.int .i64 (k : Int)), .eq (Value.pointer (some ⟨b', off' + k, none⟩)), .eq (Value.int .i64 v), .eq (Value.int .i64 (wrap64 (kk * v))), .eq (Value.int .i64 (wrap64 (u + wrap64 (kk * v)))), .eq (Value.pointer (some ⟨g, k, none⟩))] (by kernel_rfl) (by kernel_rfl) ?obls ?tail
      case obls =>
        simp only [List.take_succ_cons, List.take_zero]
        refine ⟨?_, ?_, ?_, ?_, ?_, ?_, ?_, ?_, ?_, ?_, ?_, ?_, ?_, ?_, ?_, ?_, ?_, trivial⟩
        · intro vals wq f h
          simp only [fillA, fillT, List.setIfInBounds_toArray, List.set_cons_succ, List.set_cons_zero, Option.getD_some, Nat.zero_add, Nat.reduceAdd]
          obtain ⟨e1, e2, e3, e4, e5⟩ := HWR.out wq f
          clear h
          go_wp2
          exact ⟨rfl, rfl, _, rfl, Fr.refl _ _, rfl⟩
        · intro vals wq f h
          simp only [fillA, fillT, List.setIfInBounds_toArray, List.set_cons_succ, List.set_cons_zero, Option.getD_some, Nat.zero_add, Nat.reduceAdd]
          have h0 : vals 0 = Value.pointer (some ⟨w2.heap.size, 2, none⟩) := h 0 (by kernel_rfl)
          rw [h0]
          obtain ⟨e1, e2, e3, e4, e5⟩ := HWR.out wq f
          clear h
          go_wp2
          exact ⟨rfl, rfl, _, rfl, Fr.refl _ _, rfl⟩
        · intro vals wq f h
          simp only [fillA, fillT, List.setIfInBounds_toArray, List.set_cons_succ, List.set_cons_zero, Option.getD_some, Nat.zero_add, Nat.reduceAdd]
          obtain ⟨e1, e2, e3, e4, e5⟩ := HWR.out wq f
          clear h
          go_wp2
          exact ⟨rfl, rfl, _, rfl, Fr.refl _ _, rfl⟩
        · intro vals wq f h
          simp only [fillA, fillT, List.setIfInBounds_toArray, List.set_cons_succ, List.set_cons_zero, Option.getD_some, Nat.zero_add, Nat.reduceAdd]
          obtain ⟨e1, e2, e3, e4, e5⟩ := HWR.out wq f
          clear h
          go_wp2
          exact ⟨rfl, rfl, _, rfl, Fr.refl _ _, rfl⟩
        · intro vals wq f h
          simp only [fillA, fillT, List.setIfInBounds_toArray, List.set_cons_succ, List.set_cons_zero, Option.getD_some, Nat.zero_add, Nat.reduceAdd]
          have h3 : vals 3 = Value.pointer (some ⟨w.heap.size, 2, none⟩) := h 3 (by kernel_rfl)
          rw [h3]
          obtain ⟨e1, e2, e3, e4, e5⟩ := HWR.out wq f
          clear h
          go_wp2
          exact ⟨rfl, rfl, _, rfl, Fr.refl _ _, rfl⟩
        · intro vals wq f h
          simp only [fillA, fillT, List.setIfInBounds_toArray, List.set_cons_succ, List.set_cons_zero, Option.getD_some, Nat.zero_add, Nat.reduceAdd]
          obtain ⟨e1, e2, e3, e4, e5⟩ := HWR.out wq f
          clear h
          go_wp2
          exact ⟨rfl, rfl, _, rfl, Fr.refl _ _, rfl⟩
        · intro vals wq f h
          simp only [fillA, fillT, List.setIfInBounds_toArray, List.set_cons_succ, List.set_cons_zero, Option.getD_some, Nat.zero_add, Nat.reduceAdd]
          have h4 : vals 4 = Value.slice (some ⟨b, off, none⟩) m cap := h 4 (by kernel_rfl)
          rw [h4]
          have h5 : vals 5 = Value.int .i64 (k : Int) := h 5 (by kernel_rfl)
          rw [h5]
          obtain ⟨e1, e2, e3, e4, e5⟩ := HWR.out wq f
          clear h
          go_wp2
          exact ⟨rfl, rfl, _, rfl, Fr.refl _ _, rfl⟩
        · intro vals wq f h
          simp only [fillA, fillT, List.setIfInBounds_toArray, List.set_cons_succ, List.set_cons_zero, Option.getD_some, Nat.zero_add, Nat.reduceAdd]
          have h6 : vals 6 = Value.pointer (some ⟨b, off + k, none⟩) := h 6 (by kernel_rfl)
          rw [h6]
          obtain ⟨e1, e2, e3, e4, e5⟩ := HWR.out wq f
          clear h
          go_wp2
          exact ⟨rfl, rfl, _, rfl, Fr.refl _ _, rfl⟩
        · intro vals wq f h
          simp only [fillA, fillT, List.setIfInBounds_toArray, List.set_cons_succ, List.set_cons_zero, Option.getD_some, Nat.zero_add, Nat.reduceAdd]
          obtain ⟨e1, e2, e3, e4, e5⟩ := HWR.out wq f
          clear h
          go_wp2
          exact ⟨rfl, rfl, _, rfl, Fr.refl _ _, rfl⟩
        · intro vals wq f h
          simp only [fillA, fillT, List.setIfInBounds_toArray, List.set_cons_succ, List.set_cons_zero, Option.getD_some, Nat.zero_add, Nat.reduceAdd]
          obtain ⟨e1, e2, e3, e4, e5⟩ := HWR.out wq f
          clear h
          go_wp2
          exact ⟨rfl, rfl, _, rfl, Fr.refl _ _, rfl⟩
        · intro vals wq f h
          simp only [fillA, fillT, List.setIfInBounds_toArray, List.set_cons_succ, List.set_cons_zero, Option.getD_some, Nat.zero_add, Nat.reduceAdd]
          have h9 : vals 9 = Value.pointer (some ⟨w.heap.size + 1, 2, none⟩) := h 9 (by kernel_rfl)
          rw [h9]
          obtain ⟨e1, e2, e3, e4, e5⟩ := HWR.out wq f
          clear h
          go_wp2
          exact ⟨rfl, rfl, _, rfl, Fr.refl _ _, rfl⟩
        · intro vals wq f h
          simp only [fillA, fillT, List.setIfInBounds_toArray, List.set_cons_succ, List.set_cons_zero, Option.getD_some, Nat.zero_add, Nat.reduceAdd]
          obtain ⟨e1, e2, e3, e4, e5⟩ := HWR.out wq f
          clear h
          go_wp2
          exact ⟨rfl, rfl, _, rfl, Fr.refl _ _, rfl⟩
        · intro vals wq f h
          simp only [fillA, fillT, List.setIfInBounds_toArray, List.set_cons_succ, List.set_cons_zero, Option.getD_some, Nat.zero_add, Nat.reduceAdd]
          have h10 : vals 10 = Value.slice (some ⟨b', off', none⟩) m cap' := h 10 (by kernel_rfl)
          rw [h10]
          have h11 : vals 11 = Value.int .i64 (k : Int) := h 11 (by kernel_rfl)
          rw [h11]
          obtain ⟨e1, e2, e3, e4, e5⟩ := HWR.out wq f
          clear h
          go_wp2
          exact ⟨rfl, rfl, _, rfl, Fr.refl _ _, rfl⟩
        · intro vals wq f h
          simp only [fillA, fillT, List.setIfInBounds_toArray, List.set_cons_succ, List.set_cons_zero, Option.getD_some, Nat.zero_add, Nat.reduceAdd]
          have h12 : vals 12 = Value.pointer (some ⟨b', off' + k, none⟩) := h 12 (by kernel_rfl)
          rw [h12]
          obtain ⟨e1, e2, e3, e4, e5⟩ := HWR.out wq f
          clear h
          go_wp2
          exact ⟨rfl, rfl, _, rfl, Fr.refl _ _, rfl⟩
        · intro vals wq f h
          simp only [fillA, fillT, List.setIfInBounds_toArray, List.set_cons_succ, List.set_cons_zero, Option.getD_some, Nat.zero_add, Nat.reduceAdd]
          have h8 : vals 8 = Value.int .i64 kk := h 8 (by kernel_rfl)
          rw [h8]
          have h13 : vals 13 = Value.int .i64 v := h 13 (by kernel_rfl)
          rw [h13]
          obtain ⟨e1, e2, e3, e4, e5⟩ := HWR.out wq f
          clear h
          go_wp2
          exact ⟨rfl, rfl, _, rfl, Fr.refl _ _, rfl⟩
        · intro vals wq f h
          simp only [fillA, fillT, List.setIfInBounds_toArray, List.set_cons_succ, List.set_cons_zero, Option.getD_some, Nat.zero_add, Nat.reduceAdd]
          have h7 : vals 7 = Value.int .i64 u := h 7 (by kernel_rfl)
          rw [h7]
          have h14 : vals 14 = Value.int .i64 (wrap64 (kk * v)) := h 14 (by kernel_rfl)
          rw [h14]
          obtain ⟨e1, e2, e3, e4, e5⟩ := HWR.out wq f
          clear h
          go_wp2
          exact ⟨rfl, rfl, _, rfl, Fr.refl _ _, rfl⟩
        · intro vals wq f h
          simp only [fillA, fillT, List.setIfInBounds_toArray, List.set_cons_succ, List.set_cons_zero, Option.getD_some, Nat.zero_add, Nat.reduceAdd]
          have h1 : vals 1 = Value.slice (some ⟨g, 0, none⟩) m m := h 1 (by kernel_rfl)
          rw [h1]
          have h2 : vals 2 = Value.int .i64 (k : Int) := h 2 (by kernel_rfl)
          rw [h2]
          obtain ⟨e1, e2, e3, e4, e5⟩ := HWR.out wq f
          clear h
          go_wp2
          exact ⟨rfl, rfl, _, rfl, Fr.refl _ _, rfl⟩
      case tail =>
        intro vals wq f h
        simp only [List.take_succ_cons, List.take_zero, fillA, fillT, List.setIfInBounds_toArray, List.set_cons_succ, List.set_cons_zero, List.drop_succ_cons, List.drop_zero, Nat.zero_add, Nat.reduceAdd]
        have h15 : vals 15 = Value.int .i64 (wrap64 (u + wrap64 (kk * v))) := h 15 (by omega)
        rw [h15]
        have h16 : vals 16 = Value.pointer (some ⟨g, k, none⟩) := h 16 (by omega)
        rw [h16]
        have HR6 := hid (HR.out.quiet ((Fr.refl _ wr).drew.trans' f))
        have t5 := HR6.out.cell hlt
        have t6 := HR6.out.thaw k
        have HFq := hid f
        clear h h15 h16 e1 e2 e3 e4 e0 e5 e6 f
        gi_wp2
        go_wp2
        go_roundw
        case rel =>
          refine ⟨k + 1, by omega, by go_num, ?_, (F.trans' (((Fr.refl _ wr).drew.trans' (HFq.out.mono (S' := fun j => j = g) (fun _ _ h => h.elim))).setCell (p := ⟨g, k, none⟩) (fun _ => rfl) _))⟩
          refine (HR6.out.set k (wrap64 (u + wrap64 (kk * v)))).congr fun j hj => ?_
          by_cases ejk : j = k
          · subst ejk; rw [if_pos rfl, if_pos (by omega), HU.out, HV.out]
          · rw [if_neg ejk]
            by_cases hjk : j < k
            · rw [if_pos hjk, if_pos (by omega)]
            · rw [if_neg hjk, if_neg (by omega)]
        case measure => simp [intOf]; omega
    · have hki : ¬ (k : Int) < (m : Int) := by omega
      obtain rfl : k = m := by omega
      obtain ⟨B2, B3⟩ := HE.out wr F
      have q0 : wr.cell? ⟨w2.heap.size, 0, none⟩ = some (.int .i64 (x : Int)) := by rw [B3.cell]; rfl
      have q1 : wr.cell? ⟨w2.heap.size, 1, none⟩ = some (.int .i64 (y : Int)) := by rw [B3.cell]; rfl
      have q2 : wr.cell? ⟨w2.heap.size, 2, none⟩ = some (.slice (some ⟨g, 0, none⟩) k k) := by rw [B3.cell]; rfl
      have z0 : wr.cell? ⟨w.heap.size + 2, 0, none⟩ = some (.int .i64 0) := by rw [B2.cell]; rfl
      have z1 : wr.cell? ⟨w.heap.size + 2, 1, none⟩ = some (.int .i64 0) := by rw [B2.cell]; rfl
      have z2 : wr.cell? ⟨w.heap.size + 2, 2, none⟩ = some (.slice none 0 0) := by rw [B2.cell]; rfl
      have zf := B2.thaw
      have HR := hid hr
      have HB2 := hid B2
      clear hr B2 B3
      go_wp2
      refine bodyPost_ret (v := .agg #[.int .i64 (x : Int), .int .i64 (y : Int), .slice (some ⟨g, 0, none⟩) k k]) ?_ rfl ⟨some ⟨g, 0, none⟩, k, g, rfl, ?_, fun _ => ⟨by omega, ?_⟩, ?_⟩
      · refine results_cell_row rfl _ _ (w.heap.size + 2) 24 _ (0, 0) _ rfl (show Blk _ _ _ _ from ?_) Try.underlying24 rfl Try.info_plane
        simpa using ((HB2.out.set 0 _).set 1 _).set 2 _
      · refine ((((HR.out.fr (((Fr.refl (fun j => j = w.heap.size + 2) wr).setCell (fun _ => rfl) _).setCell (fun _ => rfl) _ |>.setCell (fun _ => rfl) _) (by omega)).congr fun j hj => ?_)).nums (by unfold maxLen; omega))
        rw [if_pos hj]
      · exact (HR.out.fr (((Fr.refl (fun j => j = w.heap.size + 2) wr).setCell (fun _ => rfl) _).setCell (fun _ => rfl) _ |>.setCell (fun _ => rfl) _) (by omega)).intB
      · exact ((((F3.trans F (fun i hi e => by omega)).setNew (by show _ ≤ _ + 2; omega) _).setNew (by show _ ≤ _ + 2; omega) _).setNew (by show _ ≤ _ + 2; omega) _)

theorem rsum_bad (X Y : Int) (a : Option Addr) (n cap : Nat) (X' Y' : Int) (a' : Option Addr) (n' cap' : Nat) (kk : Int) (w : World) (hL : likeP X Y n X' Y' n' = false) :
    Calls Try.prog 10 #[.agg #[.int .i64 X, .int .i64 Y, .slice a n cap], .agg #[.int .i64 X', .int .i64 Y', .slice a' n' cap'], .int .i64 kk] w fun e w' => Made w w' e 0 0 0 (fun _ => 0) := by
  obtain ⟨W, hW⟩ : ∃ W, W = ((w.alloc (.cells #[.int .i64 X, .int .i64 Y, .slice a n cap] 24)).alloc (.cells #[.int .i64 X', .int .i64 Y', .slice a' n' cap'] 24)).alloc (.cells #[.int .i64 0, .int .i64 0, .slice none 0 0] 24) := ⟨_, rfl⟩
  have F0 : Fr (fun _ => False) w W := by rw [hW]; exact (((Fr.refl _ w).alloc _).alloc _).alloc _
  have O2 : Blk W (w.heap.size + 2) #[.int .i64 0, .int .i64 0, .slice none 0 0] 24 := by
    rw [hW]
    have := Blk.new ((w.alloc (.cells #[.int .i64 X, .int .i64 Y, .slice a n cap] 24)).alloc (.cells #[.int .i64 X', .int .i64 Y', .slice a' n' cap'] 24)) #[.int .i64 0, .int .i64 0, .slice none 0 0] 24
    simpa using this
  have HW := hid hW
  clear hW
  go_enter Try.func10, Try.ntmps10
  go_wp2_with fail
  rw [← HW.out]
  refine (rlike_any X Y _ n cap X' Y' _ n' cap' W).mono ?_
  rintro e w1 ⟨rfl, f1⟩
  rw [hL]
  have B2 := O2.fr f1 (fun h => h)
  have F1 := F0.trans' f1
  clear O2 F0 f1 HW
  have z0 : w1.cell? ⟨w.heap.size + 2, 0, none⟩ = some (.int .i64 0) := by rw [B2.cell]; rfl
  have z1 : w1.cell? ⟨w.heap.size + 2, 1, none⟩ = some (.int .i64 0) := by rw [B2.cell]; rfl
  have z2 : w1.cell? ⟨w.heap.size + 2, 2, none⟩ = some (.slice none 0 0) := by rw [B2.cell]; rfl
  have zf := B2.thaw
  have HB2 := hid B2
  clear B2
  go_wp2
  refine bodyPost_ret (v := .agg #[.int .i64 0, .int .i64 0, .slice none 0 0]) ?_ rfl (Made.zero ?_ _)
  · refine results_cell_row rfl _ _ (w.heap.size + 2) 24 _ (0, 0) _ rfl (show Blk _ _ _ _ from ?_) Try.underlying24 rfl Try.info_plane
    simpa using ((HB2.out.set 0 (.int .i64 0)).set 1 (.int .i64 0)).set 2 (.slice none 0 0)
  · exact (((F1.setNew (by show _ ≤ _ + 2; omega) _).setNew (by show _ ≤ _ + 2; omega) _).setNew (by show _ ≤ _ + 2; omega) _)

set_option maxHeartbeats 1000000 in
theorem rclip_go (x y : Nat) (a : Option Addr) (cap : Nat) (V : Nat → Int) (b : Nat) (lo hi : Int) (w : World) (hx : 1 ≤ x) (hx' : x ≤ 1024) (hy : 1 ≤ y) (hy' : y ≤ 1024) (h : Nums w a (x * y) cap V b) :
    Calls Try.prog 13 #[.agg #[.int .i64 (x : Int), .int .i64 (y : Int), .slice a (x * y) cap], .int .i64 lo, .int .i64 hi] w fun e w' => Made w w' e x y (x * y) (fun j => clipV lo hi (V j)) := by
  have hm := mul_most hx' hy'
  have hR := rightP_of hx hx' hy hy'
  have hpos : 0 < x * y := Nat.mul_pos (by omega) (by omega)
  have HNew := hid (fun w => rnew_go x y hx hx' hy hy' w)
  have hb := h.lt hpos
  obtain ⟨off, rfl, hc⟩ := h.at' hpos
  obtain ⟨m, hxy⟩ : ∃ m : Nat, x * y = m := ⟨_, rfl⟩
  rw [hxy] at hm hR hpos HNew hc h ⊢
  clear hxy hx hx' hy hy' h
  have HC := hid hc
  clear hc
  obtain ⟨W, hW⟩ : ∃ W, W = ((w.alloc (.cells #[.int .i64 (x : Int), .int .i64 (y : Int), .slice (some ⟨b, off, none⟩) m cap] 24)).alloc (.cells #[.int .i64 0, .int .i64 0, .slice none 0 0] 24)) := ⟨_, rfl⟩
  have F0 : Fr (fun _ => False) w W := by rw [hW]; exact (((Fr.refl _ w).alloc _).alloc _)
  have hsz : W.heap.size = w.heap.size + 2 := by rw [hW]; simp
  have O0 : Blk W w.heap.size #[.int .i64 (x : Int), .int .i64 (y : Int), .slice (some ⟨b, off, none⟩) m cap] 24 := by
    rw [hW]
    have := Blk.new (w) #[.int .i64 (x : Int), .int .i64 (y : Int), .slice (some ⟨b, off, none⟩) m cap] 24
    first | exact (this.alloc _) | (simp at this; exact (this.alloc _))
  have O1 : Blk W (w.heap.size + 1) #[.int .i64 0, .int .i64 0, .slice none 0 0] 24 := by
    rw [hW]
    have := Blk.new ((w.alloc (.cells #[.int .i64 (x : Int), .int .i64 (y : Int), .slice (some ⟨b, off, none⟩) m cap] 24))) #[.int .i64 0, .int .i64 0, .slice none 0 0] 24
    first | exact this | (simp at this; exact this)
  have HW := hid hW
  clear hW
  go_enter Try.func13, Try.ntmps13
  go_wp2_with fail
  rw [← HW.out]
  refine (rright_any x y _ m cap W).mono ?_
  rintro e w1 ⟨rfl, f1⟩
  rw [hR]
  have P0 := O0.fr f1 (fun h => h)
  have P2 := O1.fr f1 (fun h => h)
  have F1 := F0.trans' f1
  have s1 := f1.size
  clear O0 O1 F0 f1 HW
  have c0 : w1.cell? ⟨w.heap.size, 0, none⟩ = some (.int .i64 (x : Int)) := by rw [P0.cell]; rfl
  have c1 : w1.cell? ⟨w.heap.size, 1, none⟩ = some (.int .i64 (y : Int)) := by rw [P0.cell]; rfl
  go_wp2_with fail
  refine (HNew.out w1).mono ?_
  rintro e w2 ⟨g, rfl, hrow, hg, f2⟩
  have hgl := hrow.lt
  have Q0 := P0.fr f2 (fun h => h)
  have Q2 := P2.fr f2 (fun h => h)
  have F2 := F1.trans' f2
  clear P0 P2 F1 f2 c0 c1 HNew
  obtain ⟨W3, hW3⟩ : ∃ W3, W3 = w2.alloc (.cells #[.int .i64 (x : Int), .int .i64 (y : Int), .slice (some ⟨g, 0, none⟩) m m] 24) := ⟨_, rfl⟩
  have F3 : Fr (fun _ => False) w W3 := by rw [hW3]; exact F2.alloc _
  have r3 : Row W3 g m (fun _ => 0) := by rw [hW3]; exact hrow.quiet ((Fr.refl _ w2).alloc _)
  have R0 : Blk W3 w.heap.size #[.int .i64 (x : Int), .int .i64 (y : Int), .slice (some ⟨b, off, none⟩) m cap] 24 := by rw [hW3]; exact Q0.alloc _
  have R2 : Blk W3 (w.heap.size + 1) #[.int .i64 0, .int .i64 0, .slice none 0 0] 24 := by rw [hW3]; exact Q2.alloc _
  have R3 : Blk W3 w2.heap.size #[.int .i64 (x : Int), .int .i64 (y : Int), .slice (some ⟨g, 0, none⟩) m m] 24 := by rw [hW3]; exact Blk.new _ _ _
  have HW3 := hid hW3
  clear hW3 Q0 Q2 F2 hrow
  have HK : Hid (∀ wr k, Fr (fun j => j = g) W3 wr → k < m → wr.cell? ⟨w2.heap.size, 2, none⟩ = some (.slice (some ⟨g, 0, none⟩) m m) ∧ wr.cell? ⟨b, off + k, none⟩ = some (.int .i64 (V k))) := by
    intro wr k f hk
    have e1 := HC.out k hk
    have e3 := (F3.cell (p := ⟨b, off + k, none⟩) (cell_lt e1) (fun h => h)).trans e1
    refine ⟨by rw [(R3.fr f (by omega)).cell]; rfl, (f.cell (p := ⟨b, off + k, none⟩) (cell_lt e3) (by show ¬ b = g; omega)).trans e3⟩
  have HE : Hid (∀ wr, Fr (fun j => j = g) W3 wr → Blk wr (w.heap.size + 1) #[.int .i64 0, .int .i64 0, .slice none 0 0] 24 ∧ Blk wr w2.heap.size #[.int .i64 (x : Int), .int .i64 (y : Int), .slice (some ⟨g, 0, none⟩) m m] 24) := fun wr f => ⟨R2.fr f (by omega), R3.fr f (by omega)⟩
  have d0 : W3.cell? ⟨w.heap.size, 2, none⟩ = some (.slice (some ⟨b, off, none⟩) m cap) := by rw [R0.cell]; rfl
  clear R0 R2 R3 HC
  rw [HW3.out] at d0
  go_wp2
  rw [← HW3.out]
  go_loopw [22] (fun i wr => ∃ k : Nat, k ≤ m ∧ i = .int .i64 (k : Int) ∧ Row wr g m (fun j => if j < k then clipV lo hi (V j) else 0) ∧ Fr (fun j => j = g) W3 wr) (fun i _ => m - (intOf i).toNat)
  case atStart => exact ⟨0, Nat.zero_le _, rfl, r3.congr (fun j _ => by simp), Fr.refl _ _⟩
  case round =>
    obtain ⟨k, hk, rfl, hr, F⟩ := hrel
    by_cases hlt : k < m
    · have hki : (k : Int) < (m : Int) := by omega
      obtain ⟨e1, e3⟩ := HK.out wr k F hlt
      have e5 := hr.cell hlt
      have e6 := hr.thaw k
      have HR := hid hr
      clear hr
      obtain ⟨u, hu⟩ : ∃ u, V k = u := ⟨_, rfl⟩
      rw [hu] at e3
      rw [if_neg (Nat.lt_irrefl k)] at e5
      have HU := hid hu
      clear hu
      by_cases c1 : u < lo
      · by_cases c2 : hi < lo
        · have HCL : Hid (clipV lo hi u = hi) := by show _ = _; unfold clipV; omega
          go_wp2
          go_roundw
          case rel =>
            refine ⟨k + 1, by omega, by go_num, ?_, F.setCell (p := ⟨g, k, none⟩) (fun _ => rfl) _⟩
            refine (HR.out.set k _).congr fun j hj => ?_
            by_cases ejk : j = k
            · subst ejk; rw [if_pos rfl, if_pos (by omega), HU.out, HCL.out]
            · rw [if_neg ejk]
              by_cases hjk : j < k
              · rw [if_pos hjk, if_pos (by omega)]
              · rw [if_neg hjk, if_neg (by omega)]
          case measure => simp [intOf]; omega
        · have HCL : Hid (clipV lo hi u = lo) := by show _ = _; unfold clipV; omega
          go_wp2
          go_roundw
          case rel =>
            refine ⟨k + 1, by omega, by go_num, ?_, F.setCell (p := ⟨g, k, none⟩) (fun _ => rfl) _⟩
            refine (HR.out.set k _).congr fun j hj => ?_
            by_cases ejk : j = k
            · subst ejk; rw [if_pos rfl, if_pos (by omega), HU.out, HCL.out]
            · rw [if_neg ejk]
              by_cases hjk : j < k
              · rw [if_pos hjk, if_pos (by omega)]
              · rw [if_neg hjk, if_neg (by omega)]
          case measure => simp [intOf]; omega
      · by_cases c2 : hi < u
        · have HCL : Hid (clipV lo hi u = hi) := by show _ = _; unfold clipV; omega
          go_wp2
          go_roundw
          case rel =>
            refine ⟨k + 1, by omega, by go_num, ?_, F.setCell (p := ⟨g, k, none⟩) (fun _ => rfl) _⟩
            refine (HR.out.set k _).congr fun j hj => ?_
            by_cases ejk : j = k
            · subst ejk; rw [if_pos rfl, if_pos (by omega), HU.out, HCL.out]
            · rw [if_neg ejk]
              by_cases hjk : j < k
              · rw [if_pos hjk, if_pos (by omega)]
              · rw [if_neg hjk, if_neg (by omega)]
          case measure => simp [intOf]; omega
        · have HCL : Hid (clipV lo hi u = u) := by show _ = _; unfold clipV; omega
          go_wp2
          go_roundw
          case rel =>
            refine ⟨k + 1, by omega, by go_num, ?_, F.setCell (p := ⟨g, k, none⟩) (fun _ => rfl) _⟩
            refine (HR.out.set k _).congr fun j hj => ?_
            by_cases ejk : j = k
            · subst ejk; rw [if_pos rfl, if_pos (by omega), HU.out, HCL.out]
            · rw [if_neg ejk]
              by_cases hjk : j < k
              · rw [if_pos hjk, if_pos (by omega)]
              · rw [if_neg hjk, if_neg (by omega)]
          case measure => simp [intOf]; omega
    · have hki : ¬ (k : Int) < (m : Int) := by omega
      obtain rfl : k = m := by omega
      obtain ⟨B2, B3⟩ := HE.out wr F
      have q0 : wr.cell? ⟨w2.heap.size, 0, none⟩ = some (.int .i64 (x : Int)) := by rw [B3.cell]; rfl
      have q1 : wr.cell? ⟨w2.heap.size, 1, none⟩ = some (.int .i64 (y : Int)) := by rw [B3.cell]; rfl
      have q2 : wr.cell? ⟨w2.heap.size, 2, none⟩ = some (.slice (some ⟨g, 0, none⟩) k k) := by rw [B3.cell]; rfl
      have z0 : wr.cell? ⟨w.heap.size + 1, 0, none⟩ = some (.int .i64 0) := by rw [B2.cell]; rfl
      have z1 : wr.cell? ⟨w.heap.size + 1, 1, none⟩ = some (.int .i64 0) := by rw [B2.cell]; rfl
      have z2 : wr.cell? ⟨w.heap.size + 1, 2, none⟩ = some (.slice none 0 0) := by rw [B2.cell]; rfl
      have zf := B2.thaw
      have HR := hid hr
      have HB2 := hid B2
      clear hr B2 B3
      go_wp2
      refine bodyPost_ret (v := .agg #[.int .i64 (x : Int), .int .i64 (y : Int), .slice (some ⟨g, 0, none⟩) k k]) ?_ rfl ⟨some ⟨g, 0, none⟩, k, g, rfl, ?_, fun _ => ⟨by omega, ?_⟩, ?_⟩
      · refine results_cell_row rfl _ _ (w.heap.size + 1) 24 _ (0, 0) _ rfl (show Blk _ _ _ _ from ?_) Try.underlying24 rfl Try.info_plane
        simpa using ((HB2.out.set 0 _).set 1 _).set 2 _
      · refine ((((HR.out.fr (((Fr.refl (fun j => j = w.heap.size + 1) wr).setCell (fun _ => rfl) _).setCell (fun _ => rfl) _ |>.setCell (fun _ => rfl) _) (by omega)).congr fun j hj => ?_)).nums (by unfold maxLen; omega))
        rw [if_pos hj]
      · exact (HR.out.fr (((Fr.refl (fun j => j = w.heap.size + 1) wr).setCell (fun _ => rfl) _).setCell (fun _ => rfl) _ |>.setCell (fun _ => rfl) _) (by omega)).intB
      · exact ((((F3.trans F (fun i hi e => by omega)).setNew (by show _ ≤ _ + 1; omega) _).setNew (by show _ ≤ _ + 1; omega) _).setNew (by show _ ≤ _ + 1; omega) _)


theorem rclip_bad (X Y : Int) (a : Option Addr) (n cap : Nat) (lo hi : Int) (w : World) (hR : rightP X Y n = false) :
    Calls Try.prog 13 #[.agg #[.int .i64 X, .int .i64 Y, .slice a n cap], .int .i64 lo, .int .i64 hi] w fun e w' => Made w w' e 0 0 0 (fun _ => 0) := by
  obtain ⟨W, hW⟩ : ∃ W, W = ((w.alloc (.cells #[.int .i64 X, .int .i64 Y, .slice a n cap] 24)).alloc (.cells #[.int .i64 0, .int .i64 0, .slice none 0 0] 24)) := ⟨_, rfl⟩
  have F0 : Fr (fun _ => False) w W := by rw [hW]; exact (((Fr.refl _ w).alloc _).alloc _)
  have hsz : W.heap.size = w.heap.size + 2 := by rw [hW]; simp
  have O0 : Blk W w.heap.size #[.int .i64 X, .int .i64 Y, .slice a n cap] 24 := by
    rw [hW]
    have := Blk.new (w) #[.int .i64 X, .int .i64 Y, .slice a n cap] 24
    first | exact (this.alloc _) | (simp at this; exact (this.alloc _))
  have O1 : Blk W (w.heap.size + 1) #[.int .i64 0, .int .i64 0, .slice none 0 0] 24 := by
    rw [hW]
    have := Blk.new ((w.alloc (.cells #[.int .i64 X, .int .i64 Y, .slice a n cap] 24))) #[.int .i64 0, .int .i64 0, .slice none 0 0] 24
    first | exact this | (simp at this; exact this)
  have HW := hid hW
  clear hW
  go_enter Try.func13, Try.ntmps13
  go_wp2_with fail
  rw [← HW.out]
  refine (rright_any X Y a n cap W).mono ?_
  rintro e w1 ⟨rfl, f1⟩
  rw [hR]
  have RB := O1.fr f1 (fun h => h)
  have FB := F0.trans' f1
  clear O0 O1 F0 f1 HW
  have hRl := RB.lt
  have z0 : w1.cell? ⟨w.heap.size + 1, 0, none⟩ = some (.int .i64 0) := by rw [RB.cell]; rfl
  have z1 : w1.cell? ⟨w.heap.size + 1, 1, none⟩ = some (.int .i64 0) := by rw [RB.cell]; rfl
  have z2 : w1.cell? ⟨w.heap.size + 1, 2, none⟩ = some (.slice none 0 0) := by rw [RB.cell]; rfl
  have zf := RB.thaw
  have HB2 := hid RB
  have HF3 := hid FB
  clear RB FB
  go_wp2
  refine bodyPost_ret (v := .agg #[.int .i64 0, .int .i64 0, .slice none 0 0]) ?_ rfl (Made.zero ?_ _)
  · refine results_cell_row rfl _ _ (w.heap.size + 1) 24 _ (0, 0) _ rfl (show Blk _ _ _ _ from ?_) Try.underlying24 rfl Try.info_plane
    simpa using ((HB2.out.set 0 (.int .i64 0)).set 1 (.int .i64 0)).set 2 (.slice none 0 0)
  · exact (((HF3.out.setNew (by show _ ≤ w.heap.size + 1; omega) _).setNew (by show _ ≤ w.heap.size + 1; omega) _).setNew (by show _ ≤ w.heap.size + 1; omega) _)
end Go.Proofs.Ythhhecdnnbgddaa
