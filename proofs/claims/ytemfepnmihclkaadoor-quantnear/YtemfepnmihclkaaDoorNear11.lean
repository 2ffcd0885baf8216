/-
  Law package 11: a number comes back near to what it was, with its sign, exactly by the least quantiser; lesser ones don't come to greater ones (QuantNear): the walk.
-/
import Derived.Test.YtemfepnmihclkaaDoorFirst11
import Derived.Test.YtemfepnmihclkaaDoorRef4
import Derived.BigQuiet
namespace Go.Proofs.YtemfepnmihclkaaDoor
open Go.RowKit

theorem back_bounds (c q : Int) (i : Bool) : -4398046511104 ≤ backQ c q i ∧ backQ c q i ≤ 4398046511104 := by
  unfold backQ sgn
  repeat' split <;> omega

/-- The ways out ahead of everything else. -/
theorem near_ways (v x q : Int) : (-2199023255550 ≤ v ∧ v ≤ 2199023255550 ∧ -2199023255550 ≤ x ∧ x ≤ 2199023255550 ∧ 0 ≤ q ∧ q ≤ 60) ∨ v < -2199023255550 ∨ (¬ v < -2199023255550 ∧ 2199023255550 < v) ∨ (¬ v < -2199023255550 ∧ ¬ 2199023255550 < v ∧ x < -2199023255550) ∨ (¬ v < -2199023255550 ∧ ¬ 2199023255550 < v ∧ ¬ x < -2199023255550 ∧ 2199023255550 < x) ∨ (¬ v < -2199023255550 ∧ ¬ 2199023255550 < v ∧ ¬ x < -2199023255550 ∧ ¬ 2199023255550 < x ∧ q < 0) ∨ (¬ v < -2199023255550 ∧ ¬ 2199023255550 < v ∧ ¬ x < -2199023255550 ∧ ¬ 2199023255550 < x ∧ ¬ q < 0 ∧ 60 < q) := by omega

set_option maxHeartbeats 1000000 in
theorem near_in (v x q : Int) (inter : Bool) (w : World) (hQ : Quarters w) (v0 : -2199023255550 ≤ v) (v1 : v ≤ 2199023255550) (x0 : -2199023255550 ≤ x) (x1 : x ≤ 2199023255550) (q0 : 0 ≤ q) (q1 : q ≤ 60) :
    Calls Tryd.prog 4 #[.agg #[.int .i64 v, .int .i64 x], .int .i64 q, .bool inter] w fun e w' => e = .returned (.bool true) ∧ Below w.heap.size w w' := by
  have g0 : decide (v < -2199023255550) = false := by simp; omega
  have g1 : decide (2199023255550 < v) = false := by simp; omega
  have g2 : decide (x < -2199023255550) = false := by simp; omega
  have g3 : decide (2199023255550 < x) = false := by simp; omega
  have g4 : decide (q < 0) = false := by simp; omega
  have g5 : decide (60 < q) = false := by simp; omega
  have hq : isQ q = true := by simp [isQ]; omega
  obtain ⟨n1, n2, n3, n4⟩ := quant_near hq inter (v := v) (by omega)
  obtain ⟨b0, b1⟩ := back_bounds (thereQ v q) q inter
  clear hq
  obtain ⟨W, hW⟩ : ∃ W, W = w.alloc (.cells #[.int .i64 v, .int .i64 x] 28) := ⟨_, rfl⟩
  have F0 : Fr (fun _ => False) w W := by rw [hW]; exact (Fr.refl _ w).alloc _
  have c0 : W.cell? ⟨w.heap.size, 0, none⟩ = some (.int .i64 v) := by rw [hW, (Blk.new w _ _).cell]; rfl
  have c1 : W.cell? ⟨w.heap.size, 1, none⟩ = some (.int .i64 x) := by rw [hW, (Blk.new w _ _).cell]; rfl
  have HW := hid hW
  clear hW
  go_enter Tryd.func4, Tryd.ntmps4
  go_wp2_with fail
  rw [← HW.out]
  refine (first_any _ (hQ.fr F0)).mono ?_
  rintro e w1 ⟨rfl, F1⟩
  have d0 := (F1.cell (p := ⟨w.heap.size, 0, none⟩) (cell_lt c0) (fun h => h)).trans c0
  have d1 := (F1.cell (p := ⟨w.heap.size, 1, none⟩) (cell_lt c1) (fun h => h)).trans c1
  have F2 := F0.trans' F1
  clear F0 F1 c0 c1
  go_wp2_with fail
  go_quiet (fail)
  obtain ⟨w2, hw2⟩ : ∃ w2, w2 = w1.drewN nq := ⟨_, rfl⟩
  have F3 : Fr (fun _ => False) w w2 := by rw [hw2]; exact F2.drewN nq
  rw [← hw2]
  clear hw2 F2 d0 d1
  go_wp2_with fail
  refine (qthere_any _ _ _ (hQ.fr F3)).mono ?_
  rintro e w3 ⟨rfl, F4'⟩
  have F4 := F3.trans' F4'
  clear F3 F4'
  go_wp2_with fail
  refine (qback_any _ _ _ _ (hQ.fr F4)).mono ?_
  rintro e w4 ⟨rfl, F5'⟩
  have F5 := F4.trans' F5'
  clear F4 F5'
  have HM := hid (fun h : v ≤ x => there_mono (q := q) h)
  have HB := hid (fun h : v ≤ x => back_mono (q := q) inter (there_mono (q := q) h))
  have hf := fac_bounds q
  generalize backQ (thereQ v q) q inter = b at *
  generalize hT : thereQ v q = tv at *
  have HT := hid hT
  clear hT
  have hord : (v ≤ b ∧ b - v ≤ fac q / 4 + 1 ∧ v - b ≤ b - v) ∨ (b < v ∧ v - b ≤ fac q / 4 + 1 ∧ b - v < v - b) := by omega
  have hsgn : (0 < v ∧ 0 ≤ b) ∨ (v < 0 ∧ b ≤ 0) ∨ (0 ≤ v ∧ v ≤ 0 ∧ 0 ≤ b ∧ b ≤ 0) := by omega
  have hqz : ((q == 0) = true ∧ b = v) ∨ (q == 0) = false := by
    by_cases h : q = 0
    · exact .inl ⟨beq_iff_eq.2 h, n4 h⟩
    · exact .inr (beq_eq_false_iff_ne.2 h)
  clear n1 n2 n3 n4
  rcases hord with ⟨o1, o2, o3⟩ | ⟨o1, o2, o3⟩ <;> rcases hsgn with ⟨s1, s2⟩ | ⟨s1, s2⟩ | ⟨s1, s2, s3, s4⟩ <;> rcases hqz with ⟨z1, z2⟩ | z1
  · have z3 : (b - v == 0) = true := beq_iff_eq.2 (by omega)
    have z4 : (b - v != 0) = false := by rw [bne, z3]; rfl
    clear z2
    go_wp2_with fail
    refine (rfac_any _ _).mono ?_
    rintro e w5 ⟨rfl, rfl⟩
    generalize fac q = f at *
    have o4 : decide (f / 4 + 1 < b - v) = false := by simp; omega
    by_cases hvx : v ≤ x
    · have hm := HM.out hvx
      have hb := HB.out hvx
      have hx0 : decide (x < v) = false := by simp; omega
      have m1 : Hid (decide (tv ≤ thereQ x q) = true) := by show _ = _; simpa using hm
      have m2 : Hid (decide (b ≤ backQ (thereQ x q) q inter) = true) := by show _ = _; simpa using hb
      clear hm hb
      go_wp2_with fail
      refine (qthere_any _ _ _ (hQ.fr F5)).mono ?_
      rintro e w6 ⟨rfl, F6⟩
      rw [HT.out]
      have F7 := F5.trans' F6
      clear F5 F6
      go_wp2_with fail
      refine (qthere_any _ _ _ (hQ.fr F7)).mono ?_
      rintro e w7 ⟨rfl, F8⟩
      have F9 := F7.trans' F8
      clear F7 F8
      have m3 := m1.out
      have m3' := of_decide_eq_true m3
      go_wp2_with fail
      refine (qthere_any _ _ _ (hQ.fr F9)).mono ?_
      rintro e w8 ⟨rfl, F10⟩
      have F11 := F9.trans' F10
      clear F9 F10
      go_wp2_with fail
      refine (qback_any _ _ _ _ (hQ.fr F11)).mono ?_
      rintro e w9 ⟨rfl, F12⟩
      have F13 := F11.trans' F12
      clear F11 F12
      have m4 := m2.out
      have m4' := of_decide_eq_true m4
      go_wp2
      go_ret
      exact ⟨rfl, F13.below (Nat.le_refl _) (fun _ _ h => h)⟩
    · have hx0 : decide (x < v) = true := by simp; omega
      go_wp2
      go_ret
      exact ⟨rfl, F5.below (Nat.le_refl _) (fun _ _ h => h)⟩
  · go_wp2_with fail
    refine (rfac_any _ _).mono ?_
    rintro e w5 ⟨rfl, rfl⟩
    generalize fac q = f at *
    have o4 : decide (f / 4 + 1 < b - v) = false := by simp; omega
    by_cases hvx : v ≤ x
    · have hm := HM.out hvx
      have hb := HB.out hvx
      have hx0 : decide (x < v) = false := by simp; omega
      have m1 : Hid (decide (tv ≤ thereQ x q) = true) := by show _ = _; simpa using hm
      have m2 : Hid (decide (b ≤ backQ (thereQ x q) q inter) = true) := by show _ = _; simpa using hb
      clear hm hb
      go_wp2_with fail
      refine (qthere_any _ _ _ (hQ.fr F5)).mono ?_
      rintro e w6 ⟨rfl, F6⟩
      rw [HT.out]
      have F7 := F5.trans' F6
      clear F5 F6
      go_wp2_with fail
      refine (qthere_any _ _ _ (hQ.fr F7)).mono ?_
      rintro e w7 ⟨rfl, F8⟩
      have F9 := F7.trans' F8
      clear F7 F8
      have m3 := m1.out
      have m3' := of_decide_eq_true m3
      go_wp2_with fail
      refine (qthere_any _ _ _ (hQ.fr F9)).mono ?_
      rintro e w8 ⟨rfl, F10⟩
      have F11 := F9.trans' F10
      clear F9 F10
      go_wp2_with fail
      refine (qback_any _ _ _ _ (hQ.fr F11)).mono ?_
      rintro e w9 ⟨rfl, F12⟩
      have F13 := F11.trans' F12
      clear F11 F12
      have m4 := m2.out
      have m4' := of_decide_eq_true m4
      go_wp2
      go_ret
      exact ⟨rfl, F13.below (Nat.le_refl _) (fun _ _ h => h)⟩
    · have hx0 : decide (x < v) = true := by simp; omega
      go_wp2
      go_ret
      exact ⟨rfl, F5.below (Nat.le_refl _) (fun _ _ h => h)⟩
  · have z3 : (b - v == 0) = true := beq_iff_eq.2 (by omega)
    have z4 : (b - v != 0) = false := by rw [bne, z3]; rfl
    clear z2
    go_wp2_with fail
    refine (rfac_any _ _).mono ?_
    rintro e w5 ⟨rfl, rfl⟩
    generalize fac q = f at *
    have o4 : decide (f / 4 + 1 < b - v) = false := by simp; omega
    by_cases hvx : v ≤ x
    · have hm := HM.out hvx
      have hb := HB.out hvx
      have hx0 : decide (x < v) = false := by simp; omega
      have m1 : Hid (decide (tv ≤ thereQ x q) = true) := by show _ = _; simpa using hm
      have m2 : Hid (decide (b ≤ backQ (thereQ x q) q inter) = true) := by show _ = _; simpa using hb
      clear hm hb
      go_wp2_with fail
      refine (qthere_any _ _ _ (hQ.fr F5)).mono ?_
      rintro e w6 ⟨rfl, F6⟩
      rw [HT.out]
      have F7 := F5.trans' F6
      clear F5 F6
      go_wp2_with fail
      refine (qthere_any _ _ _ (hQ.fr F7)).mono ?_
      rintro e w7 ⟨rfl, F8⟩
      have F9 := F7.trans' F8
      clear F7 F8
      have m3 := m1.out
      have m3' := of_decide_eq_true m3
      go_wp2_with fail
      refine (qthere_any _ _ _ (hQ.fr F9)).mono ?_
      rintro e w8 ⟨rfl, F10⟩
      have F11 := F9.trans' F10
      clear F9 F10
      go_wp2_with fail
      refine (qback_any _ _ _ _ (hQ.fr F11)).mono ?_
      rintro e w9 ⟨rfl, F12⟩
      have F13 := F11.trans' F12
      clear F11 F12
      have m4 := m2.out
      have m4' := of_decide_eq_true m4
      go_wp2
      go_ret
      exact ⟨rfl, F13.below (Nat.le_refl _) (fun _ _ h => h)⟩
    · have hx0 : decide (x < v) = true := by simp; omega
      go_wp2
      go_ret
      exact ⟨rfl, F5.below (Nat.le_refl _) (fun _ _ h => h)⟩
  · go_wp2_with fail
    refine (rfac_any _ _).mono ?_
    rintro e w5 ⟨rfl, rfl⟩
    generalize fac q = f at *
    have o4 : decide (f / 4 + 1 < b - v) = false := by simp; omega
    by_cases hvx : v ≤ x
    · have hm := HM.out hvx
      have hb := HB.out hvx
      have hx0 : decide (x < v) = false := by simp; omega
      have m1 : Hid (decide (tv ≤ thereQ x q) = true) := by show _ = _; simpa using hm
      have m2 : Hid (decide (b ≤ backQ (thereQ x q) q inter) = true) := by show _ = _; simpa using hb
      clear hm hb
      go_wp2_with fail
      refine (qthere_any _ _ _ (hQ.fr F5)).mono ?_
      rintro e w6 ⟨rfl, F6⟩
      rw [HT.out]
      have F7 := F5.trans' F6
      clear F5 F6
      go_wp2_with fail
      refine (qthere_any _ _ _ (hQ.fr F7)).mono ?_
      rintro e w7 ⟨rfl, F8⟩
      have F9 := F7.trans' F8
      clear F7 F8
      have m3 := m1.out
      have m3' := of_decide_eq_true m3
      go_wp2_with fail
      refine (qthere_any _ _ _ (hQ.fr F9)).mono ?_
      rintro e w8 ⟨rfl, F10⟩
      have F11 := F9.trans' F10
      clear F9 F10
      go_wp2_with fail
      refine (qback_any _ _ _ _ (hQ.fr F11)).mono ?_
      rintro e w9 ⟨rfl, F12⟩
      have F13 := F11.trans' F12
      clear F11 F12
      have m4 := m2.out
      have m4' := of_decide_eq_true m4
      go_wp2
      go_ret
      exact ⟨rfl, F13.below (Nat.le_refl _) (fun _ _ h => h)⟩
    · have hx0 : decide (x < v) = true := by simp; omega
      go_wp2
      go_ret
      exact ⟨rfl, F5.below (Nat.le_refl _) (fun _ _ h => h)⟩
  · have z3 : (b - v == 0) = true := beq_iff_eq.2 (by omega)
    have z4 : (b - v != 0) = false := by rw [bne, z3]; rfl
    clear z2
    go_wp2_with fail
    refine (rfac_any _ _).mono ?_
    rintro e w5 ⟨rfl, rfl⟩
    generalize fac q = f at *
    have o4 : decide (f / 4 + 1 < b - v) = false := by simp; omega
    by_cases hvx : v ≤ x
    · have hm := HM.out hvx
      have hb := HB.out hvx
      have hx0 : decide (x < v) = false := by simp; omega
      have m1 : Hid (decide (tv ≤ thereQ x q) = true) := by show _ = _; simpa using hm
      have m2 : Hid (decide (b ≤ backQ (thereQ x q) q inter) = true) := by show _ = _; simpa using hb
      clear hm hb
      go_wp2_with fail
      refine (qthere_any _ _ _ (hQ.fr F5)).mono ?_
      rintro e w6 ⟨rfl, F6⟩
      rw [HT.out]
      have F7 := F5.trans' F6
      clear F5 F6
      go_wp2_with fail
      refine (qthere_any _ _ _ (hQ.fr F7)).mono ?_
      rintro e w7 ⟨rfl, F8⟩
      have F9 := F7.trans' F8
      clear F7 F8
      have m3 := m1.out
      have m3' := of_decide_eq_true m3
      go_wp2_with fail
      refine (qthere_any _ _ _ (hQ.fr F9)).mono ?_
      rintro e w8 ⟨rfl, F10⟩
      have F11 := F9.trans' F10
      clear F9 F10
      go_wp2_with fail
      refine (qback_any _ _ _ _ (hQ.fr F11)).mono ?_
      rintro e w9 ⟨rfl, F12⟩
      have F13 := F11.trans' F12
      clear F11 F12
      have m4 := m2.out
      have m4' := of_decide_eq_true m4
      go_wp2
      go_ret
      exact ⟨rfl, F13.below (Nat.le_refl _) (fun _ _ h => h)⟩
    · have hx0 : decide (x < v) = true := by simp; omega
      go_wp2
      go_ret
      exact ⟨rfl, F5.below (Nat.le_refl _) (fun _ _ h => h)⟩
  · go_wp2_with fail
    refine (rfac_any _ _).mono ?_
    rintro e w5 ⟨rfl, rfl⟩
    generalize fac q = f at *
    have o4 : decide (f / 4 + 1 < b - v) = false := by simp; omega
    by_cases hvx : v ≤ x
    · have hm := HM.out hvx
      have hb := HB.out hvx
      have hx0 : decide (x < v) = false := by simp; omega
      have m1 : Hid (decide (tv ≤ thereQ x q) = true) := by show _ = _; simpa using hm
      have m2 : Hid (decide (b ≤ backQ (thereQ x q) q inter) = true) := by show _ = _; simpa using hb
      clear hm hb
      go_wp2_with fail
      refine (qthere_any _ _ _ (hQ.fr F5)).mono ?_
      rintro e w6 ⟨rfl, F6⟩
      rw [HT.out]
      have F7 := F5.trans' F6
      clear F5 F6
      go_wp2_with fail
      refine (qthere_any _ _ _ (hQ.fr F7)).mono ?_
      rintro e w7 ⟨rfl, F8⟩
      have F9 := F7.trans' F8
      clear F7 F8
      have m3 := m1.out
      have m3' := of_decide_eq_true m3
      go_wp2_with fail
      refine (qthere_any _ _ _ (hQ.fr F9)).mono ?_
      rintro e w8 ⟨rfl, F10⟩
      have F11 := F9.trans' F10
      clear F9 F10
      go_wp2_with fail
      refine (qback_any _ _ _ _ (hQ.fr F11)).mono ?_
      rintro e w9 ⟨rfl, F12⟩
      have F13 := F11.trans' F12
      clear F11 F12
      have m4 := m2.out
      have m4' := of_decide_eq_true m4
      go_wp2
      go_ret
      exact ⟨rfl, F13.below (Nat.le_refl _) (fun _ _ h => h)⟩
    · have hx0 : decide (x < v) = true := by simp; omega
      go_wp2
      go_ret
      exact ⟨rfl, F5.below (Nat.le_refl _) (fun _ _ h => h)⟩
  · omega
  · go_wp2_with fail
    refine (rfac_any _ _).mono ?_
    rintro e w5 ⟨rfl, rfl⟩
    generalize fac q = f at *
    have o4 : decide (f / 4 + 1 < v - b) = false := by simp; omega
    by_cases hvx : v ≤ x
    · have hm := HM.out hvx
      have hb := HB.out hvx
      have hx0 : decide (x < v) = false := by simp; omega
      have m1 : Hid (decide (tv ≤ thereQ x q) = true) := by show _ = _; simpa using hm
      have m2 : Hid (decide (b ≤ backQ (thereQ x q) q inter) = true) := by show _ = _; simpa using hb
      clear hm hb
      go_wp2_with fail
      refine (qthere_any _ _ _ (hQ.fr F5)).mono ?_
      rintro e w6 ⟨rfl, F6⟩
      rw [HT.out]
      have F7 := F5.trans' F6
      clear F5 F6
      go_wp2_with fail
      refine (qthere_any _ _ _ (hQ.fr F7)).mono ?_
      rintro e w7 ⟨rfl, F8⟩
      have F9 := F7.trans' F8
      clear F7 F8
      have m3 := m1.out
      have m3' := of_decide_eq_true m3
      go_wp2_with fail
      refine (qthere_any _ _ _ (hQ.fr F9)).mono ?_
      rintro e w8 ⟨rfl, F10⟩
      have F11 := F9.trans' F10
      clear F9 F10
      go_wp2_with fail
      refine (qback_any _ _ _ _ (hQ.fr F11)).mono ?_
      rintro e w9 ⟨rfl, F12⟩
      have F13 := F11.trans' F12
      clear F11 F12
      have m4 := m2.out
      have m4' := of_decide_eq_true m4
      go_wp2
      go_ret
      exact ⟨rfl, F13.below (Nat.le_refl _) (fun _ _ h => h)⟩
    · have hx0 : decide (x < v) = true := by simp; omega
      go_wp2
      go_ret
      exact ⟨rfl, F5.below (Nat.le_refl _) (fun _ _ h => h)⟩
  · omega
  · go_wp2_with fail
    refine (rfac_any _ _).mono ?_
    rintro e w5 ⟨rfl, rfl⟩
    generalize fac q = f at *
    have o4 : decide (f / 4 + 1 < v - b) = false := by simp; omega
    by_cases hvx : v ≤ x
    · have hm := HM.out hvx
      have hb := HB.out hvx
      have hx0 : decide (x < v) = false := by simp; omega
      have m1 : Hid (decide (tv ≤ thereQ x q) = true) := by show _ = _; simpa using hm
      have m2 : Hid (decide (b ≤ backQ (thereQ x q) q inter) = true) := by show _ = _; simpa using hb
      clear hm hb
      go_wp2_with fail
      refine (qthere_any _ _ _ (hQ.fr F5)).mono ?_
      rintro e w6 ⟨rfl, F6⟩
      rw [HT.out]
      have F7 := F5.trans' F6
      clear F5 F6
      go_wp2_with fail
      refine (qthere_any _ _ _ (hQ.fr F7)).mono ?_
      rintro e w7 ⟨rfl, F8⟩
      have F9 := F7.trans' F8
      clear F7 F8
      have m3 := m1.out
      have m3' := of_decide_eq_true m3
      go_wp2_with fail
      refine (qthere_any _ _ _ (hQ.fr F9)).mono ?_
      rintro e w8 ⟨rfl, F10⟩
      have F11 := F9.trans' F10
      clear F9 F10
      go_wp2_with fail
      refine (qback_any _ _ _ _ (hQ.fr F11)).mono ?_
      rintro e w9 ⟨rfl, F12⟩
      have F13 := F11.trans' F12
      clear F11 F12
      have m4 := m2.out
      have m4' := of_decide_eq_true m4
      go_wp2
      go_ret
      exact ⟨rfl, F13.below (Nat.le_refl _) (fun _ _ h => h)⟩
    · have hx0 : decide (x < v) = true := by simp; omega
      go_wp2
      go_ret
      exact ⟨rfl, F5.below (Nat.le_refl _) (fun _ _ h => h)⟩
  · omega
  · omega

set_option maxHeartbeats 1000000 in
theorem near_walk (v x q : Int) (inter : Bool) (w : World) (hQ : Quarters w) :
    Calls Tryd.prog 4 #[.agg #[.int .i64 v, .int .i64 x], .int .i64 q, .bool inter] w fun e w' => e = .returned (.bool true) ∧ Below w.heap.size w w' := by
  rcases near_ways v x q with ⟨v0, v1, x0, x1, q0, q1⟩ | h
  · exact near_in v x q inter w hQ v0 v1 x0 x1 q0 q1
  · obtain ⟨W, hW⟩ : ∃ W, W = w.alloc (.cells #[.int .i64 v, .int .i64 x] 28) := ⟨_, rfl⟩
    have F0 : Fr (fun _ => False) w W := by rw [hW]; exact (Fr.refl _ w).alloc _
    have c0 : W.cell? ⟨w.heap.size, 0, none⟩ = some (.int .i64 v) := by rw [hW, (Blk.new w _ _).cell]; rfl
    have c1 : W.cell? ⟨w.heap.size, 1, none⟩ = some (.int .i64 x) := by rw [hW, (Blk.new w _ _).cell]; rfl
    have HW := hid hW
    clear hW
    rcases h with h0 | ⟨h0, h1⟩ | ⟨h0, h1, h2⟩ | ⟨h0, h1, h2, h3⟩ | ⟨h0, h1, h2, h3, h4⟩ | ⟨h0, h1, h2, h3, h4, h5⟩
    · have h0' : decide (v < -2199023255550) = true := by simp; omega
      go_enter Tryd.func4, Tryd.ntmps4
      go_wp2_with fail
      rw [← HW.out]
      refine (first_any _ (hQ.fr F0)).mono ?_
      rintro e w1 ⟨rfl, F1⟩
      have d0 := (F1.cell (p := ⟨w.heap.size, 0, none⟩) (cell_lt c0) (fun h => h)).trans c0
      have d1 := (F1.cell (p := ⟨w.heap.size, 1, none⟩) (cell_lt c1) (fun h => h)).trans c1
      have F2 := F0.trans' F1
      go_wp2_with fail
      go_quiet (fail)
      obtain ⟨w2, hw2⟩ : ∃ w2, w2 = w1.drewN nq := ⟨_, rfl⟩
      have F3 : Fr (fun _ => False) w w2 := by rw [hw2]; exact F2.drewN nq
      rw [← hw2]
      clear hw2
      go_wp2
      go_ret
      exact ⟨rfl, F3.below (Nat.le_refl _) (fun _ _ h => h)⟩
    · have h0' : decide (v < -2199023255550) = false := by simp; omega
      have h1' : decide (2199023255550 < v) = true := by simp; omega
      go_enter Tryd.func4, Tryd.ntmps4
      go_wp2_with fail
      rw [← HW.out]
      refine (first_any _ (hQ.fr F0)).mono ?_
      rintro e w1 ⟨rfl, F1⟩
      have d0 := (F1.cell (p := ⟨w.heap.size, 0, none⟩) (cell_lt c0) (fun h => h)).trans c0
      have d1 := (F1.cell (p := ⟨w.heap.size, 1, none⟩) (cell_lt c1) (fun h => h)).trans c1
      have F2 := F0.trans' F1
      go_wp2_with fail
      go_quiet (fail)
      obtain ⟨w2, hw2⟩ : ∃ w2, w2 = w1.drewN nq := ⟨_, rfl⟩
      have F3 : Fr (fun _ => False) w w2 := by rw [hw2]; exact F2.drewN nq
      rw [← hw2]
      clear hw2
      go_wp2
      go_ret
      exact ⟨rfl, F3.below (Nat.le_refl _) (fun _ _ h => h)⟩
    · have h0' : decide (v < -2199023255550) = false := by simp; omega
      have h1' : decide (2199023255550 < v) = false := by simp; omega
      have h2' : decide (x < -2199023255550) = true := by simp; omega
      go_enter Tryd.func4, Tryd.ntmps4
      go_wp2_with fail
      rw [← HW.out]
      refine (first_any _ (hQ.fr F0)).mono ?_
      rintro e w1 ⟨rfl, F1⟩
      have d0 := (F1.cell (p := ⟨w.heap.size, 0, none⟩) (cell_lt c0) (fun h => h)).trans c0
      have d1 := (F1.cell (p := ⟨w.heap.size, 1, none⟩) (cell_lt c1) (fun h => h)).trans c1
      have F2 := F0.trans' F1
      go_wp2_with fail
      go_quiet (fail)
      obtain ⟨w2, hw2⟩ : ∃ w2, w2 = w1.drewN nq := ⟨_, rfl⟩
      have F3 : Fr (fun _ => False) w w2 := by rw [hw2]; exact F2.drewN nq
      rw [← hw2]
      clear hw2
      go_wp2
      go_ret
      exact ⟨rfl, F3.below (Nat.le_refl _) (fun _ _ h => h)⟩
    · have h0' : decide (v < -2199023255550) = false := by simp; omega
      have h1' : decide (2199023255550 < v) = false := by simp; omega
      have h2' : decide (x < -2199023255550) = false := by simp; omega
      have h3' : decide (2199023255550 < x) = true := by simp; omega
      go_enter Tryd.func4, Tryd.ntmps4
      go_wp2_with fail
      rw [← HW.out]
      refine (first_any _ (hQ.fr F0)).mono ?_
      rintro e w1 ⟨rfl, F1⟩
      have d0 := (F1.cell (p := ⟨w.heap.size, 0, none⟩) (cell_lt c0) (fun h => h)).trans c0
      have d1 := (F1.cell (p := ⟨w.heap.size, 1, none⟩) (cell_lt c1) (fun h => h)).trans c1
      have F2 := F0.trans' F1
      go_wp2_with fail
      go_quiet (fail)
      obtain ⟨w2, hw2⟩ : ∃ w2, w2 = w1.drewN nq := ⟨_, rfl⟩
      have F3 : Fr (fun _ => False) w w2 := by rw [hw2]; exact F2.drewN nq
      rw [← hw2]
      clear hw2
      go_wp2
      go_ret
      exact ⟨rfl, F3.below (Nat.le_refl _) (fun _ _ h => h)⟩
    · have h0' : decide (v < -2199023255550) = false := by simp; omega
      have h1' : decide (2199023255550 < v) = false := by simp; omega
      have h2' : decide (x < -2199023255550) = false := by simp; omega
      have h3' : decide (2199023255550 < x) = false := by simp; omega
      have h4' : decide (q < 0) = true := by simp; omega
      go_enter Tryd.func4, Tryd.ntmps4
      go_wp2_with fail
      rw [← HW.out]
      refine (first_any _ (hQ.fr F0)).mono ?_
      rintro e w1 ⟨rfl, F1⟩
      have d0 := (F1.cell (p := ⟨w.heap.size, 0, none⟩) (cell_lt c0) (fun h => h)).trans c0
      have d1 := (F1.cell (p := ⟨w.heap.size, 1, none⟩) (cell_lt c1) (fun h => h)).trans c1
      have F2 := F0.trans' F1
      go_wp2_with fail
      go_quiet (fail)
      obtain ⟨w2, hw2⟩ : ∃ w2, w2 = w1.drewN nq := ⟨_, rfl⟩
      have F3 : Fr (fun _ => False) w w2 := by rw [hw2]; exact F2.drewN nq
      rw [← hw2]
      clear hw2
      go_wp2
      go_ret
      exact ⟨rfl, F3.below (Nat.le_refl _) (fun _ _ h => h)⟩
    · have h0' : decide (v < -2199023255550) = false := by simp; omega
      have h1' : decide (2199023255550 < v) = false := by simp; omega
      have h2' : decide (x < -2199023255550) = false := by simp; omega
      have h3' : decide (2199023255550 < x) = false := by simp; omega
      have h4' : decide (q < 0) = false := by simp; omega
      have h5' : decide (60 < q) = true := by simp; omega
      go_enter Tryd.func4, Tryd.ntmps4
      go_wp2_with fail
      rw [← HW.out]
      refine (first_any _ (hQ.fr F0)).mono ?_
      rintro e w1 ⟨rfl, F1⟩
      have d0 := (F1.cell (p := ⟨w.heap.size, 0, none⟩) (cell_lt c0) (fun h => h)).trans c0
      have d1 := (F1.cell (p := ⟨w.heap.size, 1, none⟩) (cell_lt c1) (fun h => h)).trans c1
      have F2 := F0.trans' F1
      go_wp2_with fail
      go_quiet (fail)
      obtain ⟨w2, hw2⟩ : ∃ w2, w2 = w1.drewN nq := ⟨_, rfl⟩
      have F3 : Fr (fun _ => False) w w2 := by rw [hw2]; exact F2.drewN nq
      rw [← hw2]
      clear hw2
      go_wp2
      go_ret
      exact ⟨rfl, F3.below (Nat.le_refl _) (fun _ _ h => h)⟩
end Go.Proofs.YtemfepnmihclkaaDoor
