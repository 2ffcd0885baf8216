/-
  Package near: what stands beside a place, its parent, what foretells its sign, its contexts.
-/
import Derived.Test.YtkndnibmgohcaaaNearP
import Derived.Test.YtkndnibmgohcaaaWeaveP
import Derived.Test.YtkndnibmgohcaaaWeaveT
namespace Go.Proofs.Ytkndnibmgohcaaa
open Go.RowKit

theorem nbeside_any (X Y : Int) (a : Option Addr) (n cap : Nat) (V : Nat → Int) (b : Nat) (px py : Nat) (w : World) (h : Nums w a n cap V b) (hx : px ≤ 1000000) (hy : py ≤ 1000000) :
    Calls Try.prog 12 #[.agg #[.int .i64 X, .int .i64 Y, .slice a n cap], .int .i64 (px : Int), .int .i64 (py : Int)] w fun e w' => e = .returned (.bool (besideZ X Y n V px py)) ∧ Fr (fun _ => False) w w' := by
  obtain ⟨W, hW⟩ : ∃ W, W = w.alloc (.cells #[.int .i64 X, .int .i64 Y, .slice a n cap] 31) := ⟨_, rfl⟩
  have F0 : Fr (fun _ => False) w W := by rw [hW]; exact (Fr.refl _ w).alloc _
  have O0 : Blk W w.heap.size #[.int .i64 X, .int .i64 Y, .slice a n cap] 31 := by rw [hW]; exact Blk.new _ _ _
  have HCells := hid (fun (W1 : World) (f : Fr (fun _ => False) W W1) => show W1.cell? ⟨w.heap.size, 0, none⟩ = some (.int .i64 X) ∧ W1.cell? ⟨w.heap.size, 1, none⟩ = some (.int .i64 Y) ∧ W1.cell? ⟨w.heap.size, 2, none⟩ = some (.slice a n cap) from by
    have := O0.fr f (fun h => h)
    exact ⟨by rw [this.cell]; rfl, by rw [this.cell]; rfl, by rw [this.cell]; rfl⟩)
  have HA := hid (fun (px py : Int) (W1 : World) (f : Fr (fun _ => False) w W1) => nat_any X Y a n cap V b px py W1 (h.quiet f))
  have HW := hid hW
  clear hW O0 h
  obtain ⟨z1, hz1⟩ : ∃ z, numZ X Y n V ((px : Int) - 1) py = z := ⟨_, rfl⟩
  obtain ⟨z2, hz2⟩ : ∃ z, numZ X Y n V px ((py : Int) - 1) = z := ⟨_, rfl⟩
  obtain ⟨z3, hz3⟩ : ∃ z, numZ X Y n V ((px : Int) - 1) ((py : Int) - 1) = z := ⟨_, rfl⟩
  have HB : Hid (besideZ X Y n V px py = (z1 != 0 || z2 != 0 || z3 != 0)) := by show _ = _; unfold besideZ; rw [hz1, hz2, hz3]
  have HZ1 := hid hz1
  have HZ2 := hid hz2
  have HZ3 := hid hz3
  clear hz1 hz2 hz3
  by_cases e1 : z1 = 0
  rotate_left
  · have d1 : (z1 == 0) = false := by simpa using e1
    have g1 : (z1 != 0) = true := by simpa using e1
    clear e1
    go_enter Try.func12, Try.ntmps12
    go_wp2_with fail
    rw [← HW.out]
    refine (HA.out _ _ _ F0).mono ?_
    rintro e w1 ⟨rfl, f1⟩
    rw [HZ1.out]
    have F1 := F0.trans' f1
    go_wp2
    go_ret
    exact ⟨ret_bool (by rw [HB.out]; rw [g1]; rfl), F1⟩
  subst e1
  by_cases e2 : z2 = 0
  rotate_left
  · have d2 : (z2 == 0) = false := by simpa using e2
    have g2 : (z2 != 0) = true := by simpa using e2
    clear e2
    go_enter Try.func12, Try.ntmps12
    go_wp2_with fail
    rw [← HW.out]
    refine (HA.out _ _ _ F0).mono ?_
    rintro e w1 ⟨rfl, f1⟩
    rw [HZ1.out]
    have F1 := F0.trans' f1
    obtain ⟨c0, c1, c2⟩ := HCells.out w1 (f1)
    go_wp2_with fail
    refine (HA.out _ _ _ F1).mono ?_
    rintro e w2 ⟨rfl, f2⟩
    rw [HZ2.out]
    have F2 := F1.trans' f2
    clear c0 c1 c2
    go_wp2
    go_ret
    exact ⟨ret_bool (by rw [HB.out]; rw [g2]; rfl), F2⟩
  subst e2
  go_enter Try.func12, Try.ntmps12
  go_wp2_with fail
  rw [← HW.out]
  refine (HA.out _ _ _ F0).mono ?_
  rintro e w1 ⟨rfl, f1⟩
  rw [HZ1.out]
  have F1 := F0.trans' f1
  obtain ⟨c0, c1, c2⟩ := HCells.out w1 (f1)
  go_wp2_with fail
  refine (HA.out _ _ _ F1).mono ?_
  rintro e w2 ⟨rfl, f2⟩
  rw [HZ2.out]
  have F2 := F1.trans' f2
  clear c0 c1 c2
  obtain ⟨c0, c1, c2⟩ := HCells.out w2 (f1.trans' f2)
  go_wp2_with fail
  refine (HA.out _ _ _ F2).mono ?_
  rintro e w3 ⟨rfl, f3⟩
  rw [HZ3.out]
  have F3 := F2.trans' f3
  clear c0 c1 c2
  go_wp2
  go_ret
  exact ⟨ret_bool (by rw [HB.out]; rfl), F3⟩

theorem nparent_any (X Y : Int) (a : Option Addr) (n cap : Nat) (V : Nat → Int) (b : Nat) (px py : Nat) (w : World) (h : Nums w a n cap V b) (hx : px ≤ 1000000) (hy : py ≤ 1000000) :
    Calls Try.prog 14 #[.agg #[.int .i64 X, .int .i64 Y, .slice a n cap], .int .i64 (px : Int), .int .i64 (py : Int)] w fun e w' => e = .returned (.bool (aboveZ X Y n V px py)) ∧ Fr (fun _ => False) w w' := by
  obtain ⟨W, hW⟩ : ∃ W, W = w.alloc (.cells #[.int .i64 X, .int .i64 Y, .slice a n cap] 31) := ⟨_, rfl⟩
  have F0 : Fr (fun _ => False) w W := by rw [hW]; exact (Fr.refl _ w).alloc _
  have O0 : Blk W w.heap.size #[.int .i64 X, .int .i64 Y, .slice a n cap] 31 := by rw [hW]; exact Blk.new _ _ _
  have HCells := hid (fun (W1 : World) (f : Fr (fun _ => False) W W1) => show W1.cell? ⟨w.heap.size, 0, none⟩ = some (.int .i64 X) ∧ W1.cell? ⟨w.heap.size, 1, none⟩ = some (.int .i64 Y) ∧ W1.cell? ⟨w.heap.size, 2, none⟩ = some (.slice a n cap) from by
    have := O0.fr f (fun h => h)
    exact ⟨by rw [this.cell]; rfl, by rw [this.cell]; rfl, by rw [this.cell]; rfl⟩)
  have HA := hid (fun (px py : Int) (W1 : World) (f : Fr (fun _ => False) w W1) => nat_any X Y a n cap V b px py W1 (h.quiet f))
  have HW := hid hW
  clear hW O0 h
  obtain ⟨z1, hz1⟩ : ∃ z, numZ X Y n V ((px : Int) / 2) ((py : Int) / 2) = z := ⟨_, rfl⟩
  have HB : Hid (aboveZ X Y n V px py = (z1 != 0)) := by show _ = _; unfold aboveZ; rw [hz1]; simp
  have HZ1 := hid hz1
  clear hz1
  go_enter Try.func14, Try.ntmps14
  go_wp2_with fail
  rw [← HW.out]
  refine (HA.out _ _ _ F0).mono ?_
  rintro e w1 ⟨rfl, f1⟩
  rw [HZ1.out]
  have F1 := F0.trans' f1
  go_wp2
  go_ret
  exact ⟨ret_bool (by rw [HB.out]), F1⟩

theorem nsign_any (X Y : Int) (a : Option Addr) (n cap : Nat) (V : Nat → Int) (b : Nat) (o : Int) (px py : Nat) (w : World) (h : Nums w a n cap V b) (hx : px ≤ 1000000) (hy : py ≤ 1000000) :
    Calls Try.prog 13 #[.agg #[.int .i64 X, .int .i64 Y, .slice a n cap], .int .i64 o, .int .i64 (px : Int), .int .i64 (py : Int)] w fun e w' => e = .returned (.int .i64 (signZ X Y n V o px py)) ∧ Fr (fun _ => False) w w' := by
  obtain ⟨W, hW⟩ : ∃ W, W = w.alloc (.cells #[.int .i64 X, .int .i64 Y, .slice a n cap] 31) := ⟨_, rfl⟩
  have F0 : Fr (fun _ => False) w W := by rw [hW]; exact (Fr.refl _ w).alloc _
  have O0 : Blk W w.heap.size #[.int .i64 X, .int .i64 Y, .slice a n cap] 31 := by rw [hW]; exact Blk.new _ _ _
  have HCells := hid (fun (W1 : World) (f : Fr (fun _ => False) W W1) => show W1.cell? ⟨w.heap.size, 0, none⟩ = some (.int .i64 X) ∧ W1.cell? ⟨w.heap.size, 1, none⟩ = some (.int .i64 Y) ∧ W1.cell? ⟨w.heap.size, 2, none⟩ = some (.slice a n cap) from by
    have := O0.fr f (fun h => h)
    exact ⟨by rw [this.cell]; rfl, by rw [this.cell]; rfl, by rw [this.cell]; rfl⟩)
  have HA := hid (fun (px py : Int) (W1 : World) (f : Fr (fun _ => False) w W1) => nat_any X Y a n cap V b px py W1 (h.quiet f))
  have HW := hid hW
  clear hW O0 h
  by_cases e1 : o = 1
  · subst e1
    have HB : Hid (signZ X Y n V 1 px py = sgnZ (numZ X Y n V px ((py : Int) - 1))) := rfl
    go_enter Try.func13, Try.ntmps13
    go_wp2_with fail
    rw [← HW.out]
    refine (HA.out _ _ _ F0).mono ?_
    rintro e w1 ⟨rfl, f1⟩
    go_wp2_with fail
    refine (ncompare_any _ _).mono ?_
    rintro e w2 ⟨rfl, rfl⟩
    go_wp2
    go_ret
    exact ⟨ret_int HB.out.symm, F0.trans' f1⟩
  have d1 : (o == 1) = false := by simpa using e1
  by_cases e2 : o = 2
  · subst e2
    have HB : Hid (signZ X Y n V 2 px py = sgnZ (numZ X Y n V ((px : Int) - 1) py)) := rfl
    go_enter Try.func13, Try.ntmps13
    go_wp2_with fail
    rw [← HW.out]
    refine (HA.out _ _ _ F0).mono ?_
    rintro e w1 ⟨rfl, f1⟩
    go_wp2_with fail
    refine (ncompare_any _ _).mono ?_
    rintro e w2 ⟨rfl, rfl⟩
    go_wp2
    go_ret
    exact ⟨ret_int HB.out.symm, F0.trans' f1⟩
  have d2 : (o == 2) = false := by simpa using e2
  have HB : Hid (signZ X Y n V o px py = 0) := by show _ = _; unfold signZ foreZ; rw [if_neg e1, if_neg e2]; rfl
  clear e1 e2
  go_enter Try.func13, Try.ntmps13
  go_wp2
  go_ret
  exact ⟨ret_int HB.out.symm, (Fr.refl _ w).alloc _⟩

def StayP.set (B : Nat) (L : List Nat) (D S : Int) : StayP := ⟨fun v w => SetAt w v B L D S, fun h f => h.quiet f⟩

set_option maxHeartbeats 2000000 in
theorem nof_any (X Y : Int) (a : Option Addr) (n cap : Nat) (V : Nat → Int) (b : Nat) (X' Y' : Int) (a' : Option Addr) (n' cap' : Nat) (V' : Nat → Int) (b' : Nat) (o : Int) (px py : Nat) (w : World) (h : Nums w a n cap V b) (h' : Nums w a' n' cap' V' b') (hx : px ≤ 1000000) (hy : py ≤ 1000000) :
    Calls Try.prog 11 #[.agg #[.int .i64 X, .int .i64 Y, .slice a n cap], .agg #[.int .i64 X', .int .i64 Y', .slice a' n' cap'], .int .i64 o, .int .i64 (px : Int), .int .i64 (py : Int)] w fun e w' => SetMade w w' e (followL (aboveZ X' Y' n' V' px py) (besideZ X Y n V px py)) 17 (signC (signZ X Y n V o px py) : Nat) := by
  obtain ⟨W, hW⟩ : ∃ W, W = ((w.alloc (.cells #[.int .i64 X, .int .i64 Y, .slice a n cap] 31)).alloc (.cells #[.int .i64 X', .int .i64 Y', .slice a' n' cap'] 31)).alloc (.cells #[.slice none 0 0, .int .i64 0, .int .i64 0] 26) := ⟨_, rfl⟩
  have F0 : Fr (fun _ => False) w W := by rw [hW]; exact (((Fr.refl _ w).alloc _).alloc _).alloc _
  have O0 : Blk W w.heap.size #[.int .i64 X, .int .i64 Y, .slice a n cap] 31 := by rw [hW]; exact ((Blk.new _ _ _).alloc _).alloc _
  have O1 : Blk W (w.heap.size + 1) #[.int .i64 X', .int .i64 Y', .slice a' n' cap'] 31 := by
    rw [hW]
    have := (Blk.new (w.alloc (.cells #[.int .i64 X, .int .i64 Y, .slice a n cap] 31)) #[.int .i64 X', .int .i64 Y', .slice a' n' cap'] 31).alloc (.cells #[.slice none 0 0, .int .i64 0, .int .i64 0] 26)
    simpa using this
  have O2 : Blk W (w.heap.size + 2) #[.slice none 0 0, .int .i64 0, .int .i64 0] 26 := by
    rw [hW]
    have := Blk.new ((w.alloc (.cells #[.int .i64 X, .int .i64 Y, .slice a n cap] 31)).alloc (.cells #[.int .i64 X', .int .i64 Y', .slice a' n' cap'] 31)) #[.slice none 0 0, .int .i64 0, .int .i64 0] 26
    simpa using this
  obtain ⟨A, hA⟩ : ∃ A, aboveZ X' Y' n' V' px py = A := ⟨_, rfl⟩
  obtain ⟨B, hB⟩ : ∃ B, besideZ X Y n V px py = B := ⟨_, rfl⟩
  obtain ⟨S, hS⟩ : ∃ S, signZ X Y n V o px py = S := ⟨_, rfl⟩
  have HAe := hid hA
  have HBe := hid hB
  have HSe := hid hS
  rw [hA, hB, hS]
  have HF : Hid (Fr (fun _ => False) w W.drew) := F0.drew
  have HO2 : Hid (Blk W.drew (w.heap.size + 2) #[.slice none 0 0, .int .i64 0, .int .i64 0] 26) := O2.drew
  have HLs : Hid (w.heap.size ≤ W.drew.heap.size) := HF.out.size
  have HNe : Hid (∀ (W1 : World) {g : Nat}, Blk W1 (w.heap.size + 2) #[.slice none 0 0, .int .i64 0, .int .i64 0] 26 → IntB W1 g → ¬ g = w.heap.size + 2) := fun W1 g hb hi => hi.ne hb (by decide)
  have HPc := hid (fun (W1 : World) (f : Fr (fun _ => False) W.drew W1) => show W1.cell? ⟨w.heap.size + 1, 0, none⟩ = some (.int .i64 X') ∧ W1.cell? ⟨w.heap.size + 1, 1, none⟩ = some (.int .i64 Y') ∧ W1.cell? ⟨w.heap.size + 1, 2, none⟩ = some (.slice a' n' cap') from by
    have := O1.drew.fr f (fun h => h)
    exact ⟨by rw [this.cell]; rfl, by rw [this.cell]; rfl, by rw [this.cell]; rfl⟩)
  have HQc := hid (fun (W1 : World) (f : Fr (fun _ => False) W.drew W1) => show W1.cell? ⟨w.heap.size, 0, none⟩ = some (.int .i64 X) ∧ W1.cell? ⟨w.heap.size, 1, none⟩ = some (.int .i64 Y) ∧ W1.cell? ⟨w.heap.size, 2, none⟩ = some (.slice a n cap) from by
    have := O0.drew.fr f (fun h => h)
    exact ⟨by rw [this.cell]; rfl, by rw [this.cell]; rfl, by rw [this.cell]; rfl⟩)
  have HPar := hid (fun (W1 : World) (f : Fr (fun _ => False) W.drew W1) => nparent_any X' Y' a' n' cap' V' b' px py W1 (h'.quiet (F0.drew.trans' f)) hx hy)
  have HBes := hid (fun (W1 : World) (f : Fr (fun _ => False) W.drew W1) => nbeside_any X Y a n cap V b px py W1 (h.quiet (F0.drew.trans' f)) hx hy)
  have HSig := hid (fun (W1 : World) (f : Fr (fun _ => False) W.drew W1) => nsign_any X Y a n cap V b o px py W1 (h.quiet (F0.drew.trans' f)) hx hy)
  have HW := hid hW
  clear hW F0 O0 O1 O2 hA hB hS h h'
  go_enter Try.func11, Try.ntmps11
  go_wp2
  rw [← HW.out]
  refine weaveST 14 [.eq (Value.agg #[.int .i64 X', .int .i64 Y', .slice a' n' cap']), .eq (Value.int .i64 (px : Int)), .eq (Value.int .i64 (py : Int)), .eq (Value.bool A), .eq (Value.agg #[.int .i64 X, .int .i64 Y, .slice a n cap]), .eq (Value.int .i64 (px : Int)), .eq (Value.int .i64 (py : Int)), .eq (Value.bool B), .eq (Value.agg #[.int .i64 X, .int .i64 Y, .slice a n cap]), .eq (Value.int .i64 o), .eq (Value.int .i64 (px : Int)), .eq (Value.int .i64 (py : Int)), .eq (Value.int .i64 S), .set w.heap.size (followL A B) 17 (signC S : Nat)] (by kernel_rfl) (by kernel_rfl) ?obls ?tail
  case obls =>
    simp only [List.take_succ_cons, List.take_zero]
    refine ⟨?_, ?_, ?_, ?_, ?_, ?_, ?_, ?_, ?_, ?_, ?_, ?_, ?_, ?_, trivial⟩
    · intro vals wq f h
      simp only [fillA, fillT, List.setIfInBounds_toArray, List.set_cons_succ, List.set_cons_zero, Option.getD_some, Nat.zero_add, Nat.reduceAdd]
      clear h
      obtain ⟨c0, c1, c2⟩ := HPc.out wq f
      go_wp2
      exact ⟨rfl, rfl, _, rfl, Fr.refl _ _, rfl⟩
    · intro vals wq f h
      simp only [fillA, fillT, List.setIfInBounds_toArray, List.set_cons_succ, List.set_cons_zero, Option.getD_some, Nat.zero_add, Nat.reduceAdd]
      clear h
      go_wp2
      exact ⟨rfl, rfl, _, rfl, Fr.refl _ _, rfl⟩
    · intro vals wq f h
      simp only [fillA, fillT, List.setIfInBounds_toArray, List.set_cons_succ, List.set_cons_zero, Option.getD_some, Nat.zero_add, Nat.reduceAdd]
      clear h
      go_wp2
      exact ⟨rfl, rfl, _, rfl, Fr.refl _ _, rfl⟩
    · intro vals wq f h
      simp only [fillA, fillT, List.setIfInBounds_toArray, List.set_cons_succ, List.set_cons_zero, Option.getD_some, Nat.zero_add, Nat.reduceAdd]
      have h0 : vals 0 = Value.agg #[.int .i64 X', .int .i64 Y', .slice a' n' cap'] := h 0 (by kernel_rfl)
      rw [h0]
      have h1 : vals 1 = Value.int .i64 (px : Int) := h 1 (by kernel_rfl)
      rw [h1]
      have h2 : vals 2 = Value.int .i64 (py : Int) := h 2 (by kernel_rfl)
      rw [h2]
      clear h
      go_wp2_with fail
      refine (HPar.out wq f).mono ?_
      rintro e w6 ⟨rfl, f6⟩
      rw [HAe.out]
      go_wp2
      exact ⟨rfl, rfl, _, rfl, f6, rfl⟩
    · intro vals wq f h
      simp only [fillA, fillT, List.setIfInBounds_toArray, List.set_cons_succ, List.set_cons_zero, Option.getD_some, Nat.zero_add, Nat.reduceAdd]
      clear h
      obtain ⟨c0, c1, c2⟩ := HQc.out wq f
      go_wp2
      exact ⟨rfl, rfl, _, rfl, Fr.refl _ _, rfl⟩
    · intro vals wq f h
      simp only [fillA, fillT, List.setIfInBounds_toArray, List.set_cons_succ, List.set_cons_zero, Option.getD_some, Nat.zero_add, Nat.reduceAdd]
      clear h
      go_wp2
      exact ⟨rfl, rfl, _, rfl, Fr.refl _ _, rfl⟩
    · intro vals wq f h
      simp only [fillA, fillT, List.setIfInBounds_toArray, List.set_cons_succ, List.set_cons_zero, Option.getD_some, Nat.zero_add, Nat.reduceAdd]
      clear h
      go_wp2
      exact ⟨rfl, rfl, _, rfl, Fr.refl _ _, rfl⟩
    · intro vals wq f h
      simp only [fillA, fillT, List.setIfInBounds_toArray, List.set_cons_succ, List.set_cons_zero, Option.getD_some, Nat.zero_add, Nat.reduceAdd]
      have h4 : vals 4 = Value.agg #[.int .i64 X, .int .i64 Y, .slice a n cap] := h 4 (by kernel_rfl)
      rw [h4]
      have h5 : vals 5 = Value.int .i64 (px : Int) := h 5 (by kernel_rfl)
      rw [h5]
      have h6 : vals 6 = Value.int .i64 (py : Int) := h 6 (by kernel_rfl)
      rw [h6]
      clear h
      go_wp2_with fail
      refine (HBes.out wq f).mono ?_
      rintro e w6 ⟨rfl, f6⟩
      rw [HBe.out]
      go_wp2
      exact ⟨rfl, rfl, _, rfl, f6, rfl⟩
    · intro vals wq f h
      simp only [fillA, fillT, List.setIfInBounds_toArray, List.set_cons_succ, List.set_cons_zero, Option.getD_some, Nat.zero_add, Nat.reduceAdd]
      clear h
      obtain ⟨c0, c1, c2⟩ := HQc.out wq f
      go_wp2
      exact ⟨rfl, rfl, _, rfl, Fr.refl _ _, rfl⟩
    · intro vals wq f h
      simp only [fillA, fillT, List.setIfInBounds_toArray, List.set_cons_succ, List.set_cons_zero, Option.getD_some, Nat.zero_add, Nat.reduceAdd]
      clear h
      go_wp2
      exact ⟨rfl, rfl, _, rfl, Fr.refl _ _, rfl⟩
    · intro vals wq f h
      simp only [fillA, fillT, List.setIfInBounds_toArray, List.set_cons_succ, List.set_cons_zero, Option.getD_some, Nat.zero_add, Nat.reduceAdd]
      clear h
      go_wp2
      exact ⟨rfl, rfl, _, rfl, Fr.refl _ _, rfl⟩
    · intro vals wq f h
      simp only [fillA, fillT, List.setIfInBounds_toArray, List.set_cons_succ, List.set_cons_zero, Option.getD_some, Nat.zero_add, Nat.reduceAdd]
      clear h
      go_wp2
      exact ⟨rfl, rfl, _, rfl, Fr.refl _ _, rfl⟩
    · intro vals wq f h
      simp only [fillA, fillT, List.setIfInBounds_toArray, List.set_cons_succ, List.set_cons_zero, Option.getD_some, Nat.zero_add, Nat.reduceAdd]
      have h8 : vals 8 = Value.agg #[.int .i64 X, .int .i64 Y, .slice a n cap] := h 8 (by kernel_rfl)
      rw [h8]
      have h9 : vals 9 = Value.int .i64 o := h 9 (by kernel_rfl)
      rw [h9]
      have h10 : vals 10 = Value.int .i64 (px : Int) := h 10 (by kernel_rfl)
      rw [h10]
      have h11 : vals 11 = Value.int .i64 (py : Int) := h 11 (by kernel_rfl)
      rw [h11]
      clear h
      go_wp2_with fail
      refine (HSig.out wq f).mono ?_
      rintro e w6 ⟨rfl, f6⟩
      rw [HSe.out]
      go_wp2
      exact ⟨rfl, rfl, _, rfl, f6, rfl⟩
    · intro vals wq f h
      simp only [fillA, fillT, List.setIfInBounds_toArray, List.set_cons_succ, List.set_cons_zero, Option.getD_some, Nat.zero_add, Nat.reduceAdd]
      have h3 : vals 3 = Value.bool A := h 3 (by kernel_rfl)
      rw [h3]
      have h7 : vals 7 = Value.bool B := h 7 (by kernel_rfl)
      rw [h7]
      have h12 : vals 12 = Value.int .i64 S := h 12 (by kernel_rfl)
      rw [h12]
      clear h
      go_wp2_with fail
      refine (nset_any _ _ _ _).mono ?_
      rintro e w6 hS
      obtain ⟨v6, rfl, s6, f6⟩ := hS.at' (B := w.heap.size) (by have := f.size; have := HLs.out; omega)
      clear hS
      go_wp2
      exact ⟨rfl, rfl, _, rfl, f6, s6⟩
  case tail =>
    intro vals wq f h
    simp only [List.take_succ_cons, List.take_zero, fillA, fillT, List.setIfInBounds_toArray, List.set_cons_succ, List.set_cons_zero, List.drop_succ_cons, List.drop_zero, Nat.zero_add, Nat.reduceAdd]
    obtain ⟨b13, h13, n13, l13, i13⟩ : SetAt wq (vals 13) w.heap.size (followL A B) 17 (signC S : Nat) := h 13 (by omega)
    rw [h13]
    have HN := hid n13
    have HI := hid i13
    have F3 := HF.out.trans' f
    have HO3 := hid (HO2.out.fr f (fun h => h))
    obtain ⟨k, hk⟩ : ∃ k, followL A B = k := ⟨_, rfl⟩
    obtain ⟨W3, hW3⟩ : ∃ W3, W3 = wq := ⟨_, rfl⟩
    rw [← hW3] at F3 HN HI HO3 ⊢
    rw [hk] at HN ⊢
    have z0 : W3.cell? ⟨w.heap.size + 2, 0, none⟩ = some (.slice none 0 0) := by rw [HO3.out.cell]; rfl
    have z1 : W3.cell? ⟨w.heap.size + 2, 1, none⟩ = some (.int .i64 0) := by rw [HO3.out.cell]; rfl
    have z2 : W3.cell? ⟨w.heap.size + 2, 2, none⟩ = some (.int .i64 0) := by rw [HO3.out.cell]; rfl
    have zf := HO3.out.thaw
    have HF3 := hid F3
    have HK := hid hk
    clear h h13 n13 i13 hW3 f F3 hk
    gi_wp2
    go_wp2
    refine bodyPost_ret (v := .agg #[.slice (some ⟨b13, 0, none⟩) k.length k.length, .int .i64 17, .int .i64 (signC S : Nat)]) ?_ rfl ⟨b13, by rw [HK.out], ?_, ⟨l13, ?_⟩, ?_⟩
    · exact results_cell_row rfl _ _ (w.heap.size + 2) 26 _ (0, 0) _ rfl (show Blk _ _ _ _ from HO3.out.put3 _ _ _) Try.underlying26 rfl Try.size_set
    · rw [HK.out]; exact HN.out.fr (fr_put3 _ _ _ _ _) (fun _ => HNe.out W3 HO3.out HI.out)
    · exact HI.out.fr (fr_put3 _ _ _ _ _) (HNe.out W3 HO3.out HI.out)
    · exact HF3.out.put3New (by omega) _ _ _
end Go.Proofs.Ytkndnibmgohcaaa
