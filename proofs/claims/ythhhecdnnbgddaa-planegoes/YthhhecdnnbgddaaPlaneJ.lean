/-
  Package plane: planes added, subtracted and clipped (joined, turned, Add, Sub, Clip).
-/
import Derived.Test.YthhhecdnnbgddaaPlaneE
import Derived.StillTailTactics
namespace Go.Proofs.Ythhhecdnnbgddaa
open Go.RowKit

theorem padd1_any (x y : Int) (w : World) :
    Calls Try.prog 27 #[.int .i64 x, .int .i64 y] w fun e w' => e = .returned (.int .i64 (wrap64 (x + y))) ∧ w' = w := by
  go_enter Try.func27, Try.ntmps27
  go_wp2
  go_ret
  exact ⟨rfl, rfl⟩
theorem psub1_any (x y : Int) (w : World) :
    Calls Try.prog 29 #[.int .i64 x, .int .i64 y] w fun e w' => e = .returned (.int .i64 (wrap64 (x - y))) ∧ w' = w := by
  go_enter Try.func29, Try.ntmps29
  go_wp2
  go_ret
  exact ⟨rfl, rfl⟩
theorem pclip1_any (z lo hi : Int) (bl bm : Nat) (w : World) (hl : w.cell? ⟨bl, 0, none⟩ = some (.int .i64 lo)) (hm : w.cell? ⟨bm, 0, none⟩ = some (.int .i64 hi)) :
    Calls Try.prog 31 #[.int .i64 z, .pointer (some ⟨bl, 0, none⟩), .pointer (some ⟨bm, 0, none⟩)] w fun e w' => e = .returned (.int .i64 (clipV lo hi z)) ∧ w' = w := by
  have HC : Hid (clipV lo hi z = min (max z lo) hi) := Eq.refl _
  go_enter Try.func31, Try.ntmps31
  go_wp2
  go_ret
  exact ⟨ret_int HC.out.symm, rfl⟩

set_option maxHeartbeats 1000000 in
theorem pjoin_add_go (x y : Nat) (a : Option Addr) (cap : Nat) (V : Nat → Int) (b : Nat) (a' : Option Addr) (cap' : Nat) (V' : Nat → Int) (b' : Nat) (w : World) (hx : 1 ≤ x) (hx' : x ≤ 1024) (hy : 1 ≤ y) (hy' : y ≤ 1024) (h : Nums w a (x * y) cap V b) (h' : Nums w a' (x * y) cap' V' b') :
    Calls Try.prog 26 #[.agg #[.int .i64 (x : Int), .int .i64 (y : Int), .slice a (x * y) cap], .agg #[.int .i64 (x : Int), .int .i64 (y : Int), .slice a' (x * y) cap'], .func (.func 27) #[] #[]] w fun e w' => Made w w' e x y (x * y) (fun j => wrap64 (V j + V' j)) := by
  have hm := mul_most hx' hy'
  have hR := rightP_of hx hx' hy hy'
  have hL : likeP (x : Int) (y : Int) (x * y) (x : Int) (y : Int) (x * y) = true := by simp [likeP, hR]
  have hpos : 0 < x * y := Nat.mul_pos (by omega) (by omega)
  have HNew := hid (fun w => pnew_go x y hx hx' hy hy' w)
  have hb := h.lt hpos
  have hb' := h'.lt hpos
  obtain ⟨off, rfl, hc⟩ := h.at' hpos
  obtain ⟨off', rfl, hc'⟩ := h'.at' hpos
  obtain ⟨m, hxy⟩ : ∃ m : Nat, x * y = m := ⟨_, rfl⟩
  rw [hxy] at hm hL hpos HNew hc hc' h h' ⊢
  clear hxy hR hx hx' hy hy' h h'
  have HC := hid hc
  have HC' := hid hc'
  clear hc hc'
  obtain ⟨W, hW⟩ : ∃ W, W = ((w.alloc (.cells #[.int .i64 (x : Int), .int .i64 (y : Int), .slice (some ⟨b, off, none⟩) m cap] 24)).alloc (.cells #[.int .i64 (x : Int), .int .i64 (y : Int), .slice (some ⟨b', off', none⟩) m cap'] 24)).alloc (.cells #[.int .i64 0, .int .i64 0, .slice none 0 0] 24) := ⟨_, rfl⟩
  have F0 : Fr (fun _ => False) w W := by rw [hW]; exact (((Fr.refl _ w).alloc _).alloc _).alloc _
  have hsz : W.heap.size = w.heap.size + 3 := by rw [hW]; simp
  have O0 : Blk W w.heap.size #[.int .i64 (x : Int), .int .i64 (y : Int), .slice (some ⟨b, off, none⟩) m cap] 24 := by rw [hW]; exact ((Blk.new _ _ _).alloc _).alloc _
  have O1 : Blk W (w.heap.size + 1) #[.int .i64 (x : Int), .int .i64 (y : Int), .slice (some ⟨b', off', none⟩) m cap'] 24 := by
    rw [hW]
    have := Blk.new (w.alloc (.cells #[.int .i64 (x : Int), .int .i64 (y : Int), .slice (some ⟨b, off, none⟩) m cap] 24)) #[.int .i64 (x : Int), .int .i64 (y : Int), .slice (some ⟨b', off', none⟩) m cap'] 24
    simp at this
    exact this.alloc _
  have O2 : Blk W (w.heap.size + 2) #[.int .i64 0, .int .i64 0, .slice none 0 0] 24 := by
    rw [hW]
    have := Blk.new ((w.alloc (.cells #[.int .i64 (x : Int), .int .i64 (y : Int), .slice (some ⟨b, off, none⟩) m cap] 24)).alloc (.cells #[.int .i64 (x : Int), .int .i64 (y : Int), .slice (some ⟨b', off', none⟩) m cap'] 24)) #[.int .i64 0, .int .i64 0, .slice none 0 0] 24
    simpa using this
  have HW := hid hW
  clear hW
  go_enter Try.func26, Try.ntmps26
  go_wp2_with fail
  rw [← HW.out]
  refine (palike_any x y _ m cap x y _ m cap' W).mono ?_
  rintro e w1 ⟨rfl, f1⟩
  rw [hL]
  have P0 := O0.fr f1 (fun h => h)
  have P1 := O1.fr f1 (fun h => h)
  have P2 := O2.fr f1 (fun h => h)
  have F1 := F0.trans' f1
  have s1 := f1.size
  clear O0 O1 O2 F0 f1 HW
  have c0 : w1.cell? ⟨w.heap.size, 0, none⟩ = some (.int .i64 (x : Int)) := by rw [P0.cell]; rfl
  have c1 : w1.cell? ⟨w.heap.size, 1, none⟩ = some (.int .i64 (y : Int)) := by rw [P0.cell]; rfl
  go_wp2_with fail
  refine (HNew.out w1).mono ?_
  rintro e w2 ⟨g, rfl, hrow, hg, f2⟩
  have hgl := hrow.lt
  have Q0 := P0.fr f2 (fun h => h)
  have Q1 := P1.fr f2 (fun h => h)
  have Q2 := P2.fr f2 (fun h => h)
  have F2 := F1.trans' f2
  clear P0 P1 P2 F1 f2 c0 c1 HNew
  obtain ⟨W3, hW3⟩ : ∃ W3, W3 = w2.alloc (.cells #[.int .i64 (x : Int), .int .i64 (y : Int), .slice (some ⟨g, 0, none⟩) m m] 24) := ⟨_, rfl⟩
  have F3 : Fr (fun _ => False) w W3 := by rw [hW3]; exact F2.alloc _
  have r3 : Row W3 g m (fun _ => 0) := by rw [hW3]; exact hrow.quiet ((Fr.refl _ w2).alloc _)
  have R0 : Blk W3 w.heap.size #[.int .i64 (x : Int), .int .i64 (y : Int), .slice (some ⟨b, off, none⟩) m cap] 24 := by rw [hW3]; exact Q0.alloc _
  have R1 : Blk W3 (w.heap.size + 1) #[.int .i64 (x : Int), .int .i64 (y : Int), .slice (some ⟨b', off', none⟩) m cap'] 24 := by rw [hW3]; exact Q1.alloc _
  have R2 : Blk W3 (w.heap.size + 2) #[.int .i64 0, .int .i64 0, .slice none 0 0] 24 := by rw [hW3]; exact Q2.alloc _
  have R3 : Blk W3 w2.heap.size #[.int .i64 (x : Int), .int .i64 (y : Int), .slice (some ⟨g, 0, none⟩) m m] 24 := by rw [hW3]; exact Blk.new _ _ _
  have HW3 := hid hW3
  clear hW3 Q0 Q1 Q2 F2 hrow
  have HK : Hid (∀ wr k, Fr (fun j => j = g) W3 wr → k < m → wr.cell? ⟨w.heap.size + 1, 2, none⟩ = some (.slice (some ⟨b', off', none⟩) m cap') ∧ wr.cell? ⟨w2.heap.size, 2, none⟩ = some (.slice (some ⟨g, 0, none⟩) m m) ∧ wr.cell? ⟨b, off + k, none⟩ = some (.int .i64 (V k)) ∧ wr.cell? ⟨b', off' + k, none⟩ = some (.int .i64 (V' k))) := by
    intro wr k f hk
    have e1 := HC.out k hk
    have e2 := HC'.out k hk
    have e3 := (F3.cell (p := ⟨b, off + k, none⟩) (cell_lt e1) (fun h => h)).trans e1
    have e4 := (F3.cell (p := ⟨b', off' + k, none⟩) (cell_lt e2) (fun h => h)).trans e2
    refine ⟨by rw [(R1.fr f (by omega)).cell]; rfl, by rw [(R3.fr f (by omega)).cell]; rfl, (f.cell (p := ⟨b, off + k, none⟩) (cell_lt e3) (by show ¬ b = g; omega)).trans e3, (f.cell (p := ⟨b', off' + k, none⟩) (cell_lt e4) (by show ¬ b' = g; omega)).trans e4⟩
  have HE : Hid (∀ wr, Fr (fun j => j = g) W3 wr → Blk wr (w.heap.size + 2) #[.int .i64 0, .int .i64 0, .slice none 0 0] 24 ∧ Blk wr w2.heap.size #[.int .i64 (x : Int), .int .i64 (y : Int), .slice (some ⟨g, 0, none⟩) m m] 24) := fun wr f => ⟨R2.fr f (by omega), R3.fr f (by omega)⟩
  have d0 : W3.cell? ⟨w.heap.size, 2, none⟩ = some (.slice (some ⟨b, off, none⟩) m cap) := by rw [R0.cell]; rfl
  clear R0 R1 R2 R3 HC HC'
  rw [HW3.out] at d0
  go_wp2
  rw [← HW3.out]
  go_loopw [23] (fun i wr => ∃ k : Nat, k ≤ m ∧ i = .int .i64 (k : Int) ∧ Row wr g m (fun j => if j < k then wrap64 (V j + V' j) else 0) ∧ Fr (fun j => j = g) W3 wr) (fun i _ => m - (intOf i).toNat)
  case atStart => exact ⟨0, Nat.zero_le _, rfl, r3.congr (fun j _ => by simp), Fr.refl _ _⟩
  case round =>
    obtain ⟨k, hk, rfl, hr, F⟩ := hrel
    by_cases hlt : k < m
    · have hki : (k : Int) < (m : Int) := by omega
      obtain ⟨e1, e2, e3, e4⟩ := HK.out wr k F hlt
      have e5 := hr.cell hlt
      have e6 := hr.thaw k
      have HR := hid hr
      clear hr
      obtain ⟨u, hu⟩ : ∃ u, V k = u := ⟨_, rfl⟩
      obtain ⟨v, hv⟩ : ∃ v, V' k = v := ⟨_, rfl⟩
      rw [hu] at e3
      rw [hv] at e4
      rw [if_neg (Nat.lt_irrefl k)] at e5
      have HU := hid hu
      have HV := hid hv
      clear hu hv
      go_wp2
      refine wp_region_still_tail 12 (by kernel_rfl) (by kernel_rfl) ?_
      show wpStill Try.prog _ wr.drew (fun a' => wpList Try.prog _ _ _ a' wr.drew) _ _
      simp only [List.take_succ_cons, List.take_zero, List.drop_succ_cons, List.drop_zero]
      repeat still_step
      still_call (padd1_any _ _ _)
      repeat still_step
      refine wpStill_nil ?_
      go_wp2
      go_roundw
      case rel =>
        refine ⟨k + 1, by omega, by go_num, ?_, (F.setCell (p := ⟨g, k, none⟩) (fun _ => rfl) _).drew⟩
        refine ((HR.out.set k (wrap64 (u + v))).congr fun j hj => ?_).fr (Fr.refl (fun _ => False) _).drew (fun h => h)
        by_cases ejk : j = k
        · subst ejk; rw [if_pos rfl, if_pos (by omega), HU.out, HV.out]
        · rw [if_neg ejk]
          by_cases hjk : j < k
          · rw [if_pos hjk, if_pos (by omega)]
          · rw [if_neg hjk, if_neg (by omega)]
      case measure => simp [intOf]; omega
    · have hki : ¬ (k : Int) < (m : Int) := by omega
      obtain rfl : k = m := by omega
      obtain ⟨B2, B3⟩ := HE.out wr F
      have q0 : wr.cell? ⟨w2.heap.size, 0, none⟩ = some (.int .i64 (x : Int)) := by rw [B3.cell]; rfl
      have q1 : wr.cell? ⟨w2.heap.size, 1, none⟩ = some (.int .i64 (y : Int)) := by rw [B3.cell]; rfl
      have q2 : wr.cell? ⟨w2.heap.size, 2, none⟩ = some (.slice (some ⟨g, 0, none⟩) k k) := by rw [B3.cell]; rfl
      have z0 : wr.cell? ⟨w.heap.size + 2, 0, none⟩ = some (.int .i64 0) := by rw [B2.cell]; rfl
      have z1 : wr.cell? ⟨w.heap.size + 2, 1, none⟩ = some (.int .i64 0) := by rw [B2.cell]; rfl
      have z2 : wr.cell? ⟨w.heap.size + 2, 2, none⟩ = some (.slice none 0 0) := by rw [B2.cell]; rfl
      have zf := B2.thaw
      have HR := hid hr
      have HB2 := hid B2
      clear hr B2 B3
      go_wp2
      refine bodyPost_ret (v := .agg #[.int .i64 (x : Int), .int .i64 (y : Int), .slice (some ⟨g, 0, none⟩) k k]) ?_ rfl ⟨some ⟨g, 0, none⟩, k, g, rfl, ?_, fun _ => ⟨by omega, ?_⟩, ?_⟩
      · refine results_cell_row rfl _ _ (w.heap.size + 2) 24 _ (0, 0) _ rfl (show Blk _ _ _ _ from ?_) Try.underlying24 rfl Try.info_plane
        simpa using ((HB2.out.set 0 _).set 1 _).set 2 _
      · refine ((((HR.out.fr (((Fr.refl (fun j => j = w.heap.size + 2) wr).setCell (fun _ => rfl) _).setCell (fun _ => rfl) _ |>.setCell (fun _ => rfl) _) (by omega)).congr fun j hj => ?_)).nums (by unfold maxLen; omega))
        rw [if_pos hj]
      · exact (HR.out.fr (((Fr.refl (fun j => j = w.heap.size + 2) wr).setCell (fun _ => rfl) _).setCell (fun _ => rfl) _ |>.setCell (fun _ => rfl) _) (by omega)).intB
      · exact ((((F3.trans F (fun i hi e => by omega)).setNew (by show _ ≤ _ + 2; omega) _).setNew (by show _ ≤ _ + 2; omega) _).setNew (by show _ ≤ _ + 2; omega) _)

theorem pjoin_add_bad (X Y : Int) (a : Option Addr) (n cap : Nat) (X' Y' : Int) (a' : Option Addr) (n' cap' : Nat) (w : World) (hL : likeP X Y n X' Y' n' = false) :
    Calls Try.prog 26 #[.agg #[.int .i64 X, .int .i64 Y, .slice a n cap], .agg #[.int .i64 X', .int .i64 Y', .slice a' n' cap'], .func (.func 27) #[] #[]] w fun e w' => e = .returned (.agg #[.int .i64 0, .int .i64 0, .slice none 0 0]) ∧ Fr (fun _ => False) w w' := by
  obtain ⟨W, hW⟩ : ∃ W, W = ((w.alloc (.cells #[.int .i64 X, .int .i64 Y, .slice a n cap] 24)).alloc (.cells #[.int .i64 X', .int .i64 Y', .slice a' n' cap'] 24)).alloc (.cells #[.int .i64 0, .int .i64 0, .slice none 0 0] 24) := ⟨_, rfl⟩
  have F0 : Fr (fun _ => False) w W := by rw [hW]; exact (((Fr.refl _ w).alloc _).alloc _).alloc _
  have O2 : Blk W (w.heap.size + 2) #[.int .i64 0, .int .i64 0, .slice none 0 0] 24 := by
    rw [hW]
    have := Blk.new ((w.alloc (.cells #[.int .i64 X, .int .i64 Y, .slice a n cap] 24)).alloc (.cells #[.int .i64 X', .int .i64 Y', .slice a' n' cap'] 24)) #[.int .i64 0, .int .i64 0, .slice none 0 0] 24
    simpa using this
  have HW := hid hW
  clear hW
  go_enter Try.func26, Try.ntmps26
  go_wp2_with fail
  rw [← HW.out]
  refine (palike_any X Y _ n cap X' Y' _ n' cap' W).mono ?_
  rintro e w1 ⟨rfl, f1⟩
  rw [hL]
  have B2 := O2.fr f1 (fun h => h)
  have F1 := F0.trans' f1
  clear O2 F0 f1 HW
  have z0 : w1.cell? ⟨w.heap.size + 2, 0, none⟩ = some (.int .i64 0) := by rw [B2.cell]; rfl
  have z1 : w1.cell? ⟨w.heap.size + 2, 1, none⟩ = some (.int .i64 0) := by rw [B2.cell]; rfl
  have z2 : w1.cell? ⟨w.heap.size + 2, 2, none⟩ = some (.slice none 0 0) := by rw [B2.cell]; rfl
  have zf := B2.thaw
  have HB2 := hid B2
  clear B2
  go_wp2
  refine bodyPost_ret (v := .agg #[.int .i64 0, .int .i64 0, .slice none 0 0]) ?_ rfl ⟨rfl, ?_⟩
  · refine results_cell_row rfl _ _ (w.heap.size + 2) 24 _ (0, 0) _ rfl (show Blk _ _ _ _ from ?_) Try.underlying24 rfl Try.info_plane
    simpa using ((HB2.out.set 0 (.int .i64 0)).set 1 (.int .i64 0)).set 2 (.slice none 0 0)
  · exact (((F1.setNew (by show _ ≤ _ + 2; omega) _).setNew (by show _ ≤ _ + 2; omega) _).setNew (by show _ ≤ _ + 2; omega) _)

set_option maxHeartbeats 1000000 in
theorem pjoin_sub_go (x y : Nat) (a : Option Addr) (cap : Nat) (V : Nat → Int) (b : Nat) (a' : Option Addr) (cap' : Nat) (V' : Nat → Int) (b' : Nat) (w : World) (hx : 1 ≤ x) (hx' : x ≤ 1024) (hy : 1 ≤ y) (hy' : y ≤ 1024) (h : Nums w a (x * y) cap V b) (h' : Nums w a' (x * y) cap' V' b') :
    Calls Try.prog 26 #[.agg #[.int .i64 (x : Int), .int .i64 (y : Int), .slice a (x * y) cap], .agg #[.int .i64 (x : Int), .int .i64 (y : Int), .slice a' (x * y) cap'], .func (.func 29) #[] #[]] w fun e w' => Made w w' e x y (x * y) (fun j => wrap64 (V j - V' j)) := by
  have hm := mul_most hx' hy'
  have hR := rightP_of hx hx' hy hy'
  have hL : likeP (x : Int) (y : Int) (x * y) (x : Int) (y : Int) (x * y) = true := by simp [likeP, hR]
  have hpos : 0 < x * y := Nat.mul_pos (by omega) (by omega)
  have HNew := hid (fun w => pnew_go x y hx hx' hy hy' w)
  have hb := h.lt hpos
  have hb' := h'.lt hpos
  obtain ⟨off, rfl, hc⟩ := h.at' hpos
  obtain ⟨off', rfl, hc'⟩ := h'.at' hpos
  obtain ⟨m, hxy⟩ : ∃ m : Nat, x * y = m := ⟨_, rfl⟩
  rw [hxy] at hm hL hpos HNew hc hc' h h' ⊢
  clear hxy hR hx hx' hy hy' h h'
  have HC := hid hc
  have HC' := hid hc'
  clear hc hc'
  obtain ⟨W, hW⟩ : ∃ W, W = ((w.alloc (.cells #[.int .i64 (x : Int), .int .i64 (y : Int), .slice (some ⟨b, off, none⟩) m cap] 24)).alloc (.cells #[.int .i64 (x : Int), .int .i64 (y : Int), .slice (some ⟨b', off', none⟩) m cap'] 24)).alloc (.cells #[.int .i64 0, .int .i64 0, .slice none 0 0] 24) := ⟨_, rfl⟩
  have F0 : Fr (fun _ => False) w W := by rw [hW]; exact (((Fr.refl _ w).alloc _).alloc _).alloc _
  have hsz : W.heap.size = w.heap.size + 3 := by rw [hW]; simp
  have O0 : Blk W w.heap.size #[.int .i64 (x : Int), .int .i64 (y : Int), .slice (some ⟨b, off, none⟩) m cap] 24 := by rw [hW]; exact ((Blk.new _ _ _).alloc _).alloc _
  have O1 : Blk W (w.heap.size + 1) #[.int .i64 (x : Int), .int .i64 (y : Int), .slice (some ⟨b', off', none⟩) m cap'] 24 := by
    rw [hW]
    have := Blk.new (w.alloc (.cells #[.int .i64 (x : Int), .int .i64 (y : Int), .slice (some ⟨b, off, none⟩) m cap] 24)) #[.int .i64 (x : Int), .int .i64 (y : Int), .slice (some ⟨b', off', none⟩) m cap'] 24
    simp at this
    exact this.alloc _
  have O2 : Blk W (w.heap.size + 2) #[.int .i64 0, .int .i64 0, .slice none 0 0] 24 := by
    rw [hW]
    have := Blk.new ((w.alloc (.cells #[.int .i64 (x : Int), .int .i64 (y : Int), .slice (some ⟨b, off, none⟩) m cap] 24)).alloc (.cells #[.int .i64 (x : Int), .int .i64 (y : Int), .slice (some ⟨b', off', none⟩) m cap'] 24)) #[.int .i64 0, .int .i64 0, .slice none 0 0] 24
    simpa using this
  have HW := hid hW
  clear hW
  go_enter Try.func26, Try.ntmps26
  go_wp2_with fail
  rw [← HW.out]
  refine (palike_any x y _ m cap x y _ m cap' W).mono ?_
  rintro e w1 ⟨rfl, f1⟩
  rw [hL]
  have P0 := O0.fr f1 (fun h => h)
  have P1 := O1.fr f1 (fun h => h)
  have P2 := O2.fr f1 (fun h => h)
  have F1 := F0.trans' f1
  have s1 := f1.size
  clear O0 O1 O2 F0 f1 HW
  have c0 : w1.cell? ⟨w.heap.size, 0, none⟩ = some (.int .i64 (x : Int)) := by rw [P0.cell]; rfl
  have c1 : w1.cell? ⟨w.heap.size, 1, none⟩ = some (.int .i64 (y : Int)) := by rw [P0.cell]; rfl
  go_wp2_with fail
  refine (HNew.out w1).mono ?_
  rintro e w2 ⟨g, rfl, hrow, hg, f2⟩
  have hgl := hrow.lt
  have Q0 := P0.fr f2 (fun h => h)
  have Q1 := P1.fr f2 (fun h => h)
  have Q2 := P2.fr f2 (fun h => h)
  have F2 := F1.trans' f2
  clear P0 P1 P2 F1 f2 c0 c1 HNew
  obtain ⟨W3, hW3⟩ : ∃ W3, W3 = w2.alloc (.cells #[.int .i64 (x : Int), .int .i64 (y : Int), .slice (some ⟨g, 0, none⟩) m m] 24) := ⟨_, rfl⟩
  have F3 : Fr (fun _ => False) w W3 := by rw [hW3]; exact F2.alloc _
  have r3 : Row W3 g m (fun _ => 0) := by rw [hW3]; exact hrow.quiet ((Fr.refl _ w2).alloc _)
  have R0 : Blk W3 w.heap.size #[.int .i64 (x : Int), .int .i64 (y : Int), .slice (some ⟨b, off, none⟩) m cap] 24 := by rw [hW3]; exact Q0.alloc _
  have R1 : Blk W3 (w.heap.size + 1) #[.int .i64 (x : Int), .int .i64 (y : Int), .slice (some ⟨b', off', none⟩) m cap'] 24 := by rw [hW3]; exact Q1.alloc _
  have R2 : Blk W3 (w.heap.size + 2) #[.int .i64 0, .int .i64 0, .slice none 0 0] 24 := by rw [hW3]; exact Q2.alloc _
  have R3 : Blk W3 w2.heap.size #[.int .i64 (x : Int), .int .i64 (y : Int), .slice (some ⟨g, 0, none⟩) m m] 24 := by rw [hW3]; exact Blk.new _ _ _
  have HW3 := hid hW3
  clear hW3 Q0 Q1 Q2 F2 hrow
  have HK : Hid (∀ wr k, Fr (fun j => j = g) W3 wr → k < m → wr.cell? ⟨w.heap.size + 1, 2, none⟩ = some (.slice (some ⟨b', off', none⟩) m cap') ∧ wr.cell? ⟨w2.heap.size, 2, none⟩ = some (.slice (some ⟨g, 0, none⟩) m m) ∧ wr.cell? ⟨b, off + k, none⟩ = some (.int .i64 (V k)) ∧ wr.cell? ⟨b', off' + k, none⟩ = some (.int .i64 (V' k))) := by
    intro wr k f hk
    have e1 := HC.out k hk
    have e2 := HC'.out k hk
    have e3 := (F3.cell (p := ⟨b, off + k, none⟩) (cell_lt e1) (fun h => h)).trans e1
    have e4 := (F3.cell (p := ⟨b', off' + k, none⟩) (cell_lt e2) (fun h => h)).trans e2
    refine ⟨by rw [(R1.fr f (by omega)).cell]; rfl, by rw [(R3.fr f (by omega)).cell]; rfl, (f.cell (p := ⟨b, off + k, none⟩) (cell_lt e3) (by show ¬ b = g; omega)).trans e3, (f.cell (p := ⟨b', off' + k, none⟩) (cell_lt e4) (by show ¬ b' = g; omega)).trans e4⟩
  have HE : Hid (∀ wr, Fr (fun j => j = g) W3 wr → Blk wr (w.heap.size + 2) #[.int .i64 0, .int .i64 0, .slice none 0 0] 24 ∧ Blk wr w2.heap.size #[.int .i64 (x : Int), .int .i64 (y : Int), .slice (some ⟨g, 0, none⟩) m m] 24) := fun wr f => ⟨R2.fr f (by omega), R3.fr f (by omega)⟩
  have d0 : W3.cell? ⟨w.heap.size, 2, none⟩ = some (.slice (some ⟨b, off, none⟩) m cap) := by rw [R0.cell]; rfl
  clear R0 R1 R2 R3 HC HC'
  rw [HW3.out] at d0
  go_wp2
  rw [← HW3.out]
  go_loopw [23] (fun i wr => ∃ k : Nat, k ≤ m ∧ i = .int .i64 (k : Int) ∧ Row wr g m (fun j => if j < k then wrap64 (V j - V' j) else 0) ∧ Fr (fun j => j = g) W3 wr) (fun i _ => m - (intOf i).toNat)
  case atStart => exact ⟨0, Nat.zero_le _, rfl, r3.congr (fun j _ => by simp), Fr.refl _ _⟩
  case round =>
    obtain ⟨k, hk, rfl, hr, F⟩ := hrel
    by_cases hlt : k < m
    · have hki : (k : Int) < (m : Int) := by omega
      obtain ⟨e1, e2, e3, e4⟩ := HK.out wr k F hlt
      have e5 := hr.cell hlt
      have e6 := hr.thaw k
      have HR := hid hr
      clear hr
      obtain ⟨u, hu⟩ : ∃ u, V k = u := ⟨_, rfl⟩
      obtain ⟨v, hv⟩ : ∃ v, V' k = v := ⟨_, rfl⟩
      rw [hu] at e3
      rw [hv] at e4
      rw [if_neg (Nat.lt_irrefl k)] at e5
      have HU := hid hu
      have HV := hid hv
      clear hu hv
      go_wp2
      refine wp_region_still_tail 12 (by kernel_rfl) (by kernel_rfl) ?_
      show wpStill Try.prog _ wr.drew (fun a' => wpList Try.prog _ _ _ a' wr.drew) _ _
      simp only [List.take_succ_cons, List.take_zero, List.drop_succ_cons, List.drop_zero]
      repeat still_step
      still_call (psub1_any _ _ _)
      repeat still_step
      refine wpStill_nil ?_
      go_wp2
      go_roundw
      case rel =>
        refine ⟨k + 1, by omega, by go_num, ?_, (F.setCell (p := ⟨g, k, none⟩) (fun _ => rfl) _).drew⟩
        refine ((HR.out.set k (wrap64 (u - v))).congr fun j hj => ?_).fr (Fr.refl (fun _ => False) _).drew (fun h => h)
        by_cases ejk : j = k
        · subst ejk; rw [if_pos rfl, if_pos (by omega), HU.out, HV.out]
        · rw [if_neg ejk]
          by_cases hjk : j < k
          · rw [if_pos hjk, if_pos (by omega)]
          · rw [if_neg hjk, if_neg (by omega)]
      case measure => simp [intOf]; omega
    · have hki : ¬ (k : Int) < (m : Int) := by omega
      obtain rfl : k = m := by omega
      obtain ⟨B2, B3⟩ := HE.out wr F
      have q0 : wr.cell? ⟨w2.heap.size, 0, none⟩ = some (.int .i64 (x : Int)) := by rw [B3.cell]; rfl
      have q1 : wr.cell? ⟨w2.heap.size, 1, none⟩ = some (.int .i64 (y : Int)) := by rw [B3.cell]; rfl
      have q2 : wr.cell? ⟨w2.heap.size, 2, none⟩ = some (.slice (some ⟨g, 0, none⟩) k k) := by rw [B3.cell]; rfl
      have z0 : wr.cell? ⟨w.heap.size + 2, 0, none⟩ = some (.int .i64 0) := by rw [B2.cell]; rfl
      have z1 : wr.cell? ⟨w.heap.size + 2, 1, none⟩ = some (.int .i64 0) := by rw [B2.cell]; rfl
      have z2 : wr.cell? ⟨w.heap.size + 2, 2, none⟩ = some (.slice none 0 0) := by rw [B2.cell]; rfl
      have zf := B2.thaw
      have HR := hid hr
      have HB2 := hid B2
      clear hr B2 B3
      go_wp2
      refine bodyPost_ret (v := .agg #[.int .i64 (x : Int), .int .i64 (y : Int), .slice (some ⟨g, 0, none⟩) k k]) ?_ rfl ⟨some ⟨g, 0, none⟩, k, g, rfl, ?_, fun _ => ⟨by omega, ?_⟩, ?_⟩
      · refine results_cell_row rfl _ _ (w.heap.size + 2) 24 _ (0, 0) _ rfl (show Blk _ _ _ _ from ?_) Try.underlying24 rfl Try.info_plane
        simpa using ((HB2.out.set 0 _).set 1 _).set 2 _
      · refine ((((HR.out.fr (((Fr.refl (fun j => j = w.heap.size + 2) wr).setCell (fun _ => rfl) _).setCell (fun _ => rfl) _ |>.setCell (fun _ => rfl) _) (by omega)).congr fun j hj => ?_)).nums (by unfold maxLen; omega))
        rw [if_pos hj]
      · exact (HR.out.fr (((Fr.refl (fun j => j = w.heap.size + 2) wr).setCell (fun _ => rfl) _).setCell (fun _ => rfl) _ |>.setCell (fun _ => rfl) _) (by omega)).intB
      · exact ((((F3.trans F (fun i hi e => by omega)).setNew (by show _ ≤ _ + 2; omega) _).setNew (by show _ ≤ _ + 2; omega) _).setNew (by show _ ≤ _ + 2; omega) _)

theorem pjoin_sub_bad (X Y : Int) (a : Option Addr) (n cap : Nat) (X' Y' : Int) (a' : Option Addr) (n' cap' : Nat) (w : World) (hL : likeP X Y n X' Y' n' = false) :
    Calls Try.prog 26 #[.agg #[.int .i64 X, .int .i64 Y, .slice a n cap], .agg #[.int .i64 X', .int .i64 Y', .slice a' n' cap'], .func (.func 29) #[] #[]] w fun e w' => e = .returned (.agg #[.int .i64 0, .int .i64 0, .slice none 0 0]) ∧ Fr (fun _ => False) w w' := by
  obtain ⟨W, hW⟩ : ∃ W, W = ((w.alloc (.cells #[.int .i64 X, .int .i64 Y, .slice a n cap] 24)).alloc (.cells #[.int .i64 X', .int .i64 Y', .slice a' n' cap'] 24)).alloc (.cells #[.int .i64 0, .int .i64 0, .slice none 0 0] 24) := ⟨_, rfl⟩
  have F0 : Fr (fun _ => False) w W := by rw [hW]; exact (((Fr.refl _ w).alloc _).alloc _).alloc _
  have O2 : Blk W (w.heap.size + 2) #[.int .i64 0, .int .i64 0, .slice none 0 0] 24 := by
    rw [hW]
    have := Blk.new ((w.alloc (.cells #[.int .i64 X, .int .i64 Y, .slice a n cap] 24)).alloc (.cells #[.int .i64 X', .int .i64 Y', .slice a' n' cap'] 24)) #[.int .i64 0, .int .i64 0, .slice none 0 0] 24
    simpa using this
  have HW := hid hW
  clear hW
  go_enter Try.func26, Try.ntmps26
  go_wp2_with fail
  rw [← HW.out]
  refine (palike_any X Y _ n cap X' Y' _ n' cap' W).mono ?_
  rintro e w1 ⟨rfl, f1⟩
  rw [hL]
  have B2 := O2.fr f1 (fun h => h)
  have F1 := F0.trans' f1
  clear O2 F0 f1 HW
  have z0 : w1.cell? ⟨w.heap.size + 2, 0, none⟩ = some (.int .i64 0) := by rw [B2.cell]; rfl
  have z1 : w1.cell? ⟨w.heap.size + 2, 1, none⟩ = some (.int .i64 0) := by rw [B2.cell]; rfl
  have z2 : w1.cell? ⟨w.heap.size + 2, 2, none⟩ = some (.slice none 0 0) := by rw [B2.cell]; rfl
  have zf := B2.thaw
  have HB2 := hid B2
  clear B2
  go_wp2
  refine bodyPost_ret (v := .agg #[.int .i64 0, .int .i64 0, .slice none 0 0]) ?_ rfl ⟨rfl, ?_⟩
  · refine results_cell_row rfl _ _ (w.heap.size + 2) 24 _ (0, 0) _ rfl (show Blk _ _ _ _ from ?_) Try.underlying24 rfl Try.info_plane
    simpa using ((HB2.out.set 0 (.int .i64 0)).set 1 (.int .i64 0)).set 2 (.slice none 0 0)
  · exact (((F1.setNew (by show _ ≤ _ + 2; omega) _).setNew (by show _ ≤ _ + 2; omega) _).setNew (by show _ ≤ _ + 2; omega) _)
end Go.Proofs.Ythhhecdnnbgddaa
