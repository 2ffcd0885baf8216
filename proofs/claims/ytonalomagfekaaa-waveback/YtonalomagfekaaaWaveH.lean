/-
  Package wave: planes that are padded (Pad).
-/
import Derived.Test.YtonalomagfekaaaRef9D
import Derived.Test.YtonalomagfekaaaPlaneW
namespace Go.Proofs.Ytonalomagfekaaa
open Go.RowKit

/-- A plane as a value, its numbers in new memory, if there are any. -/
def MadeV (w : World) (v : Value) (B : Nat) (X Y : Int) (n : Nat) (V : Nat → Int) : Prop := ∃ a cap b, v = .agg #[.int .i64 X, .int .i64 Y, .slice a n cap] ∧ Nums w a n cap V b ∧ (0 < n → B ≤ b ∧ IntB w b)
theorem MadeV.quiet {w w' : World} {v : Value} {B : Nat} {X Y : Int} {n : Nat} {V : Nat → Int} (h : MadeV w v B X Y n V) (f : Fr (fun _ => False) w w') : MadeV w' v B X Y n V := by
  obtain ⟨a, cap, b, e, hn, hi⟩ := h
  exact ⟨a, cap, b, e, hn.quiet f, fun h => ⟨(hi h).1, (hi h).2.quiet f⟩⟩
def StayP.madeV (B : Nat) (X Y : Int) (n : Nat) (V : Nat → Int) : StayP := ⟨fun v w => MadeV w v B X Y n V, fun h f => h.quiet f⟩

theorem padU_most {n k : Nat} (h : n ≤ 1024) (hk : k ≤ 6) : padU n (2 ^ k) ≤ 1024 := by
  obtain ⟨hu1, _⟩ := pow_small hk
  obtain ⟨_, b, c⟩ := padU_lo (n := n) hu1
  have h4 : 1024 % 2 ^ k = 0 := by
    have : k = 0 ∨ k = 1 ∨ k = 2 ∨ k = 3 ∨ k = 4 ∨ k = 5 ∨ k = 6 := by omega
    rcases this with rfl | rfl | rfl | rfl | rfl | rfl | rfl <;> decide
  generalize 2 ^ k = u at *
  have e1 := Nat.div_add_mod (padU n u) u
  have e2 := Nat.div_add_mod 1024 u
  rw [c] at e1
  rw [h4] at e2
  generalize padU n u = P at *
  generalize P / u = p at *
  generalize 1024 / u = q at *
  rcases Nat.lt_or_ge q p with h | h
  · have := Nat.mul_le_mul_left u (show q + 1 ≤ p from h)
    rw [Nat.mul_add, Nat.mul_one] at this
    omega
  · have := Nat.mul_le_mul_left u h
    omega
/-- Is there a padded plane? Its sides, how many numbers it has, and these. -/
def padOk (X Y : Int) (n : Nat) (d : Int) : Bool := rightP X Y n && deepB d
def padX (X Y : Int) (n : Nat) (d : Int) : Int := okI (padOk X Y n d) (padN X d)
def padY (X Y : Int) (n : Nat) (d : Int) : Int := okI (padOk X Y n d) (padN Y d)
def padL (X Y : Int) (n : Nat) (d : Int) : Nat := okN2 (padOk X Y n d) ((padN X d).toNat * (padN Y d).toNat)
def padV (X Y : Int) (V : Nat → Int) (d : Int) : Nat → Int := sizedV X.toNat Y.toNat V (padN X d).toNat
theorem pad_any (X Y : Int) (a : Option Addr) (n cap : Nat) (V : Nat → Int) (b : Nat) (d : Int) (w : World) (h : Nums w a n cap V b) :
    Calls Try.prog 35 #[.agg #[.int .i64 X, .int .i64 Y, .slice a n cap], .int .i64 (padN X d), .int .i64 (padN Y d)] w fun e w' => Made w w' e (padX X Y n d) (padY X Y n d) (padL X Y n d) (padV X Y V d) := by
  unfold padX padY padL padV
  cases hok : padOk X Y n d with
  | false =>
    refine (ppad_zero X Y a n cap _ _ w ?_).mono fun e w' hM => ?_
    · cases hr : rightP X Y n with
      | false => exact .inl rfl
      | true =>
        have hd : deepB d = false := by rw [padOk, hr, Bool.true_and] at hok; exact hok
        have e0 : padN X d = 0 := padN_out fun h => by have := deepB_iff.2 h.2.2; rw [hd] at this; cases this
        have := (rightP_iff.1 hr).1
        exact .inr (.inl (by omega))
    · exact hM.congr (fun j hj => by omega)
  | true =>
    obtain ⟨hr, hd⟩ : rightP X Y n = true ∧ deepB d = true := by simpa [padOk] using hok
    obtain ⟨x, y, rfl, rfl, hx, hx', hy, hy', rfl⟩ := rightP_nat hr
    obtain ⟨k, rfl, hk⟩ := deepB_nat hd
    obtain ⟨hu1, _⟩ := pow_small hk
    obtain ⟨ax, bx, _⟩ := padU_lo (n := x) hu1
    obtain ⟨ay, bY, _⟩ := padU_lo (n := y) hu1
    have mx := padU_most hx' hk
    have my := padU_most hy' hk
    rw [padN_in hx hx' hk, padN_in hy hy' hk]
    exact ppad_go x y _ _ a cap V b w (by omega) mx (by omega) my hx hx' hy hy' ax ay h

set_option maxRecDepth 100000 in
set_option maxHeartbeats 1000000 in
theorem wpad_any (X Y : Int) (a : Option Addr) (n cap : Nat) (V : Nat → Int) (b : Nat) (d : Int) (w : World) (h : Nums w a n cap V b) :
    Calls Try.prog 19 #[.agg #[.int .i64 X, .int .i64 Y, .slice a n cap], .int .i64 d] w fun e w' => Gave w w' e (padX X Y n d) (padY X Y n d) (padL X Y n d) (padV X Y V d) := by
  have HPad := hid (fun w1 h1 => pad_any X Y a n cap V b d w1 h1)
  have HU := hid (fun w1 => wpadded_any X d w1)
  have HV := hid (fun w1 => wpadded_any Y d w1)
  obtain ⟨u, hu⟩ : ∃ u, u = padN X d := ⟨_, rfl⟩
  obtain ⟨v, hv⟩ : ∃ v, v = padN Y d := ⟨_, rfl⟩
  obtain ⟨RX, hRX⟩ : ∃ z, z = padX X Y n d := ⟨_, rfl⟩
  obtain ⟨RY, hRY⟩ : ∃ z, z = padY X Y n d := ⟨_, rfl⟩
  obtain ⟨rn, hrn⟩ : ∃ z, z = padL X Y n d := ⟨_, rfl⟩
  obtain ⟨RV, hRV⟩ : ∃ z, z = padV X Y V d := ⟨_, rfl⟩
  rw [← hRX, ← hRY, ← hrn, ← hRV, ← hu, ← hv] at HPad
  rw [← hRX, ← hRY, ← hrn, ← hRV]
  rw [← hu] at HU
  rw [← hv] at HV
  obtain ⟨W, hW⟩ : ∃ W, W = (w.alloc (.cells #[.int .i64 X, .int .i64 Y, .slice a n cap] 25)).alloc (.cells #[.int .i64 0, .int .i64 0, .slice none 0 0] 25) := ⟨_, rfl⟩
  have F0 : Fr (fun _ => False) w W := by rw [hW]; exact ((Fr.refl _ w).alloc _).alloc _
  have O0 : Blk W w.heap.size #[.int .i64 X, .int .i64 Y, .slice a n cap] 25 := by rw [hW]; exact (Blk.new _ _ _).alloc _
  have O1 : Blk W (w.heap.size + 1) #[.int .i64 0, .int .i64 0, .slice none 0 0] 25 := by
    rw [hW]
    have := Blk.new (w.alloc (.cells #[.int .i64 X, .int .i64 Y, .slice a n cap] 25)) #[.int .i64 0, .int .i64 0, .slice none 0 0] 25
    simpa using this
  have HC : Hid (∀ wq, Fr (fun _ => False) W.drew wq → (wq.cell? ⟨w.heap.size, 0, none⟩ = some (.int .i64 X) ∧ wq.cell? ⟨w.heap.size, 1, none⟩ = some (.int .i64 Y) ∧ wq.cell? ⟨w.heap.size, 2, none⟩ = some (.slice a n cap)) ∧ Blk wq (w.heap.size + 1) #[.int .i64 0, .int .i64 0, .slice none 0 0] 25 ∧ Nums wq a n cap V b ∧ Fr (fun _ => False) w wq ∧ w.heap.size + 2 ≤ wq.heap.size) := by
    intro wq fq
    have fq' := (Fr.refl (fun _ => False) W).drew.trans' fq
    have B1 := O0.fr fq' (fun h => h)
    exact ⟨⟨by rw [B1.cell]; rfl, by rw [B1.cell]; rfl, by rw [B1.cell]; rfl⟩, O1.fr fq' (fun h => h), h.quiet (F0.trans' fq'), F0.trans' fq', by have := O1.lt; have := fq'.size; omega⟩
  have HW := hid hW
  clear hW h O0 O1 F0 hu hv hRX hRY hrn hRV
  go_enter Try.func19, Try.ntmps19
  go_wp2
  rw [← HW.out]
  refine weaveS 10 [.eq (Value.agg #[.int .i64 X, .int .i64 Y, .slice a n cap]), .eq (Value.pointer (some ⟨w.heap.size, 0, none⟩)), .eq (Value.int .i64 X), .eq (Value.int .i64 d), .eq (Value.int .i64 u), .eq (Value.pointer (some ⟨w.heap.size, 1, none⟩)), .eq (Value.int .i64 Y), .eq (Value.int .i64 d), .eq (Value.int .i64 v), .madeV (w.heap.size + 2) RX RY rn RV] (by kernel_rfl) (by kernel_rfl) ?obls ?tail
  case obls =>
    simp only [List.take_succ_cons, List.take_zero]
    refine ⟨?_, ?_, ?_, ?_, ?_, ?_, ?_, ?_, ?_, ?_, trivial⟩
    · intro vals wq f h
      simp only [fillA, fillT, List.setIfInBounds_toArray, List.set_cons_succ, List.set_cons_zero, Option.getD_some, Nat.zero_add, Nat.reduceAdd]
      obtain ⟨⟨c0, c1, c2⟩, _, _, _, _⟩ := HC.out wq f
      clear h
      go_wp2
      exact ⟨rfl, rfl, _, rfl, Fr.refl _ _, rfl⟩
    · intro vals wq f h
      simp only [fillA, fillT, List.setIfInBounds_toArray, List.set_cons_succ, List.set_cons_zero, Option.getD_some, Nat.zero_add, Nat.reduceAdd]
      obtain ⟨⟨c0, c1, c2⟩, _, _, _, _⟩ := HC.out wq f
      clear h
      go_wp2
      exact ⟨rfl, rfl, _, rfl, Fr.refl _ _, rfl⟩
    · intro vals wq f h
      simp only [fillA, fillT, List.setIfInBounds_toArray, List.set_cons_succ, List.set_cons_zero, Option.getD_some, Nat.zero_add, Nat.reduceAdd]
      have h1 : vals 1 = Value.pointer (some ⟨w.heap.size, 0, none⟩) := h 1 (by kernel_rfl)
      rw [h1]
      obtain ⟨⟨c0, c1, c2⟩, _, _, _, _⟩ := HC.out wq f
      clear h
      go_wp2
      exact ⟨rfl, rfl, _, rfl, Fr.refl _ _, rfl⟩
    · intro vals wq f h
      simp only [fillA, fillT, List.setIfInBounds_toArray, List.set_cons_succ, List.set_cons_zero, Option.getD_some, Nat.zero_add, Nat.reduceAdd]
      obtain ⟨⟨c0, c1, c2⟩, _, _, _, _⟩ := HC.out wq f
      clear h
      go_wp2
      exact ⟨rfl, rfl, _, rfl, Fr.refl _ _, rfl⟩
    · intro vals wq f h
      simp only [fillA, fillT, List.setIfInBounds_toArray, List.set_cons_succ, List.set_cons_zero, Option.getD_some, Nat.zero_add, Nat.reduceAdd]
      have h2 : vals 2 = Value.int .i64 X := h 2 (by kernel_rfl)
      rw [h2]
      have h3 : vals 3 = Value.int .i64 d := h 3 (by kernel_rfl)
      rw [h3]
      obtain ⟨⟨c0, c1, c2⟩, _, _, _, _⟩ := HC.out wq f
      clear h
      clear c0 c1 c2
      go_wp2_with fail
      refine (HU.out wq).mono ?_
      rintro e w6 ⟨rfl, rfl⟩
      go_wp2
      exact ⟨rfl, rfl, _, rfl, Fr.refl _ _, rfl⟩
    · intro vals wq f h
      simp only [fillA, fillT, List.setIfInBounds_toArray, List.set_cons_succ, List.set_cons_zero, Option.getD_some, Nat.zero_add, Nat.reduceAdd]
      obtain ⟨⟨c0, c1, c2⟩, _, _, _, _⟩ := HC.out wq f
      clear h
      go_wp2
      exact ⟨rfl, rfl, _, rfl, Fr.refl _ _, rfl⟩
    · intro vals wq f h
      simp only [fillA, fillT, List.setIfInBounds_toArray, List.set_cons_succ, List.set_cons_zero, Option.getD_some, Nat.zero_add, Nat.reduceAdd]
      have h5 : vals 5 = Value.pointer (some ⟨w.heap.size, 1, none⟩) := h 5 (by kernel_rfl)
      rw [h5]
      obtain ⟨⟨c0, c1, c2⟩, _, _, _, _⟩ := HC.out wq f
      clear h
      go_wp2
      exact ⟨rfl, rfl, _, rfl, Fr.refl _ _, rfl⟩
    · intro vals wq f h
      simp only [fillA, fillT, List.setIfInBounds_toArray, List.set_cons_succ, List.set_cons_zero, Option.getD_some, Nat.zero_add, Nat.reduceAdd]
      obtain ⟨⟨c0, c1, c2⟩, _, _, _, _⟩ := HC.out wq f
      clear h
      go_wp2
      exact ⟨rfl, rfl, _, rfl, Fr.refl _ _, rfl⟩
    · intro vals wq f h
      simp only [fillA, fillT, List.setIfInBounds_toArray, List.set_cons_succ, List.set_cons_zero, Option.getD_some, Nat.zero_add, Nat.reduceAdd]
      have h6 : vals 6 = Value.int .i64 Y := h 6 (by kernel_rfl)
      rw [h6]
      have h7 : vals 7 = Value.int .i64 d := h 7 (by kernel_rfl)
      rw [h7]
      obtain ⟨⟨c0, c1, c2⟩, _, _, _, _⟩ := HC.out wq f
      clear h
      clear c0 c1 c2
      go_wp2_with fail
      refine (HV.out wq).mono ?_
      rintro e w6 ⟨rfl, rfl⟩
      go_wp2
      exact ⟨rfl, rfl, _, rfl, Fr.refl _ _, rfl⟩
    · intro vals wq f h
      simp only [fillA, fillT, List.setIfInBounds_toArray, List.set_cons_succ, List.set_cons_zero, Option.getD_some, Nat.zero_add, Nat.reduceAdd]
      have h0 : vals 0 = Value.agg #[.int .i64 X, .int .i64 Y, .slice a n cap] := h 0 (by kernel_rfl)
      rw [h0]
      have h4 : vals 4 = Value.int .i64 u := h 4 (by kernel_rfl)
      rw [h4]
      have h8 : vals 8 = Value.int .i64 v := h 8 (by kernel_rfl)
      rw [h8]
      obtain ⟨⟨c0, c1, c2⟩, _, _, _, _⟩ := HC.out wq f
      clear h
      have HB0 := HC.out wq f
      have hsz := HB0.2.2.2.2
      clear c0 c1 c2
      go_wp2_with fail
      refine (HPad.out wq HB0.2.2.1).mono ?_
      rintro e w6 ⟨a6, cp, b6, rfl, n6, i6, f6⟩
      have HN6 := hid n6
      have HI6 := hid i6
      clear n6 i6
      go_wp2
      exact ⟨rfl, rfl, _, rfl, f6, _, _, _, rfl, HN6.out, fun h => ⟨by have := (HI6.out h).1; omega, (HI6.out h).2⟩⟩
  case tail =>
    intro vals wq f h
    simp only [List.take_succ_cons, List.take_zero, fillA, fillT, List.setIfInBounds_toArray, List.set_cons_succ, List.set_cons_zero, List.drop_succ_cons, List.drop_zero, Nat.zero_add, Nat.reduceAdd]
    obtain ⟨a9, k9, b9, h9, n9, i9⟩ : MadeV wq (vals 9) (w.heap.size + 2) RX RY rn RV := h 9 (by omega)
    rw [h9]
    obtain ⟨_, BZ, _, FE, hsz⟩ := HC.out wq f
    have z0 : wq.cell? ⟨w.heap.size + 1, 0, none⟩ = some (.int .i64 0) := by rw [BZ.cell]; rfl
    have z1 : wq.cell? ⟨w.heap.size + 1, 1, none⟩ = some (.int .i64 0) := by rw [BZ.cell]; rfl
    have z2 : wq.cell? ⟨w.heap.size + 1, 2, none⟩ = some (.slice none 0 0) := by rw [BZ.cell]; rfl
    have zf := BZ.thaw
    have HBZ := hid BZ
    have HFE := hid FE
    have HN9 := hid n9
    have HI9 := hid i9
    clear h h9 n9 i9 BZ FE
    gi_wp2
    go_wp2
    refine bodyPost_ret (v := .agg #[.int .i64 RX, .int .i64 RY, .slice a9 rn k9]) ?_ rfl ⟨_, _, b9, rfl, HN9.out.fr (fr_put3 _ _ _ _ _) (fun h => by have := (HI9.out h).1; omega), HFE.out.put3New (by omega) _ _ _⟩
    exact results_cell_row rfl _ _ (w.heap.size + 1) 25 _ (0, 0) _ rfl (show Blk _ _ _ _ from HBZ.out.put3 _ _ _) Try.underlying25 rfl Try.info_plane
end Go.Proofs.Ytonalomagfekaaa
