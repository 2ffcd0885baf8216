/-
  WaveBack: its walk.
-/
import Derived.Test.YtonalomagfekaaaFirst9
import Derived.Test.YtonalomagfekaaaWeaveT
namespace Go.Proofs.Ytonalomagfekaaa
open Go.RowKit

/-- A plane as a value, all its memory its own. -/
def EvenP (w : World) (v : Value) (B : Nat) (X Y : Int) (n : Nat) (V : Nat → Int) : Prop := ∃ g, v = .agg #[.int .i64 X, .int .i64 Y, .slice (some ⟨g, 0, none⟩) n n] ∧ Row w g n V ∧ B ≤ g
theorem EvenP.quiet {w w' : World} {v : Value} {B : Nat} {X Y : Int} {n : Nat} {V : Nat → Int} (h : EvenP w v B X Y n V) (f : Fr (fun _ => False) w w') : EvenP w' v B X Y n V := by
  obtain ⟨g, e, r, l⟩ := h
  exact ⟨g, e, r.quiet f, l⟩
def StayP.evenP (B : Nat) (X Y : Int) (n : Nat) (V : Nat → Int) : StayP := ⟨fun v w => EvenP w v B X Y n V, fun h f => h.quiet f⟩
theorem dbl_eq (f k : Nat) (c : Int) : dblN f k c = if f = 3 then c else 2 ^ k * c := by
  induction k generalizing c with
  | zero => show c = _; split <;> simp
  | succ k ih =>
    show dblN f k (dblC f c) = _
    rw [ih]
    unfold dblC
    split
    · rfl
    · rw [Int.pow_succ, Int.mul_assoc]
theorem dbl_ne {f k : Nat} {c : Int} (hk : k ≤ 6) (h : c ≠ 0) : dblN f k c ≠ 0 := by
  rw [dbl_eq]
  split
  · exact h
  · have : k = 0 ∨ k = 1 ∨ k = 2 ∨ k = 3 ∨ k = 4 ∨ k = 5 ∨ k = 6 := by omega
    rcases this with rfl | rfl | rfl | rfl | rfl | rfl | rfl <;> omega
theorem dbl_zero (f k : Nat) : dblN f k 0 = 0 := by rw [dbl_eq]; split <;> simp
theorem back_room {d : Nat} (hd : d ≤ 6) : ((4294967296 : Int) + 1) * 13 ^ d ≤ 117093590311632896 ∧ (32768 : Int) * 2 ^ d ≤ 1073741823 := by
  have : d = 0 ∨ d = 1 ∨ d = 2 ∨ d = 3 ∨ d = 4 ∨ d = 5 ∨ d = 6 := by omega
  rcases this with rfl | rfl | rfl | rfl | rfl | rfl | rfl <;> decide +kernel
theorem padU_fits {n k : Nat} (h : 1 ≤ n) (hk : k ≤ 6) : FitsN k (padU n (2 ^ k)) := by
  obtain ⟨a, _, c⟩ := padU_lo (n := n) (pow_small hk).1
  exact ⟨by omega, c⟩

set_option maxRecDepth 100000 in
set_option maxHeartbeats 4000000 in
theorem back9_big (k8 : Nat) (X Y : Int) (a : Option Addr) (n cap : Nat) (h0 h1 : Int) (w : World) (hlen : (n : Int) ≤ 9223372036854775807) (hbig : decide (4200 < n) = true) :
    Calls Try.prog 5 #[.int .u8 (k8 : Int), .agg #[.int .i64 X, .int .i64 Y, .slice a n cap], .agg #[.int .i16 h0, .int .i16 h1]] w fun e w' => e = .returned (.bool true) ∧ Fr (fun _ => False) w w' := by
  obtain ⟨W, hW⟩ : ∃ W, W = (w.alloc (.cells #[.int .i64 X, .int .i64 Y, .slice a n cap] 25)).alloc (.cells #[.int .i16 h0, .int .i16 h1] 37) := ⟨_, rfl⟩
  have F0 : Fr (fun _ => False) w W := by rw [hW]; exact ((Fr.refl _ w).alloc _).alloc _
  have O0 : Blk W w.heap.size #[.int .i64 X, .int .i64 Y, .slice a n cap] 25 := by rw [hW]; exact (Blk.new _ _ _).alloc _
  have O1 : Blk W (w.heap.size + 1) #[.int .i16 h0, .int .i16 h1] 37 := by
    rw [hW]
    have := Blk.new (w.alloc (.cells #[.int .i64 X, .int .i64 Y, .slice a n cap] 25)) #[.int .i16 h0, .int .i16 h1] 37
    simpa using this
  have HW := hid hW
  clear hW
  go_enter Try.func5, Try.ntmps5
  go_wp2_with fail
  rw [← HW.out]
  refine (first9_any W).mono ?_
  rintro e w1 ⟨rfl, f1⟩
  have P1 := O0.fr f1 (fun h => h)
  have H1 := O1.fr f1 (fun h => h)
  have F1 := F0.trans' f1
  have hs1 := H1.lt
  have c0 : w1.cell? ⟨w.heap.size, 0, none⟩ = some (.int .i64 X) := by rw [P1.cell]; rfl
  have c1 : w1.cell? ⟨w.heap.size, 1, none⟩ = some (.int .i64 Y) := by rw [P1.cell]; rfl
  have c2 : w1.cell? ⟨w.heap.size, 2, none⟩ = some (.slice a n cap) := by rw [P1.cell]; rfl
  go_wp2_with fail
  refine (big9_any X Y a n cap w1 hlen).mono ?_
  rintro e w2 ⟨rfl, f2⟩
  rw [hbig]
  have P2 := P1.fr f2 (fun h => h)
  have H2 := H1.fr f2 (fun h => h)
  have F2 := F1.trans' f2
  clear P1 H1 F1 f1 f2 O0 O1 F0 c0 c1 c2
  clear P2 H2
  go_wp2
  go_ret
  exact ⟨rfl, F2⟩

set_option maxRecDepth 100000 in
set_option maxHeartbeats 4000000 in
theorem back9_in (k8 : Nat) (X Y : Int) (a : Option Addr) (n cap : Nat) (V : Nat → Int) (b : Nat) (h0 h1 : Int) (w : World) (hk8 : k8 < 256) (b1 : Abs 32768 h1) (HN : Hid (Nums w a n cap V b)) (hlen : (n : Int) ≤ 9223372036854775807) (hbig : decide (4200 < n) = false) :
    Calls Try.prog 5 #[.int .u8 (k8 : Int), .agg #[.int .i64 X, .int .i64 Y, .slice a n cap], .agg #[.int .i16 h0, .int .i16 h1]] w fun e w' => e = .returned (.bool true) ∧ Fr (fun _ => False) w w' := by
  have b1' : -32768 ≤ h1 ∧ h1 ≤ 32768 := b1
  obtain ⟨t0, ht0, ht0'⟩ : ∃ t0 : Nat, h0 % 65536 = (t0 : Int) ∧ t0 < 65536 := ⟨(h0 % 65536).toNat, by omega, by omega⟩
  obtain ⟨fi, hfi⟩ : ∃ fi, fi = k8 % 5 := ⟨_, rfl⟩
  obtain ⟨dd, hdd⟩ : ∃ dd, dd = t0 % 7 := ⟨_, rfl⟩
  have hf : fi ≤ 4 := by omega
  have hd : dd ≤ 6 := by omega
  have hfI : (k8 : Int) % 5 = (fi : Int) := by omega
  have hdI : (t0 : Int) % 7 = (dd : Int) := by omega
  have hU16 : IntKind.u16.wrap h0 = (t0 : Int) := by rw [IntKind.wrap_u16]; omega
  have hddn : dd = (h0 % 65536).toNat % 7 := by omega
  clear hfi hdd hddn
  obtain ⟨W, hW⟩ : ∃ W, W = (w.alloc (.cells #[.int .i64 X, .int .i64 Y, .slice a n cap] 25)).alloc (.cells #[.int .i16 h0, .int .i16 h1] 37) := ⟨_, rfl⟩
  have F0 : Fr (fun _ => False) w W := by rw [hW]; exact ((Fr.refl _ w).alloc _).alloc _
  have O0 : Blk W w.heap.size #[.int .i64 X, .int .i64 Y, .slice a n cap] 25 := by rw [hW]; exact (Blk.new _ _ _).alloc _
  have O1 : Blk W (w.heap.size + 1) #[.int .i16 h0, .int .i16 h1] 37 := by
    rw [hW]
    have := Blk.new (w.alloc (.cells #[.int .i64 X, .int .i64 Y, .slice a n cap] 25)) #[.int .i16 h0, .int .i16 h1] 37
    simpa using this
  have HW := hid hW
  clear hW
  go_enter Try.func5, Try.ntmps5
  go_wp2_with fail
  rw [← HW.out]
  refine (first9_any W).mono ?_
  rintro e w1 ⟨rfl, f1⟩
  have P1 := O0.fr f1 (fun h => h)
  have H1 := O1.fr f1 (fun h => h)
  have F1 := F0.trans' f1
  have hs1 := H1.lt
  have c0 : w1.cell? ⟨w.heap.size, 0, none⟩ = some (.int .i64 X) := by rw [P1.cell]; rfl
  have c1 : w1.cell? ⟨w.heap.size, 1, none⟩ = some (.int .i64 Y) := by rw [P1.cell]; rfl
  have c2 : w1.cell? ⟨w.heap.size, 2, none⟩ = some (.slice a n cap) := by rw [P1.cell]; rfl
  go_wp2_with fail
  refine (big9_any X Y a n cap w1 hlen).mono ?_
  rintro e w2 ⟨rfl, f2⟩
  rw [hbig]
  have P2 := P1.fr f2 (fun h => h)
  have H2 := H1.fr f2 (fun h => h)
  have F2 := F1.trans' f2
  clear P1 H1 F1 f1 f2 O0 O1 F0 c0 c1 c2
  have HK : Hid (∀ wr, Fr (fun _ => False) w2 wr → Blk wr w.heap.size #[.int .i64 X, .int .i64 Y, .slice a n cap] 25 ∧ Blk wr (w.heap.size + 1) #[.int .i16 h0, .int .i16 h1] 37 ∧ Fr (fun _ => False) w wr) := fun wr f => ⟨P2.fr f (fun h => h), H2.fr f (fun h => h), F2.trans' f⟩
  have c0 : w2.cell? ⟨w.heap.size, 0, none⟩ = some (.int .i64 X) := by rw [P2.cell]; rfl
  have c1 : w2.cell? ⟨w.heap.size, 1, none⟩ = some (.int .i64 Y) := by rw [P2.cell]; rfl
  have c2 : w2.cell? ⟨w.heap.size, 2, none⟩ = some (.slice a n cap) := by rw [P2.cell]; rfl
  clear P2 H2 F2
  go_wp2
  clear c0 c1 c2
  go_loopw [27] (fun i wr => ∃ k : Nat, k ≤ n ∧ i = .int .i64 (k : Int) ∧ (∀ j, j < k → Abs 4294967296 (V j)) ∧ SameW wr w2) (fun i _ => n - (intOf i).toNat)
  case atStart => exact ⟨0, Nat.zero_le _, rfl, fun j hj => absurd hj (by omega), SameW.rfl⟩
  case round =>
    obtain ⟨k, hk, rfl, hsm, hw⟩ := hrel
    obtain rfl : w2 = wr := Eq.symm hw
    have HSm := hid hsm
    obtain ⟨PK, HHK, FK⟩ := HK.out w2 (Fr.refl _ _)
    have HFK := hid FK
    clear hsm hw
    by_cases hlt : k < n
    · have hki : (k : Int) < (n : Int) := by omega
      obtain ⟨off, rfl, hc⟩ := (HN.out.quiet FK).at' (by omega)
      have ev := hc k hlt
      obtain ⟨v, hv⟩ : ∃ v, V k = v := ⟨_, rfl⟩
      rw [hv] at ev
      have HVk := hid hv
      clear hc hv PK HHK FK
      by_cases hv1 : v < -4294967296
      · have gg1 : decide (v < (-4294967296 : Int)) = true := decide_eq_true hv1
        go_wp2
        go_ret
        exact ⟨rfl, HFK.out⟩
      · have gg1 : decide (v < (-4294967296 : Int)) = false := decide_eq_false hv1
        by_cases hv2 : 4294967296 < v
        · have gg2 : decide ((4294967296 : Int) < v) = true := decide_eq_true hv2
          go_wp2
          go_ret
          exact ⟨rfl, HFK.out⟩
        · have gg2 : decide ((4294967296 : Int) < v) = false := decide_eq_false hv2
          go_wp2
          go_roundw
          case rel =>
            refine ⟨k + 1, by omega, by go_num, fun j hj => ?_, SameW.rfl⟩
            by_cases ejk : j = k
            · subst ejk; rw [HVk.out]; unfold Abs; omega
            · exact HSm.out j (by omega)
          case measure => simp [intOf]; omega
    · have hki : ¬ (k : Int) < (n : Int) := by omega
      have HSm : Hid (∀ j, j < n → Abs 4294967296 (V j)) := fun j hj => HSm.out j (by omega)
      have i0 : w2.cell? ⟨w.heap.size + 1, 0, none⟩ = some (.int .i16 h0) := by rw [HHK.cell]; rfl
      have i1 : w2.cell? ⟨w.heap.size + 1, 1, none⟩ = some (.int .i16 h1) := by rw [HHK.cell]; rfl
      go_wp2
      go_quiet (fail)
      obtain ⟨w3, hw3⟩ : ∃ w3, w3 = w2.drewN nq := ⟨_, rfl⟩
      rw [← hw3]
      have P3 : Blk w3 w.heap.size #[.int .i64 X, .int .i64 Y, .slice a n cap] 25 := by rw [hw3]; exact PK.drewN nq
      have F3 : Fr (fun _ => False) w w3 := by rw [hw3]; exact FK.drewN nq
      clear hw3 i0 i1 PK HHK FK HFK HK
      have c0 : w3.cell? ⟨w.heap.size, 0, none⟩ = some (.int .i64 X) := by rw [P3.cell]; rfl
      have c1 : w3.cell? ⟨w.heap.size, 1, none⟩ = some (.int .i64 Y) := by rw [P3.cell]; rfl
      have c2 : w3.cell? ⟨w.heap.size, 2, none⟩ = some (.slice a n cap) := by rw [P3.cell]; rfl
      go_wp2_with fail
      refine (wpad_any X Y a n cap V b (dd : Int) w3 (HN.out.quiet F3)).mono ?_
      rintro e w4 ⟨aq, capq, bn, rfl, n4, f4⟩
      cases hok : padOk X Y n (dd : Int) with
      | false =>
        as_aux_lemma =>
          have hpx : padX X Y n (dd : Int) = 0 := by unfold padX; rw [hok]; rfl
          have hpy : padY X Y n (dd : Int) = 0 := by unfold padY; rw [hok]; rfl
          have hpl : padL X Y n (dd : Int) = 0 := by unfold padL; rw [hok]; rfl
          have hR : rightP X Y n = false := by
            have : deepB (dd : Int) = true := deepB_iff.2 ⟨by omega, by omega⟩
            rw [padOk, this, Bool.and_true] at hok
            exact hok
          rw [hpx, hpy, hpl]
          have F4 := F3.trans' f4
          have P4 := P3.fr f4 (fun h => h)
          obtain ⟨W5, hW5⟩ : ∃ W5, W5 = w4.alloc (.cells #[.int .i64 0, .int .i64 0, .slice aq 0 capq] 25) := ⟨_, rfl⟩
          have F5 : Fr (fun _ => False) w W5 := by rw [hW5]; exact F4.alloc _
          have P5 : Blk W5 w.heap.size #[.int .i64 X, .int .i64 Y, .slice a n cap] 25 := by rw [hW5]; exact P4.alloc _
          have HW5 := hid hW5
          have e0 : W5.cell? ⟨w.heap.size, 0, none⟩ = some (.int .i64 X) := by rw [P5.cell]; rfl
          have e1 : W5.cell? ⟨w.heap.size, 1, none⟩ = some (.int .i64 Y) := by rw [P5.cell]; rfl
          have e2 : W5.cell? ⟨w.heap.size, 2, none⟩ = some (.slice a n cap) := by rw [P5.cell]; rfl
          clear hW5 n4 f4 F3 P3 F4 P4 c0 c1 c2 hpx hpy hpl hok P5
          rw [HW5.out] at e0 e1 e2
          go_wp2_with fail
          rw [← HW5.out]
          refine (rright_any X Y a n cap W5).mono ?_
          rintro e w6 ⟨rfl, f6⟩
          rw [hR]
          have F6 := F5.trans' f6
          clear f6 F5 e0 e1 e2
          go_wp2
          go_ret
          exact ⟨rfl, F6⟩
      | true =>
        as_aux_lemma =>
          obtain ⟨hr, _⟩ : rightP X Y n = true ∧ deepB (dd : Int) = true := by simpa [padOk] using hok
          obtain ⟨x0, y0, hX0, hY0, hx0, hx0', hy0, hy0', hn0⟩ := rightP_nat hr
          obtain ⟨x, hxe⟩ : ∃ x, x = padU x0 (2 ^ dd) := ⟨_, rfl⟩
          obtain ⟨y, hye⟩ : ∃ y, y = padU y0 (2 ^ dd) := ⟨_, rfl⟩
          obtain ⟨m, hm⟩ : ∃ m, x * y = m := ⟨_, rfl⟩
          have lox := padU_lo (n := x0) (pow_small hd).1
          have loy := padU_lo (n := y0) (pow_small hd).1
          have hx : 1 ≤ x := by rw [hxe]; omega
          have hy : 1 ≤ y := by rw [hye]; omega
          have hx' : x ≤ 1024 := by rw [hxe]; exact padU_most hx0' hd
          have hy' : y ≤ 1024 := by rw [hye]; exact padU_most hy0' hd
          have fx : FitsN dd x := by rw [hxe]; exact padU_fits hx0 hd
          have fy : FitsN dd y := by rw [hye]; exact padU_fits hy0 hd
          have hmm : m ≤ 1048576 := by rw [← hm]; exact mul_most hx' hy'
          have hpos : 0 < m := by rw [← hm]; exact Nat.mul_pos (by omega) (by omega)
          have hpnx : padN X (dd : Int) = (x : Int) := by rw [hX0, padN_in hx0 hx0' hd, hxe]
          have hpny : padN Y (dd : Int) = (y : Int) := by rw [hY0, padN_in hy0 hy0' hd, hye]
          have hpx : padX X Y n (dd : Int) = (x : Int) := by unfold padX; rw [hok, hpnx]; rfl
          have hpy : padY X Y n (dd : Int) = (y : Int) := by unfold padY; rw [hok, hpny]; rfl
          have hpl : padL X Y n (dd : Int) = m := by unfold padL; rw [hok, hpnx, hpny, Int.toNat_natCast, Int.toNat_natCast, hm]; rfl
          obtain ⟨U, hU⟩ : ∃ U, U = padV X Y V (dd : Int) := ⟨_, rfl⟩
          rw [hpl, ← hU] at n4
          rw [hpx, hpy, hpl]
          have hUs : ∀ j, j < m → Abs 4294967296 (U j) := fun j _ => by
            rw [hU]
            unfold padV sizedV atP
            refine HSm.out _ ?_
            rw [hn0, hX0, hY0, Int.toNat_natCast, Int.toNat_natCast]
            exact flat_lt (by omega) (by omega)
          have hUI : ∀ j, j < m → I64 (U j) := fun j hj => (hUs j hj).i64 (by decide)
          have room := back_room hd
          obtain ⟨VF, hVF⟩ : ∃ VF, VF = flatG x (fwdW fi dd x y (gridV x U)) := ⟨_, rfl⟩
          obtain ⟨VI, hVI⟩ : ∃ VI, VI = flatG x (bwdW fi dd x y (gridV x VF)) := ⟨_, rfl⟩
          obtain ⟨VE, hVE⟩ : ∃ VE, VE = flatG x (fwdW fi dd x y (gridV x fun _ => h1)) := ⟨_, rfl⟩
          have hFI : ∀ j, j < m → I64 (VF j) := fun j hj => by
            rw [hVF]
            exact fwdW_i64 dd fx fy (gridV_i64 hm hUI) _ _ (row_lt (by rw [hm]; exact hj)) (col_lt (by rw [hm]; exact hj))
          have hIU : ∀ j, j < m → VI j = U j := fun j hj => by
            have e0 := bwdW_fwdW (f := fi) dd (M := 4294967296) fx fy (by decide) room.1 (A := gridV x U) (fun r c hr hc => hUs _ (by rw [← hm]; exact flat_lt hc hr))
            have e1 : EqG x y (gridV x VF) (fwdW fi dd x y (gridV x U)) := fun r c _ hc => by rw [hVF]; exact gridV_flat hc
            rw [hVI, flatG_congr (H := y) ((bwdW_congr (f := fi) dd fx fy e1).trans e0) (by rw [hm]; exact hj), flatG_grid]
          have HVE : Hid (∀ j, j < m → VE j = if (j % x < x / 2 ^ dd ∧ j / x < y / 2 ^ dd) ∧ h1 ≠ 0 then dblN fi dd h1 else 0) := fun j hj => by
            have e0 := fwdW_flat (f := fi) dd (w := x) (h := y) (A := gridV x fun _ => h1) (c := h1) (M := 32768) fx fy b1 room.2 (fun _ _ _ _ => rfl) _ _ (row_lt (by rw [hm]; exact hj)) (col_lt (by rw [hm]; exact hj))
            rw [hVE]
            refine Eq.trans e0 ?_
            dsimp only
            by_cases hq : j % x < x / 2 ^ dd ∧ j / x < y / 2 ^ dd
            · by_cases hz : h1 = 0
              · rw [if_pos hq, if_neg (fun h => h.2 hz), hz, dbl_zero]
              · rw [if_pos hq, if_pos ⟨hq, hz⟩]
            · rw [if_neg hq, if_neg (fun h => hq h.1)]
          have HDbl : Hid (h1 ≠ 0 → dblN fi dd h1 ≠ 0) := fun h => dbl_ne hd h
          have HFw : Hid (∀ w1, Nums w1 aq m capq U bn → Calls Try.prog 12 #[.int .i64 (fi : Int), .agg #[.int .i64 (x : Int), .int .i64 (y : Int), .slice aq m capq], .int .i64 (dd : Int)] w1 fun e w' => Gave w1 w' e x y m VF) := fun w1 h => by
            rw [hVF]
            refine (wforward_go fi hf x y dd aq m capq U bn w1 hx hx' hy hy' hm hd fx fy h hUI).mono ?_
            rintro e w' ⟨a, cp, b, he, hn, _, f⟩
            exact ⟨a, cp, b, he, hn, f⟩
          have HIn : Hid (∀ w1 a4 k4 b4, Nums w1 a4 m k4 VF b4 → Calls Try.prog 14 #[.int .i64 (fi : Int), .agg #[.int .i64 (x : Int), .int .i64 (y : Int), .slice a4 m k4], .int .i64 (dd : Int)] w1 fun e w' => Gave w1 w' e x y m VI) := fun w1 a4 k4 b4 h => by
            rw [hVI]
            refine (winverse_go fi hf x y dd a4 m k4 VF b4 w1 hx hx' hy hy' hm hd fx fy h hFI).mono ?_
            rintro e w' ⟨a, cp, b, he, hn, _, f⟩
            exact ⟨a, cp, b, he, hn, f⟩
          have HFe : Hid (∀ w1 ge, Nums w1 (some ⟨ge, 0, none⟩) m m (fun _ => h1) ge → Calls Try.prog 12 #[.int .i64 (fi : Int), .agg #[.int .i64 (x : Int), .int .i64 (y : Int), .slice (some ⟨ge, 0, none⟩) m m], .int .i64 (dd : Int)] w1 fun e w' => Gave w1 w' e x y m VE) := fun w1 ge h => by
            rw [hVE]
            refine (wforward_go fi hf x y dd _ m m _ ge w1 hx hx' hy hy' hm hd fx fy h (fun j _ => b1.i64 (by decide))).mono ?_
            rintro e w' ⟨a, cp, b, he, hn, _, f⟩
            exact ⟨a, cp, b, he, hn, f⟩
          have HS : Hid (∀ w1 a6 k6 b6, Nums w1 a6 m k6 VI b6 → Nums w1 aq m capq U bn → Calls Try.prog 11 #[.agg #[.int .i64 (x : Int), .int .i64 (y : Int), .slice a6 m k6], .agg #[.int .i64 (x : Int), .int .i64 (y : Int), .slice aq m capq]] w1 fun e w' => e = .returned (.bool true) ∧ Fr (fun _ => False) w1 w') := fun w1 a6 k6 b6 h h' => by
            have := rsame_any x y a6 m k6 VI b6 x y aq m capq U bn w1 h h'
            rwa [sameV_of hIU] at this
          have F4 := F3.trans' f4
          obtain ⟨W5, hW5⟩ : ∃ W5, W5 = w4.alloc (.cells #[.int .i64 (x : Int), .int .i64 (y : Int), .slice aq m capq] 25) := ⟨_, rfl⟩
          obtain ⟨bq, hbq⟩ : ∃ bq, bq = w4.heap.size := ⟨_, rfl⟩
          have F5 : Fr (fun _ => False) w W5 := by rw [hW5]; exact F4.alloc _
          have Q5 : Blk W5 bq #[.int .i64 (x : Int), .int .i64 (y : Int), .slice aq m capq] 25 := by rw [hW5, hbq]; exact Blk.new _ _ _
          have N5 : Nums W5 aq m capq U bn := by rw [hW5]; exact n4.quiet ((Fr.refl _ w4).alloc _)
          have hbq1 : w.heap.size ≤ bq := by have := F4.size; omega
          have HQ : Hid (∀ wq, Fr (fun _ => False) W5.drew wq → (wq.cell? ⟨bq, 0, none⟩ = some (.int .i64 (x : Int)) ∧ wq.cell? ⟨bq, 1, none⟩ = some (.int .i64 (y : Int)) ∧ wq.cell? ⟨bq, 2, none⟩ = some (.slice aq m capq)) ∧ Hid (Nums wq aq m capq U bn) ∧ Fr (fun _ => False) w wq ∧ Blk wq bq #[.int .i64 (x : Int), .int .i64 (y : Int), .slice aq m capq] 25) := by
            intro wq f
            have f' := (Fr.refl _ W5).drew.trans' f
            have q7 := Q5.fr f' (fun h => h)
            exact ⟨⟨by rw [q7.cell]; rfl, by rw [q7.cell]; rfl, by rw [q7.cell]; rfl⟩, N5.quiet f', F5.trans' f', q7⟩
          have hmk : ∀ w : World, (Instr.makeSlice 23 (.int .i64 (m : Int)) (.int .i64 (m : Int))).run Try.prog w = .ok (.slice (some ⟨w.heap.size, 0, none⟩) m m) (w.alloc (.cells (madeCells #[.int .i64 0] m) 3)) := run_make_row' (P := Try.prog) 23 3 (.int .i64 0) 8 Try.underlying23 Try.info_int rfl .i64 .i64 m (by omega) (by omega)
          have hm0 : ((m : Int) == 0) = false := by simp; omega
          have HW5 := hid hW5
          have HBQ := hid hbq
          have e0 : W5.cell? ⟨bq, 0, none⟩ = some (.int .i64 (x : Int)) := by rw [Q5.cell]; rfl
          have e1 : W5.cell? ⟨bq, 1, none⟩ = some (.int .i64 (y : Int)) := by rw [Q5.cell]; rfl
          have e2 : W5.cell? ⟨bq, 2, none⟩ = some (.slice aq m capq) := by rw [Q5.cell]; rfl
          clear hW5 hbq n4 f4 F3 P3 F4 c0 c1 c2 hpx hpy hpl hok hpnx hpny hxe hye hX0 hY0 hn0 lox loy hr fx fy hVF hVI hVE hU hUs hUI hFI hIU room F5 Q5 N5 HSm hm HN
          rw [HW5.out, HBQ.out] at e0 e1 e2
          go_wp2
          rw [← HW5.out, ← HBQ.out]
          clear e0 e1 e2
          refine weaveST 9 [.eq (Value.int .i64 (fi : Int)), .eq (Value.int .i64 (fi : Int)), .eq (Value.agg #[.int .i64 (x : Int), .int .i64 (y : Int), .slice aq m capq]), .eq (Value.int .i64 (dd : Int)), .planeN (x : Int) (y : Int) m VF, .eq (Value.int .i64 (dd : Int)), .planeN (x : Int) (y : Int) m VI, .eq (Value.agg #[.int .i64 (x : Int), .int .i64 (y : Int), .slice aq m capq]), .eq (Value.bool true)] (by kernel_rfl) (by kernel_rfl) ?obls ?tail
          case obls =>
            simp only [List.take_succ_cons, List.take_zero]
            refine ⟨?_, ?_, ?_, ?_, ?_, ?_, ?_, ?_, ?_, trivial⟩
            · intro vals wq f h
              simp only [fillA, fillT, List.setIfInBounds_toArray, List.set_cons_succ, List.set_cons_zero, Option.getD_some, Nat.zero_add, Nat.reduceAdd]
              obtain ⟨⟨k0, k1, k2⟩, HNq, _, _⟩ := HQ.out wq f
              clear h
              go_wp2
              exact ⟨rfl, rfl, _, rfl, Fr.refl _ _, rfl⟩
            · intro vals wq f h
              simp only [fillA, fillT, List.setIfInBounds_toArray, List.set_cons_succ, List.set_cons_zero, Option.getD_some, Nat.zero_add, Nat.reduceAdd]
              obtain ⟨⟨k0, k1, k2⟩, HNq, _, _⟩ := HQ.out wq f
              clear h
              go_wp2
              exact ⟨rfl, rfl, _, rfl, Fr.refl _ _, rfl⟩
            · intro vals wq f h
              simp only [fillA, fillT, List.setIfInBounds_toArray, List.set_cons_succ, List.set_cons_zero, Option.getD_some, Nat.zero_add, Nat.reduceAdd]
              obtain ⟨⟨k0, k1, k2⟩, HNq, _, _⟩ := HQ.out wq f
              clear h
              go_wp2
              exact ⟨rfl, rfl, _, rfl, Fr.refl _ _, rfl⟩
            · intro vals wq f h
              simp only [fillA, fillT, List.setIfInBounds_toArray, List.set_cons_succ, List.set_cons_zero, Option.getD_some, Nat.zero_add, Nat.reduceAdd]
              obtain ⟨⟨k0, k1, k2⟩, HNq, _, _⟩ := HQ.out wq f
              clear h
              go_wp2
              exact ⟨rfl, rfl, _, rfl, Fr.refl _ _, rfl⟩
            · intro vals wq f h
              simp only [fillA, fillT, List.setIfInBounds_toArray, List.set_cons_succ, List.set_cons_zero, Option.getD_some, Nat.zero_add, Nat.reduceAdd]
              have h1 : vals 1 = Value.int .i64 (fi : Int) := h 1 (by kernel_rfl)
              rw [h1]
              have h2 : vals 2 = Value.agg #[.int .i64 (x : Int), .int .i64 (y : Int), .slice aq m capq] := h 2 (by kernel_rfl)
              rw [h2]
              have h3 : vals 3 = Value.int .i64 (dd : Int) := h 3 (by kernel_rfl)
              rw [h3]
              obtain ⟨⟨k0, k1, k2⟩, HNq, _, _⟩ := HQ.out wq f
              clear h
              go_wp2_with fail
              refine (HFw.out wq HNq.out).mono ?_
              rintro e w6 ⟨a6, cp, b6, rfl, n6, f6⟩
              have HN6 := hid n6
              clear n6
              go_wp2
              exact ⟨rfl, rfl, _, rfl, f6, _, _, _, rfl, HN6.out⟩
            · intro vals wq f h
              simp only [fillA, fillT, List.setIfInBounds_toArray, List.set_cons_succ, List.set_cons_zero, Option.getD_some, Nat.zero_add, Nat.reduceAdd]
              obtain ⟨⟨k0, k1, k2⟩, HNq, _, _⟩ := HQ.out wq f
              clear h
              go_wp2
              exact ⟨rfl, rfl, _, rfl, Fr.refl _ _, rfl⟩
            · intro vals wq f h
              simp only [fillA, fillT, List.setIfInBounds_toArray, List.set_cons_succ, List.set_cons_zero, Option.getD_some, Nat.zero_add, Nat.reduceAdd]
              have h0 : vals 0 = Value.int .i64 (fi : Int) := h 0 (by kernel_rfl)
              rw [h0]
              obtain ⟨a4, k4, b4, h4, n4⟩ : PlaneN wq (vals 4) (x : Int) (y : Int) m VF := h 4 (by kernel_rfl)
              rw [h4]
              have h5 : vals 5 = Value.int .i64 (dd : Int) := h 5 (by kernel_rfl)
              rw [h5]
              obtain ⟨⟨k0, k1, k2⟩, HNq, _, _⟩ := HQ.out wq f
              clear h
              go_wp2_with fail
              refine (HIn.out wq _ _ _ n4).mono ?_
              rintro e w6 ⟨a6, cp, b6, rfl, n6, f6⟩
              have HN6 := hid n6
              clear n6
              go_wp2
              exact ⟨rfl, rfl, _, rfl, f6, _, _, _, rfl, HN6.out⟩
            · intro vals wq f h
              simp only [fillA, fillT, List.setIfInBounds_toArray, List.set_cons_succ, List.set_cons_zero, Option.getD_some, Nat.zero_add, Nat.reduceAdd]
              obtain ⟨⟨k0, k1, k2⟩, HNq, _, _⟩ := HQ.out wq f
              clear h
              go_wp2
              exact ⟨rfl, rfl, _, rfl, Fr.refl _ _, rfl⟩
            · intro vals wq f h
              simp only [fillA, fillT, List.setIfInBounds_toArray, List.set_cons_succ, List.set_cons_zero, Option.getD_some, Nat.zero_add, Nat.reduceAdd]
              obtain ⟨a6, k6, b6, h6, n6⟩ : PlaneN wq (vals 6) (x : Int) (y : Int) m VI := h 6 (by kernel_rfl)
              rw [h6]
              have h7 : vals 7 = Value.agg #[.int .i64 (x : Int), .int .i64 (y : Int), .slice aq m capq] := h 7 (by kernel_rfl)
              rw [h7]
              obtain ⟨⟨k0, k1, k2⟩, HNq, _, _⟩ := HQ.out wq f
              clear h
              go_wp2_with fail
              refine (HS.out wq _ _ _ n6 HNq.out).mono ?_
              rintro e w6 ⟨rfl, f6⟩
              go_wp2
              exact ⟨rfl, rfl, _, rfl, f6, rfl⟩
          case tail =>
            intro vals wq f h
            simp only [List.take_succ_cons, List.take_zero, fillA, fillT, List.setIfInBounds_toArray, List.set_cons_succ, List.set_cons_zero, List.drop_succ_cons, List.drop_zero, Nat.zero_add, Nat.reduceAdd]
            have h8 : vals 8 = Value.bool true := h 8 (by omega)
            rw [h8]
            obtain ⟨_, HNq, F6, Q6⟩ := HQ.out wq f
            obtain ⟨w6, hw6⟩ : ∃ w6, w6 = wq := ⟨_, rfl⟩
            rw [← hw6] at F6 Q6 ⊢
            clear h h8 HQ f HNq hw6
            gi_wp2
            have c0 : w6.cell? ⟨bq, 0, none⟩ = some (.int .i64 (x : Int)) := by rw [Q6.cell]; rfl
            have c1 : w6.cell? ⟨bq, 1, none⟩ = some (.int .i64 (y : Int)) := by rw [Q6.cell]; rfl
            have c2 : w6.cell? ⟨bq, 2, none⟩ = some (.slice aq m capq) := by rw [Q6.cell]; rfl
            go_wp2
            have HQ7 : Hid (∀ wq, Fr (fun _ => False) w6.drew wq → (wq.cell? ⟨bq, 0, none⟩ = some (.int .i64 (x : Int)) ∧ wq.cell? ⟨bq, 1, none⟩ = some (.int .i64 (y : Int)) ∧ wq.cell? ⟨bq, 2, none⟩ = some (.slice aq m capq)) ∧ w.heap.size + 1 ≤ wq.heap.size ∧ Fr (fun _ => False) w wq) := by
              intro wq f
              have f' := (Fr.refl _ w6).drew.trans' f
              have q7 := Q6.fr f' (fun h => h)
              exact ⟨⟨by rw [q7.cell]; rfl, by rw [q7.cell]; rfl, by rw [q7.cell]; rfl⟩, by have := q7.lt; omega, F6.trans' f'⟩
            clear F6 Q6 c0 c1 c2
            refine weaveST 10 [.eq (Value.pointer (some ⟨bq, 0, none⟩)), .eq (Value.int .i64 (x : Int)), .eq (Value.pointer (some ⟨bq, 1, none⟩)), .eq (Value.int .i64 (y : Int)), .eq (Value.pointer (some ⟨bq, 2, none⟩)), .eq (Value.slice aq m capq), .eq (Value.int .i64 (m : Int)), .newRow w.heap.size m (fun _ => 0), .evenP w.heap.size (x : Int) (y : Int) m (fun _ => 0), .box (w.heap.size + 1) #[.int .i64 0, .int .i64 0, .slice none 0 0] 25] (by kernel_rfl) (by kernel_rfl) ?obls ?tail
            case obls =>
              simp only [List.take_succ_cons, List.take_zero]
              refine ⟨?_, ?_, ?_, ?_, ?_, ?_, ?_, ?_, ?_, ?_, trivial⟩
              · intro vals wq f h
                simp only [fillA, fillT, List.setIfInBounds_toArray, List.set_cons_succ, List.set_cons_zero, Option.getD_some, Nat.zero_add, Nat.reduceAdd]
                obtain ⟨⟨k0, k1, k2⟩, hszq, _⟩ := HQ7.out wq f
                clear h
                go_wp2
                exact ⟨rfl, rfl, _, rfl, Fr.refl _ _, rfl⟩
              · intro vals wq f h
                simp only [fillA, fillT, List.setIfInBounds_toArray, List.set_cons_succ, List.set_cons_zero, Option.getD_some, Nat.zero_add, Nat.reduceAdd]
                have h0 : vals 0 = Value.pointer (some ⟨bq, 0, none⟩) := h 0 (by kernel_rfl)
                rw [h0]
                obtain ⟨⟨k0, k1, k2⟩, hszq, _⟩ := HQ7.out wq f
                clear h
                go_wp2
                exact ⟨rfl, rfl, _, rfl, Fr.refl _ _, rfl⟩
              · intro vals wq f h
                simp only [fillA, fillT, List.setIfInBounds_toArray, List.set_cons_succ, List.set_cons_zero, Option.getD_some, Nat.zero_add, Nat.reduceAdd]
                obtain ⟨⟨k0, k1, k2⟩, hszq, _⟩ := HQ7.out wq f
                clear h
                go_wp2
                exact ⟨rfl, rfl, _, rfl, Fr.refl _ _, rfl⟩
              · intro vals wq f h
                simp only [fillA, fillT, List.setIfInBounds_toArray, List.set_cons_succ, List.set_cons_zero, Option.getD_some, Nat.zero_add, Nat.reduceAdd]
                have h2 : vals 2 = Value.pointer (some ⟨bq, 1, none⟩) := h 2 (by kernel_rfl)
                rw [h2]
                obtain ⟨⟨k0, k1, k2⟩, hszq, _⟩ := HQ7.out wq f
                clear h
                go_wp2
                exact ⟨rfl, rfl, _, rfl, Fr.refl _ _, rfl⟩
              · intro vals wq f h
                simp only [fillA, fillT, List.setIfInBounds_toArray, List.set_cons_succ, List.set_cons_zero, Option.getD_some, Nat.zero_add, Nat.reduceAdd]
                obtain ⟨⟨k0, k1, k2⟩, hszq, _⟩ := HQ7.out wq f
                clear h
                go_wp2
                exact ⟨rfl, rfl, _, rfl, Fr.refl _ _, rfl⟩
              · intro vals wq f h
                simp only [fillA, fillT, List.setIfInBounds_toArray, List.set_cons_succ, List.set_cons_zero, Option.getD_some, Nat.zero_add, Nat.reduceAdd]
                have h4 : vals 4 = Value.pointer (some ⟨bq, 2, none⟩) := h 4 (by kernel_rfl)
                rw [h4]
                obtain ⟨⟨k0, k1, k2⟩, hszq, _⟩ := HQ7.out wq f
                clear h
                go_wp2
                exact ⟨rfl, rfl, _, rfl, Fr.refl _ _, rfl⟩
              · intro vals wq f h
                simp only [fillA, fillT, List.setIfInBounds_toArray, List.set_cons_succ, List.set_cons_zero, Option.getD_some, Nat.zero_add, Nat.reduceAdd]
                have h5 : vals 5 = Value.slice aq m capq := h 5 (by kernel_rfl)
                rw [h5]
                obtain ⟨⟨k0, k1, k2⟩, hszq, _⟩ := HQ7.out wq f
                clear h
                go_wp2
                exact ⟨rfl, rfl, _, rfl, Fr.refl _ _, rfl⟩
              · intro vals wq f h
                simp only [fillA, fillT, List.setIfInBounds_toArray, List.set_cons_succ, List.set_cons_zero, Option.getD_some, Nat.zero_add, Nat.reduceAdd]
                have h6 : vals 6 = Value.int .i64 (m : Int) := h 6 (by kernel_rfl)
                rw [h6]
                obtain ⟨⟨k0, k1, k2⟩, hszq, _⟩ := HQ7.out wq f
                clear h
                have HR7 := hid (Row.made wq m)
                go_wp2
                exact ⟨rfl, rfl, _, rfl, (Fr.refl _ wq).alloc _, wq.heap.size, rfl, HR7.out, by omega⟩
              · intro vals wq f h
                simp only [fillA, fillT, List.setIfInBounds_toArray, List.set_cons_succ, List.set_cons_zero, Option.getD_some, Nat.zero_add, Nat.reduceAdd]
                have h1 : vals 1 = Value.int .i64 (x : Int) := h 1 (by kernel_rfl)
                rw [h1]
                have h3 : vals 3 = Value.int .i64 (y : Int) := h 3 (by kernel_rfl)
                rw [h3]
                obtain ⟨g7, h7, r7, l7⟩ : NewRow wq (vals 7) w.heap.size m (fun _ => 0) := h 7 (by kernel_rfl)
                rw [h7]
                obtain ⟨⟨k0, k1, k2⟩, hszq, _⟩ := HQ7.out wq f
                clear h
                have HR8 := hid r7
                clear r7
                go_wp2
                exact ⟨rfl, rfl, _, rfl, Fr.refl _ _, g7, rfl, HR8.out, l7⟩
              · intro vals wq f h
                simp only [fillA, fillT, List.setIfInBounds_toArray, List.set_cons_succ, List.set_cons_zero, Option.getD_some, Nat.zero_add, Nat.reduceAdd]
                obtain ⟨⟨k0, k1, k2⟩, hszq, _⟩ := HQ7.out wq f
                clear h
                have HB := hid (Blk.new wq #[.int .i64 0, .int .i64 0, .slice none 0 0] 25)
                go_wp2
                exact ⟨rfl, rfl, _, rfl, (Fr.refl _ wq).alloc _, wq.heap.size, rfl, HB.out, by omega⟩
            case tail =>
              intro vals wq f h
              simp only [List.take_succ_cons, List.take_zero, fillA, fillT, List.setIfInBounds_toArray, List.set_cons_succ, List.set_cons_zero, List.drop_succ_cons, List.drop_zero, Nat.zero_add, Nat.reduceAdd]
              obtain ⟨g8, h8, r8, l8⟩ : EvenP wq (vals 8) w.heap.size (x : Int) (y : Int) m (fun _ => 0) := h 8 (by omega)
              rw [h8]
              obtain ⟨q9, h9, o9, l9⟩ : BoxAt wq (vals 9) (w.heap.size + 1) #[.int .i64 0, .int .i64 0, .slice none 0 0] 25 := h 9 (by omega)
              rw [h9]
              obtain ⟨_, hszq, F7⟩ := HQ7.out wq f
              obtain ⟨ge, hge⟩ : ∃ ge, ge = g8 := ⟨_, rfl⟩
              obtain ⟨be, hbe⟩ : ∃ be, be = q9 := ⟨_, rfl⟩
              rw [← hge] at r8 l8 ⊢
              rw [← hbe] at o9 l9 ⊢
              have nge : ge ≠ be := r8.intB.ne o9 (by decide)
              have z0 : wq.cell? ⟨be, 0, none⟩ = some (.int .i64 0) := by rw [o9.cell]; rfl
              have z1 : wq.cell? ⟨be, 1, none⟩ = some (.int .i64 0) := by rw [o9.cell]; rfl
              have z2 : wq.cell? ⟨be, 2, none⟩ = some (.slice none 0 0) := by rw [o9.cell]; rfl
              have zf := o9.thaw
              obtain ⟨w8, hw8⟩ : ∃ w8, w8 = stored3 wq be (.int .i64 (x : Int)) (.int .i64 (y : Int)) (.slice (some ⟨ge, 0, none⟩) m m) := ⟨_, rfl⟩
              have E8 : Blk w8 be #[.int .i64 (x : Int), .int .i64 (y : Int), .slice (some ⟨ge, 0, none⟩) m m] 25 := by rw [hw8]; exact o9.put3 _ _ _
              have R8 : Row w8 ge m (fun _ => 0) := by rw [hw8]; exact r8.fr (fr_put3 _ _ _ _ _) nge
              have F8 : Fr (fun _ => False) w w8 := by rw [hw8]; exact F7.put3New (by omega) _ _ _
              have HW8 : Hid (w8 = ((wq.setCell ⟨be, 0, none⟩ (.int .i64 (x : Int))).setCell ⟨be, 1, none⟩ (.int .i64 (y : Int))).setCell ⟨be, 2, none⟩ (.slice (some ⟨ge, 0, none⟩) m m)) := hw8
              clear h h8 h9 r8 o9 hge hbe hw8 F7 HQ7 f
              have d0 : w8.cell? ⟨be, 0, none⟩ = some (.int .i64 (x : Int)) := by rw [E8.cell]; rfl
              have d1 : w8.cell? ⟨be, 1, none⟩ = some (.int .i64 (y : Int)) := by rw [E8.cell]; rfl
              have d2 : w8.cell? ⟨be, 2, none⟩ = some (.slice (some ⟨ge, 0, none⟩) m m) := by rw [E8.cell]; rfl
              rw [HW8.out] at d0 d1 d2
              gi_wp2
              go_wp2
              rw [← HW8.out]
              clear z0 z1 z2 zf d0 d1 d2
              go_loopw [108] (fun i wr => ∃ k : Nat, k ≤ m ∧ i = .int .i64 (k : Int) ∧ Row wr ge m (fun j => if j < k then h1 else 0) ∧ Fr (fun j => j = ge) w8 wr) (fun i _ => m - (intOf i).toNat)
              case atStart => exact ⟨0, Nat.zero_le _, rfl, R8.congr (fun j _ => by simp), Fr.refl _ _⟩
              case round =>
                obtain ⟨k, hk, rfl, hr, Fk⟩ := hrel
                have EK := E8.fr Fk (fun h => nge h.symm)
                have d0 : wr.cell? ⟨be, 0, none⟩ = some (.int .i64 (x : Int)) := by rw [EK.cell]; rfl
                have d1 : wr.cell? ⟨be, 1, none⟩ = some (.int .i64 (y : Int)) := by rw [EK.cell]; rfl
                have d2 : wr.cell? ⟨be, 2, none⟩ = some (.slice (some ⟨ge, 0, none⟩) m m) := by rw [EK.cell]; rfl
                by_cases hlt : k < m
                · have hki : (k : Int) < (m : Int) := by omega
                  have ck := hr.cell hlt
                  have cf := hr.thaw k
                  rw [if_neg (Nat.lt_irrefl k)] at ck
                  have HR := hid hr
                  clear hr EK
                  go_wp2
                  go_roundw
                  case rel =>
                    refine ⟨k + 1, by omega, by go_num, (HR.out.set k h1).congr fun j hj => ?_, Fk.setCell (p := ⟨ge, k, none⟩) (fun _ => rfl) _⟩
                    by_cases ejk : j = k
                    · subst ejk; rw [if_pos rfl, if_pos (by omega)]
                    · rw [if_neg ejk]
                      by_cases hjk : j < k
                      · rw [if_pos hjk, if_pos (by omega)]
                      · rw [if_neg hjk, if_neg (by omega)]
                  case measure => simp [intOf]; omega
                · have hki : ¬ (k : Int) < (m : Int) := by omega
                  obtain ⟨w9, rfl⟩ : ∃ w9, w9 = wr := ⟨_, rfl⟩
                  have R9 := (hr.congr (V' := fun _ => h1) fun j hj => if_pos (by omega)).nums (by unfold maxLen; omega)
                  have F9 := F8.trans Fk (fun i hi e => by omega)
                  have HF9 := hid F9
                  clear hr EK Fk E8 R8
                  go_wp2_with fail
                  refine (HFe.out w9 ge R9).mono ?_
                  rintro e w10 ⟨a10, k10, b10, rfl, n10, f10⟩
                  have F10 := HF9.out.trans' f10
                  obtain ⟨o10, rfl, c10⟩ := n10.at' hpos
                  obtain ⟨W11, hW11⟩ : ∃ W11, W11 = w10.alloc (.cells #[.int .i64 (x : Int), .int .i64 (y : Int), .slice (some ⟨b10, o10, none⟩) m k10] 25) := ⟨_, rfl⟩
                  obtain ⟨bt, hbt⟩ : ∃ bt, bt = w10.heap.size := ⟨_, rfl⟩
                  have F11 : Fr (fun _ => False) w W11 := by rw [hW11]; exact F10.alloc _
                  have T11 : Blk W11 bt #[.int .i64 (x : Int), .int .i64 (y : Int), .slice (some ⟨b10, o10, none⟩) m k10] 25 := by rw [hW11, hbt]; exact Blk.new _ _ _
                  have N11 : Nums W11 (some ⟨b10, o10, none⟩) m k10 VE b10 := by rw [hW11]; exact n10.quiet ((Fr.refl _ w10).alloc _)
                  have HCC : Hid (∀ wr j, Fr (fun _ => False) W11 wr → j < m → (wr.cell? ⟨bt, 0, none⟩ = some (.int .i64 (x : Int)) ∧ wr.cell? ⟨bt, 1, none⟩ = some (.int .i64 (y : Int)) ∧ wr.cell? ⟨bt, 2, none⟩ = some (.slice (some ⟨b10, o10, none⟩) m k10)) ∧ wr.cell? ⟨b10, o10 + j, none⟩ = some (.int .i64 (VE j))) := by
                    intro wr j fr hj
                    have t11 := T11.fr fr (fun h => h)
                    obtain ⟨o', e', cc⟩ := (N11.quiet fr).at' hpos
                    obtain rfl : o10 = o' := by simpa using e'
                    exact ⟨⟨by rw [t11.cell]; rfl, by rw [t11.cell]; rfl, by rw [t11.cell]; rfl⟩, cc j hj⟩
                  have HW11 := hid hW11
                  have HBT := hid hbt
                  clear hW11 hbt n10 c10 f10 F10 R9 F9 T11 N11 d0 d1 d2
                  obtain ⟨⟨p0, p1, p2⟩, _⟩ := HCC.out W11 0 (Fr.refl _ _) hpos
                  rw [HW11.out, HBT.out] at p0 p1 p2
                  go_wp2
                  rw [← HW11.out, ← HBT.out]
                  clear p0 p1 p2
                  go_loopw [125] (fun i wr => ∃ j : Nat, j ≤ m ∧ i = .int .i64 (j : Int) ∧ Fr (fun _ => False) W11 wr) (fun i _ => m - (intOf i).toNat)
                  case atStart => exact ⟨0, Nat.zero_le _, rfl, Fr.refl _ _⟩
                  case round =>
                    obtain ⟨j, hj, rfl, Fj⟩ := hrel
                    by_cases hjl : j < m
                    · have hji : (j : Int) < (m : Int) := by omega
                      have hkk : (dd : Int) ≤ 64 := by omega
                      obtain ⟨⟨p0, p1, p2⟩, ca⟩ := HCC.out wr j Fj hjl
                      have hval := HVE.out j hjl
                      obtain ⟨u, hu⟩ : ∃ u, u = x / 2 ^ dd := ⟨_, rfl⟩
                      obtain ⟨t, ht⟩ : ∃ t, t = y / 2 ^ dd := ⟨_, rfl⟩
                      have hsu : (x : Int) / 2 ^ dd = (u : Int) := by rw [hu]; simp
                      have hst : (y : Int) / 2 ^ dd = (t : Int) := by rw [ht]; simp
                      obtain ⟨cx, hcx⟩ : ∃ cx, cx = j % x := ⟨_, rfl⟩
                      obtain ⟨ry, hry⟩ : ∃ ry, ry = j / x := ⟨_, rfl⟩
                      have hXm : (j : Int) % (x : Int) = (cx : Int) := by rw [hcx, Int.natCast_emod]
                      have hXd : (j : Int) / (x : Int) = (ry : Int) := by rw [hry, Int.natCast_ediv]
                      have hXt : (j : Int).tdiv (x : Int) = (ry : Int) := by rw [Int.tdiv_eq_ediv_of_nonneg (by omega), hXd]
                      have hry2 : ry ≤ j := by rw [hry]; exact Nat.div_le_self _ _
                      have hcx2 : cx < 1025 := by have := Nat.mod_lt j (show x > 0 by omega); omega
                      have hx0 : ¬ (x : Int) = 0 := by omega
                      rw [← hu, ← ht, ← hcx, ← hry] at hval
                      obtain ⟨za, hza⟩ : ∃ za, za = VE j := ⟨_, rfl⟩
                      rw [← hza] at hval ca
                      clear hu ht hcx hry hza
                      by_cases hh1 : h1 = 0
                      · have hz0 : (h1 != 0) = false := by rw [hh1]; rfl
                        have hz0' : (h1 == 0) = true := by rw [hh1]; rfl
                        have hzv : za = 0 := by rw [hval, if_neg (fun h => h.2 hh1)]
                        have hza0 : (za == 0) = true := by rw [hzv]; rfl
                        clear hval hzv hh1
                        by_cases h1c : cx < u
                        · have g1 : decide ((u : Int) ≤ (cx : Int)) = false := decide_eq_false (by omega)
                          by_cases h2c : ry < t
                          · have g2 : decide ((t : Int) ≤ (ry : Int)) = false := decide_eq_false (by omega)
                            go_wp2
                            go_quiet (fail)
                            go_wp2
                            go_roundw
                            case rel => exact ⟨j + 1, by omega, by go_num, Fj.drewN _⟩
                            case measure => simp [intOf]; omega
                          · have g2 : decide ((t : Int) ≤ (ry : Int)) = true := decide_eq_true (by omega)
                            go_wp2
                            go_quiet (fail)
                            go_wp2
                            go_roundw
                            case rel => exact ⟨j + 1, by omega, by go_num, Fj.drewN _⟩
                            case measure => simp [intOf]; omega
                        · have g1 : decide ((u : Int) ≤ (cx : Int)) = true := decide_eq_true (by omega)
                          go_wp2
                          go_quiet (fail)
                          go_wp2
                          go_roundw
                          case rel => exact ⟨j + 1, by omega, by go_num, Fj.drewN _⟩
                          case measure => simp [intOf]; omega
                      · have hz0 : (h1 != 0) = true := by simpa using hh1
                        have hz0' : (h1 == 0) = false := by simpa using hh1
                        by_cases h1c : cx < u
                        · have g1 : decide ((u : Int) ≤ (cx : Int)) = false := decide_eq_false (by omega)
                          by_cases h2c : ry < t
                          · have g2 : decide ((t : Int) ≤ (ry : Int)) = false := decide_eq_false (by omega)
                            have hza0 : (za == 0) = false := by rw [hval, if_pos ⟨⟨h1c, h2c⟩, hh1⟩]; simpa using HDbl.out hh1
                            clear hval hh1
                            go_wp2
                            go_quiet (fail)
                            go_wp2
                            go_roundw
                            case rel => exact ⟨j + 1, by omega, by go_num, Fj.drewN _⟩
                            case measure => simp [intOf]; omega
                          · have g2 : decide ((t : Int) ≤ (ry : Int)) = true := decide_eq_true (by omega)
                            have hza0 : (za == 0) = true := by rw [hval, if_neg (fun h => h2c h.1.2)]; rfl
                            clear hval hh1
                            go_wp2
                            go_quiet (fail)
                            go_wp2
                            go_roundw
                            case rel => exact ⟨j + 1, by omega, by go_num, Fj.drewN _⟩
                            case measure => simp [intOf]; omega
                        · have g1 : decide ((u : Int) ≤ (cx : Int)) = true := decide_eq_true (by omega)
                          have hza0 : (za == 0) = true := by rw [hval, if_neg (fun h => h1c h.1.1)]; rfl
                          clear hval hh1
                          go_wp2
                          go_quiet (fail)
                          go_wp2
                          go_roundw
                          case rel => exact ⟨j + 1, by omega, by go_num, Fj.drewN _⟩
                          case measure => simp [intOf]; omega
                    · have hji : ¬ (j : Int) < (m : Int) := by omega
                      have HFx := hid (F11.trans' Fj)
                      go_wp2
                      go_ret
                      exact ⟨rfl, HFx.out⟩

theorem back9_walk (k8 : Nat) (X Y : Int) (a : Option Addr) (n cap : Nat) (V : Nat → Int) (h0 h1 : Int) (w : World) (hk8 : k8 < 256) (c : CellsIn w a n cap (fun i => .int .i64 (V i))) (b1 : -32768 ≤ h1 ∧ h1 ≤ 32767) :
    Calls Try.prog 5 #[.int .u8 (k8 : Int), .agg #[.int .i64 X, .int .i64 Y, .slice a n cap], .agg #[.int .i16 h0, .int .i16 h1]] w fun e w' => e = .returned (.bool true) ∧ Below w.heap.size w w' := by
  obtain ⟨b, hN, _⟩ := Nums.of_in c
  have key : Calls Try.prog 5 #[.int .u8 (k8 : Int), .agg #[.int .i64 X, .int .i64 Y, .slice a n cap], .agg #[.int .i16 h0, .int .i16 h1]] w fun e w' => e = .returned (.bool true) ∧ Fr (fun _ => False) w w' := by
    cases hbig : decide (4200 < n) with
    | true => exact back9_big k8 X Y a n cap h0 h1 w hN.len hbig
    | false => exact back9_in k8 X Y a n cap V b h0 h1 w hk8 ⟨b1.1, by omega⟩ hN hN.len hbig
  exact key.mono fun e w' ⟨he, f⟩ => ⟨he, f.below (Nat.le_refl _) (fun _ _ h => h)⟩
end Go.Proofs.Ytonalomagfekaaa
