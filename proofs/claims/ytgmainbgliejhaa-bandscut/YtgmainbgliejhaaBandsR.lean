/-
  Package bands: All, and what it tells, inside a range over it.
-/
import Derived.Test.YtgmainbgliejhaaBandsQ
import Derived.Test.YtgmainbgliejhaaPlaneT
namespace Go.Proofs.Ytgmainbgliejhaa
open Go.RowKit Go.Shelf

attribute [local go_sem] Oper.semAt_some

/-- How many levels All tells. -/
def levelsB (X Y D : Int) : Int := if bandsOk X Y D then D + 1 else 0
/-- What All gives: its closure over the boxes of the count, of the sides and of the depth. -/
def AllMade (w w' : World) (e : Ending) (X Y D : Int) : Prop :=
  ∃ bc bw bh bd, e = .returned (.func (.func 25) #[] #[.pointer (some ⟨bc, 0, none⟩), .pointer (some ⟨bw, 0, none⟩), .pointer (some ⟨bh, 0, none⟩), .pointer (some ⟨bd, 0, none⟩)]) ∧ Blk w' bc #[.int .i64 (levelsB X Y D)] 3 ∧ Blk w' bw #[.int .i64 X] 3 ∧ Blk w' bh #[.int .i64 Y] 3 ∧ Blk w' bd #[.int .i64 D] 3 ∧ w.heap.size ≤ bc ∧ w.heap.size ≤ bw ∧ w.heap.size ≤ bh ∧ w.heap.size ≤ bd ∧ Fr (fun _ => False) w w'

set_option maxHeartbeats 1000000 in
theorem ball_any (X Y D : Int) (w : World) :
    Calls Try.prog 11 #[.int .i64 X, .int .i64 Y, .int .i64 D] w fun e w' => AllMade w w' e X Y D := by
  obtain ⟨W, hW⟩ : ∃ W, W = (((w.alloc (.cells #[.int .i64 X] 3)).alloc (.cells #[.int .i64 Y] 3)).alloc (.cells #[.int .i64 D] 3)).alloc (.cells #[.int .i64 0] 3) := ⟨_, rfl⟩
  have F0 : Fr (fun _ => False) w W := by rw [hW]; exact ((((Fr.refl _ w).alloc _).alloc _).alloc _).alloc _
  have O0 : Blk W w.heap.size #[.int .i64 X] 3 := by rw [hW]; exact (((Blk.new _ _ _).alloc _).alloc _).alloc _
  have O1 : Blk W (w.heap.size + 1) #[.int .i64 Y] 3 := by
    rw [hW]
    have := Blk.new (w.alloc (.cells #[.int .i64 X] 3)) #[.int .i64 Y] 3
    simp at this
    exact (this.alloc _).alloc _
  have O2 : Blk W (w.heap.size + 2) #[.int .i64 D] 3 := by
    rw [hW]
    have := Blk.new ((w.alloc (.cells #[.int .i64 X] 3)).alloc (.cells #[.int .i64 Y] 3)) #[.int .i64 D] 3
    simp at this
    exact this.alloc _
  have O3 : Blk W (w.heap.size + 3) #[.int .i64 0] 3 := by
    rw [hW]
    have := Blk.new (((w.alloc (.cells #[.int .i64 X] 3)).alloc (.cells #[.int .i64 Y] 3)).alloc (.cells #[.int .i64 D] 3)) #[.int .i64 0] 3
    simpa using this
  have c0 : W.cell? ⟨w.heap.size, 0, none⟩ = some (.int .i64 X) := by rw [O0.cell]; rfl
  have c1 : W.cell? ⟨w.heap.size + 1, 0, none⟩ = some (.int .i64 Y) := by rw [O1.cell]; rfl
  have c2 : W.cell? ⟨w.heap.size + 2, 0, none⟩ = some (.int .i64 D) := by rw [O2.cell]; rfl
  have c3 : W.cell? ⟨w.heap.size + 3, 0, none⟩ = some (.int .i64 0) := by rw [O3.cell]; rfl
  have t3 := O3.thaw
  have HOk := hid (bandsOk_fits X Y D)
  have HW := hid hW
  have HD : Hid (bandsOk X Y D = true → 0 ≤ D ∧ D ≤ 6) := bandsOk_deep
  clear hW
  cases h1 : fitsS X D with
  | false =>
    have HL : Hid (levelsB X Y D = 0) := if_neg (by rw [HOk.out, h1, Bool.false_and]; decide)
    have HO := hid (And.intro O0 (And.intro O1 (And.intro O2 O3)))
    have HF := hid F0
    clear O0 O1 O2 O3 F0 HD
    go_enter Try.func11, Try.ntmps11
    go_wp2_with fail
    rw [← HW.out]
    go_wp2_with fail
    refine (bfits_any _ _ _).mono ?_
    rintro e w1 ⟨rfl, rfl⟩
    rw [h1]
    go_wp2
    go_ret
    exact ⟨_, _, _, _, rfl, by rw [HL.out]; exact HO.out.2.2.2, HO.out.1, HO.out.2.1, HO.out.2.2.1, by omega, by omega, by omega, by omega, HF.out⟩
  | true =>
    cases h2 : fitsS Y D with
    | false =>
      have HL : Hid (levelsB X Y D = 0) := if_neg (by rw [HOk.out, h2, Bool.and_false]; decide)
      have HO := hid (And.intro O0 (And.intro O1 (And.intro O2 O3)))
      have HF := hid F0
      clear O0 O1 O2 O3 F0 HD
      go_enter Try.func11, Try.ntmps11
      go_wp2_with fail
      rw [← HW.out]
      go_wp2_with fail
      refine (bfits_any _ _ _).mono ?_
      rintro e w1 ⟨rfl, rfl⟩
      rw [h1]
      go_wp2_with fail
      refine (bfits_any _ _ _).mono ?_
      rintro e w1 ⟨rfl, rfl⟩
      rw [h2]
      go_wp2
      go_ret
      exact ⟨_, _, _, _, rfl, by rw [HL.out]; exact HO.out.2.2.2, HO.out.1, HO.out.2.1, HO.out.2.2.1, by omega, by omega, by omega, by omega, HF.out⟩
    | true =>
      have hok : bandsOk X Y D = true := by rw [HOk.out, h1, h2]; rfl
      have HL : Hid (levelsB X Y D = D + 1) := if_pos hok
      have hD := HD.out hok
      have hD1 := hD.1
      have hD2 := hD.2
      have HO := hid (And.intro O0 (And.intro O1 (And.intro O2 O3)))
      have HF := hid F0
      clear O0 O1 O2 O3 F0 HD hD hok
      go_enter Try.func11, Try.ntmps11
      go_wp2_with fail
      rw [← HW.out]
      go_wp2_with fail
      refine (bfits_any _ _ _).mono ?_
      rintro e w1 ⟨rfl, rfl⟩
      rw [h1]
      go_wp2_with fail
      refine (bfits_any _ _ _).mono ?_
      rintro e w1 ⟨rfl, rfl⟩
      rw [h2]
      go_wp2
      go_ret
      refine ⟨_, _, _, _, rfl, ?_, HO.out.1.setOther (by show _ ≠ _ + 3; omega) _, HO.out.2.1.setOther (by show _ ≠ _ + 3; omega) _, HO.out.2.2.1.setOther (by show _ ≠ _ + 3; omega) _, by omega, by omega, by omega, by omega, HF.out.setNew (by show _ ≤ _ + 3; omega) _⟩
      rw [HL.out]
      simpa using HO.out.2.2.2.set 0 (.int .i64 (D + 1))

/-- A band as a value. -/
def bandV (b : BandN) : Value := .agg #[.int .i64 (b.level : Int), .int .i64 (b.orient : Int), .int .i64 (b.x : Int), .int .i64 (b.y : Int), .int .i64 (b.w : Int), .int .i64 (b.h : Int)]
/-- The number of the first band of a level. -/
def startI (l : Nat) : Nat := if l = 0 then 0 else 3 * l - 2
theorem startI_succ (l : Nat) : startI (l + 1) = 3 * l + 1 := by unfold startI; rw [if_neg (by omega)]; omega
theorem startI_next (l : Nat) : startI l + (lstO l + 1 - fstO l) = startI (l + 1) := by
  rw [startI_succ]
  unfold startI lstO fstO
  by_cases h : l = 0
  · subst h; rfl
  · rw [if_neg h, if_neg h, if_neg h]; omega
theorem lies_at {k x y l o : Nat} (hl : l ≤ k) (h1 : fstO l ≤ o) (h2 : o ≤ lstO l) (t : Nat) (ht : t + max l 1 = k + 1) :
    bandAt k x y (startI l + (o - fstO l)) = ⟨l, o, x / 2 ^ t * (o % 2), y / 2 ^ t * (o / 2), x / 2 ^ t, y / 2 ^ t⟩ := by
  by_cases h0 : l = 0
  · subst h0
    obtain rfl : o = 0 := by simpa [lstO] using h2
    obtain rfl : t = k := by omega
    unfold bandAt
    rw [if_pos (by rfl)]
    simp
  · have ef : fstO l = 1 := if_neg h0
    have el : lstO l = 3 := if_neg h0
    have es : startI l = 3 * l - 2 := if_neg h0
    rw [ef] at h1
    rw [el] at h2
    rw [es, ef]
    have ht' : t = k - l + 1 := by omega
    unfold bandAt
    rw [if_neg (by omega)]
    have a1 : (3 * l - 2 + (o - 1) - 1) / 3 + 1 = l := by omega
    have a2 : (3 * l - 2 + (o - 1) - 1) % 3 + 1 = o := by omega
    simp only [a1, a2, ← ht']
    have : o = 1 ∨ o = 2 ∨ o = 3 := by omega
    rcases this with rfl | rfl | rfl <;> simp

def bandE (L : Nat → BandN) {m : Nat} (p : Spot m) : Array Value := #[.int .i64 (p.1 : Int), bandV (L p.1)]
/-- The boxes of the sides and of the depth. -/
structure Boxes3 (w : World) (bw bh bd : Nat) (X Y D : Int) : Prop where
  b0 : Blk w bw #[.int .i64 X] 3
  b1 : Blk w bh #[.int .i64 Y] 3
  b2 : Blk w bd #[.int .i64 D] 3
theorem Boxes3.fr {w w' : World} {bw bh bd : Nat} {X Y D : Int} {S : Nat → Prop} (h : Boxes3 w bw bh bd X Y D) (f : Fr S w w') (h0 : ¬ S bw) (h1 : ¬ S bh) (h2 : ¬ S bd) : Boxes3 w' bw bh bd X Y D := ⟨h.b0.fr f h0, h.b1.fr f h1, h.b2.fr f h2⟩
theorem Boxes3.quiet {w w' : World} {bw bh bd : Nat} {X Y D : Int} (h : Boxes3 w bw bh bd X Y D) (f : Fr (fun _ => False) w w') : Boxes3 w' bw bh bd X Y D := h.fr f (fun h => h) (fun h => h) (fun h => h)
def Keep3 (bw bh bd : Nat) (A B : World) : Prop := KeepBox bw A B ∧ KeepBox bh A B ∧ KeepBox bd A B
theorem Keep3.trans {bw bh bd : Nat} {A B C : World} (h : Keep3 bw bh bd A B) (k : Keep3 bw bh bd B C) : Keep3 bw bh bd A C := ⟨h.1.trans k.1, h.2.1.trans k.2.1, h.2.2.trans k.2.2⟩
theorem Keep3.put {bw bh bd s : Nat} (h0 : bw < s) (h1 : bh < s) (h2 : bd < s) (W : World) (l : Nat) (o o' : Obj) (hl : s ≤ l) (a : W.heap[l]? = some o) (b : o.isCells = false) (c : o.isWalk = false) : Keep3 bw bh bd W (W.putObj l o') := ⟨KeepBox.put h0 W l o o' hl a b c, KeepBox.put h1 W l o o' hl a b c, KeepBox.put h2 W l o o' hl a b c⟩
theorem Keep3.of_fr {S : Nat → Prop} {bw bh bd : Nat} {A B : World} (f : Fr S A B) (h0 : bw < A.heap.size ∧ ¬ S bw) (h1 : bh < A.heap.size ∧ ¬ S bh) (h2 : bd < A.heap.size ∧ ¬ S bd) : Keep3 bw bh bd A B := ⟨KeepBox.of_fr f h0.1 h0.2, KeepBox.of_fr f h1.1 h1.2, KeepBox.of_fr f h2.1 h2.2⟩
theorem Boxes3.keep {w w' : World} {bw bh bd : Nat} {X Y D : Int} (h : Boxes3 w bw bh bd X Y D) (k : Keep3 bw bh bd w w') : Boxes3 w' bw bh bd X Y D := ⟨h.b0.of_block k.1, h.b1.of_block k.2.1, h.b2.of_block k.2.2⟩
theorem grown_of_fr {A B : World} (f : Fr (fun _ => False) A B) : A.grownBy B none := ⟨f.os, f.tape, f.output, f.size, fun k hk _ => f.block k hk (fun h => h)⟩

set_option maxRecDepth 100000 in
set_option maxHeartbeats 2000000 in
/-- The closure of All, in a range over it. -/
theorem ball1_in (n : Nat) (hn : 1 ≤ n) (l bc bw bh bd c k x y m : Nat) (X Y D : Int) (hx' : x ≤ 1024) (hy' : y ≤ 1024) (hk' : k ≤ 6) (hc : c ≤ k + 1) (hm : startI c = m) (hX : 0 < c → X = (x : Int) ∧ Y = (y : Int) ∧ D = (k : Int)) (J Jx : List (Spot m) → World → Prop) (B : Nat) (hA : AbidesFrom B J)
    (hY : ∀ pre p W1, J pre W1 → pre.length < m → YieldAt Fence.wide (n - 1) Try.prog l (bandE (bandAt k x y) p) W1 fun e W' =>
      (e = .returned (.bool true) ∧ J (pre ++ [p]) W' ∧ Keep3 bw bh bd W1 W') ∨ (e = .returned (.bool false) ∧ Jx (pre ++ [p]) W'))
    (W : World) (hBc : Blk W bc #[.int .i64 (c : Int)] 3) (hB : Boxes3 W bw bh bd X Y D) (h0 : J [] W) :
    CallsIn Fence.wide n Try.prog 25 #[.func (.yield l) #[] #[], .pointer (some ⟨bc, 0, none⟩), .pointer (some ⟨bw, 0, none⟩), .pointer (some ⟨bh, 0, none⟩), .pointer (some ⟨bd, 0, none⟩)] W fun e W' => (∃ v, e = .returned v) ∧
      ((∃ xs, Spots m xs ∧ J xs W') ∨ (∃ pre, True ∧ Jx pre W')) := by
  have hc0 : W.cell? ⟨bc, 0, none⟩ = some (.int .i64 (c : Int)) := by rw [hBc.cell]; rfl
  have HY := hid hY
  have HX := hid hX
  have HB := hid hB
  have HM := hid hm
  clear hY hX hBc hB hm
  refine callsIn_of_wp Try.func25 rfl trivial ?_ rfl
  simp only [Try.ntmps25, List.size_toArray, List.length_cons, List.length_nil, Nat.reduceAdd, Nat.reduceSub, Array.replicate_succ, Array.replicate_zero, List.push_toArray, List.append_toArray, List.nil_append, List.cons_append]
  gi_wp2
  refine wideIn_scope ?_
  gi_wp2
  refine wpIn_label ?_
  gi_wp2
  gi_loopw [6, 12] (fun i lv wr => ∃ q : Nat, q ≤ c ∧ lv = .int .i64 (q : Int) ∧ i = .int .i64 ((startI q : Nat) : Int) ∧ (∃ pre, Spots (startI q) pre ∧ J pre wr) ∧ Boxes3 wr bw bh bd X Y D) (fun _ lv _ => c - (intOf lv).toNat)
  case atStart => exact ⟨0, Nat.zero_le _, rfl, rfl, ⟨[], Spots.nil, h0⟩, HB.out⟩
  case round =>
    obtain ⟨q, hq, rfl, rfl, hJ, hB2⟩ := hrel
    have HJ := hid hJ
    have HB2 := hid hB2
    clear hJ hB2
    by_cases hlt : q < c
    · have hki : (q : Int) < (c : Int) := by omega
      obtain ⟨rfl, rfl, rfl⟩ := HX.out (by omega)
      obtain ⟨w0, hw0⟩ : ∃ w0, w0 = wr := ⟨_, rfl⟩
      gi_wp2_with fail
      refine ⟨trivial, ?_⟩
      refine (callsIn_wide.2 (borients_any q wr (by omega))).mono ?_
      rintro e w1 ⟨rfl, rfl⟩
      obtain ⟨of, hof⟩ : ∃ of, fstO q = of := ⟨_, rfl⟩
      obtain ⟨ol, hol⟩ : ∃ ol, lstO q = ol := ⟨_, rfl⟩
      obtain ⟨si, hsi⟩ : ∃ si, startI q = si := ⟨_, rfl⟩
      have hol3 : ol ≤ 3 ∧ of ≤ ol + 1 ∧ si ≤ 19 := by
        rw [← hol, ← hof, ← hsi]
        unfold lstO fstO startI
        by_cases hz : q = 0
        · rw [if_pos hz, if_pos hz, if_pos hz]; omega
        · rw [if_neg hz, if_neg hz, if_neg hz]; omega
      have hol4 := hol3.1
      have hsi4 := hol3.2.2
      have HOF := hid (And.intro hof (And.intro hol (And.intro hsi hol3.2.1)))
      rw [hof, hol, hsi]
      rw [hsi] at HJ
      clear hof hol hol3 hsi
      gi_wp2
      gi_loopw [6, 10] (fun i ov wr => ∃ o : Nat, of ≤ o ∧ o ≤ ol + 1 ∧ ov = .int .i64 (o : Int) ∧ i = .int .i64 ((si + (o - of) : Nat) : Int) ∧ (∃ pre, Spots (si + (o - of)) pre ∧ J pre wr) ∧ Boxes3 wr bw bh bd x y k) (fun _ ov _ => 4 - (intOf ov).toNat)
      case atStart => exact ⟨of, Nat.le_refl _, HOF.out.2.2.2, rfl, by rw [Nat.sub_self, Nat.add_zero], by rw [Nat.sub_self, Nat.add_zero]; exact HJ.out, HB2.out⟩
      case round =>
        obtain ⟨o, ho1, ho2, rfl, rfl, ⟨pre, hS, hJ2⟩, hB3⟩ := hrel
        by_cases hql : o ≤ ol
        · have hqi : (o : Int) ≤ (ol : Int) := by omega
          obtain ⟨eof, eol, esi, _⟩ := HOF.out
          obtain ⟨t, ht⟩ : ∃ t, t + max q 1 = k + 1 := ⟨k + 1 - max q 1, by omega⟩
          have hat := lies_at (k := k) (x := x) (y := y) (l := q) (o := o) (by omega) (by omega) (by omega) t ht
          rw [esi, eof] at hat
          obtain ⟨ix, hix⟩ : ∃ ix, si + (o - of) = ix := ⟨_, rfl⟩
          have hat' := hat
          rw [hix] at hat'
          have hmm : startI (q + 1) = 3 * q + 1 := startI_succ q
          have hmc : m = 3 * (c - 1) + 1 := by
            rw [← HM.out]
            have := startI_succ (c - 1)
            rwa [show c - 1 + 1 = c by omega] at this
          have hnx := startI_next q
          have hxm : ix < m := by rw [eol, eof, esi] at hnx; omega
          have hlen : pre.length < m := by rw [hS.len]; omega
          have HS := hid (Spots.snoc (hS.to hix) hxm)
          have HIX : Hid (si + (o + 1 - of) = ix + 1) := (show si + (o + 1 - of) = ix + 1 by omega)
          have HLi := hid (fun w => blies_go k x y q o w hx' hy' hk' (by omega) t ht _ _ rfl rfl)
          have HFC : Hid (∀ w2, Fr (fun _ => False) wr w2 → YieldAt Fence.wide (n - 1) Try.prog l #[.int .i64 (ix : Int), .agg #[.int .i64 (q : Int), .int .i64 (o : Int), .int .i64 ((x / 2 ^ t * (o % 2) : Nat) : Int), .int .i64 ((y / 2 ^ t * (o / 2) : Nat) : Int), .int .i64 ((x / 2 ^ t : Nat) : Int), .int .i64 ((y / 2 ^ t : Nat) : Int)]] w2 fun e W' =>
      (e = .returned (.bool true) ∧ J (pre ++ [⟨ix, hxm⟩]) W' ∧ Keep3 bw bh bd w2 W') ∨ (e = .returned (.bool false) ∧ Jx (pre ++ [⟨ix, hxm⟩]) W')) := by
            intro w2 f2
            have := HY.out pre ⟨ix, hxm⟩ w2 (hA _ _ _ none hJ2 (grown_of_fr f2) (fun r e => by cases e)) hlen
            unfold bandE at this
            dsimp only at this
            rw [hat'] at this
            exact this
          rw [hix]
          have e0 : wr.cell? ⟨bw, 0, none⟩ = some (.int .i64 (x : Int)) := by rw [hB3.b0.cell]; rfl
          have e1 : wr.cell? ⟨bh, 0, none⟩ = some (.int .i64 (y : Int)) := by rw [hB3.b1.cell]; rfl
          have e2 : wr.cell? ⟨bd, 0, none⟩ = some (.int .i64 (k : Int)) := by rw [hB3.b2.cell]; rfl
          have HB3 := hid hB3
          generalize x / 2 ^ t * (o % 2) = A1 at HLi HFC
          generalize y / 2 ^ t * (o / 2) = A2 at HLi HFC
          generalize x / 2 ^ t = A3 at HLi HFC
          generalize y / 2 ^ t = A4 at HLi HFC
          have hixl : ix ≤ 19 := by omega
          clear hB3 hJ2 hS hlen hat hat' hnx hmm hmc ht eof eol esi hix
          gi_wp2_with fail
          refine ⟨trivial, ?_⟩
          refine (callsIn_wide.2 (HLi.out wr)).mono ?_
          rintro e w2 ⟨rfl, f2⟩
          obtain ⟨fn, tmps, assign, body, hy, hR⟩ := HFC.out w2 f2
          have HB4 := hid (HB3.out.quiet f2)
          clear f2 e0 e1 e2
          gi_wp2
          refine hR.mono ?_
          rintro e W3 (⟨rfl, hJ3, hk3⟩ | ⟨rfl, hJx3⟩)
          · have HJ3 := hid hJ3
            have HK3 := hid (HB4.out.keep hk3)
            clear hJ3 hk3
            gi_wp2
            go_roundw
            case rel => exact ⟨o + 1, by omega, by omega, by go_num, by rw [HIX.out]; go_num, ⟨_, by rw [HIX.out]; exact HS.out, HJ3.out⟩, HK3.out⟩
            case measure => simp [intOf]; omega
          · have HJX := hid hJx3
            clear hJx3
            gi_wp2
            rw [Exit.noGoto_normal]
            go_end0
            exact ⟨⟨_, rfl⟩, .inr ⟨_, trivial, HJX.out⟩⟩
        · have hqi : ¬ (o : Int) ≤ (ol : Int) := by omega
          obtain ⟨eof, eol, esi, _⟩ := HOF.out
          have hnx := startI_next q
          have hoe : o = ol + 1 := by omega
          rw [eol, eof, esi, ← hoe] at hnx
          rw [hnx] at hS ⊢
          have HS := hid hS
          have HJ2 := hid hJ2
          have HB2 := hid hB3
          clear hS hJ2 hB3 eof eol esi hnx hoe
          gi_wp2
          go_roundw
          case rel => exact ⟨q + 1, by omega, by go_num, rfl, ⟨pre, HS.out, HJ2.out⟩, HB2.out⟩
          case measure => simp [intOf]; omega
    · have hki : ¬ (q : Int) < (c : Int) := by omega
      obtain rfl : q = c := by omega
      gi_wp2
      go_end0
      obtain ⟨pre, hS, hJ⟩ := HJ.out
      exact ⟨⟨_, rfl⟩, .inl ⟨pre, hS.to HM.out, hJ⟩⟩

theorem ball_stops (n : Nat) (hn : 1 ≤ n) (bc bw bh bd c k x y m : Nat) (X Y D : Int) (hx' : x ≤ 1024) (hy' : y ≤ 1024) (hk' : k ≤ 6) (hc : c ≤ k + 1) (hm : startI c = m) (hX : 0 < c → X = (x : Int) ∧ Y = (y : Int) ∧ D = (k : Int)) (w : World) (hBc : Blk w bc #[.int .i64 (c : Int)] 3) (hB : Boxes3 w bw bh bd X Y D) :
    SeqStopsK Fence.wide n Try.prog 25 #[.pointer (some ⟨bc, 0, none⟩), .pointer (some ⟨bw, 0, none⟩), .pointer (some ⟨bh, 0, none⟩), .pointer (some ⟨bd, 0, none⟩)] (bandE (m := m) (bandAt k x y)) (Keep3 bw bh bd) (Spots m) (fun _ => True) m w :=
  fun l J Jx W hW hA _ hY h0 => ball1_in n hn l bc bw bh bd c k x y m X Y D hx' hy' hk' hc hm hX J Jx _ hA hY W (hBc.of_block (hW.block bc hBc.lt)) ⟨hB.b0.of_block (hW.block bw hB.b0.lt), hB.b1.of_block (hW.block bh hB.b1.lt), hB.b2.of_block (hW.block bd hB.b2.lt)⟩ h0
end Go.Proofs.Ytgmainbgliejhaa
