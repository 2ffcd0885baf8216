/-
  Package split: All, and what it tells, inside a range over it.
-/
import Derived.BigQuiet
import Derived.Test.YtfnacnelmkemeaaSplitP
import Derived.Test.YtfnacnelmkemeaaWeaveN
namespace Go.Proofs.Ytfnacnelmkemeaa
open Go.RowKit Go.Shelf

attribute [local go_sem] Oper.semAt_some

/-- The boxes of the counts and of the sides. -/
structure Boxes4 (w : World) (bn bm bw bh : Nat) (N M X Y : Int) : Prop where
  b0 : Blk w bn #[.int .i64 N] 3
  b1 : Blk w bm #[.int .i64 M] 3
  b2 : Blk w bw #[.int .i64 X] 3
  b3 : Blk w bh #[.int .i64 Y] 3
theorem Boxes4.fr {w w' : World} {bn bm bw bh : Nat} {N M X Y : Int} {S : Nat → Prop} (h : Boxes4 w bn bm bw bh N M X Y) (f : Fr S w w') (h0 : ¬ S bn) (h1 : ¬ S bm) (h2 : ¬ S bw) (h3 : ¬ S bh) : Boxes4 w' bn bm bw bh N M X Y := ⟨h.b0.fr f h0, h.b1.fr f h1, h.b2.fr f h2, h.b3.fr f h3⟩
theorem Boxes4.quiet {w w' : World} {bn bm bw bh : Nat} {N M X Y : Int} (h : Boxes4 w bn bm bw bh N M X Y) (f : Fr (fun _ => False) w w') : Boxes4 w' bn bm bw bh N M X Y := h.fr f (fun h => h) (fun h => h) (fun h => h) (fun h => h)
def Keep4 (bn bm bw bh : Nat) (A B : World) : Prop := KeepBox bn A B ∧ KeepBox bm A B ∧ KeepBox bw A B ∧ KeepBox bh A B
theorem Keep4.trans {bn bm bw bh : Nat} {A B C : World} (h : Keep4 bn bm bw bh A B) (k : Keep4 bn bm bw bh B C) : Keep4 bn bm bw bh A C := ⟨h.1.trans k.1, h.2.1.trans k.2.1, h.2.2.1.trans k.2.2.1, h.2.2.2.trans k.2.2.2⟩
theorem Keep4.put {bn bm bw bh s : Nat} (h0 : bn < s) (h1 : bm < s) (h2 : bw < s) (h3 : bh < s) (W : World) (l : Nat) (o o' : Obj) (hl : s ≤ l) (a : W.heap[l]? = some o) (b : o.isCells = false) (c : o.isWalk = false) : Keep4 bn bm bw bh W (W.putObj l o') := ⟨KeepBox.put h0 W l o o' hl a b c, KeepBox.put h1 W l o o' hl a b c, KeepBox.put h2 W l o o' hl a b c, KeepBox.put h3 W l o o' hl a b c⟩
theorem Keep4.of_fr {S : Nat → Prop} {bn bm bw bh : Nat} {A B : World} (f : Fr S A B) (h0 : bn < A.heap.size ∧ ¬ S bn) (h1 : bm < A.heap.size ∧ ¬ S bm) (h2 : bw < A.heap.size ∧ ¬ S bw) (h3 : bh < A.heap.size ∧ ¬ S bh) : Keep4 bn bm bw bh A B := ⟨KeepBox.of_fr f h0.1 h0.2, KeepBox.of_fr f h1.1 h1.2, KeepBox.of_fr f h2.1 h2.2, KeepBox.of_fr f h3.1 h3.2⟩
theorem Boxes4.keep {w w' : World} {bn bm bw bh : Nat} {N M X Y : Int} (h : Boxes4 w bn bm bw bh N M X Y) (k : Keep4 bn bm bw bh w w') : Boxes4 w' bn bm bw bh N M X Y := ⟨h.b0.of_block k.1, h.b1.of_block k.2.1, h.b2.of_block k.2.2.1, h.b3.of_block k.2.2.2⟩

/-- What All gives: its closure over the boxes of the counts and of the sides. -/
def AllMade12 (w w' : World) (e : Ending) (N M X Y : Int) : Prop :=
  ∃ bn bm bw bh, e = .returned (.func (.func 21) #[] #[.pointer (some ⟨bn, 0, none⟩), .pointer (some ⟨bm, 0, none⟩), .pointer (some ⟨bw, 0, none⟩), .pointer (some ⟨bh, 0, none⟩)]) ∧ Boxes4 w' bn bm bw bh N M X Y ∧ w.heap.size ≤ bn ∧ w.heap.size ≤ bm ∧ w.heap.size ≤ bw ∧ w.heap.size ≤ bh ∧ Fr (fun _ => False) w w'

set_option maxHeartbeats 1000000 in
theorem sall_any (X Y M N : Int) (w : World) :
    Calls Try.prog 15 #[.int .i64 X, .int .i64 Y, .int .i64 M, .int .i64 N] w fun e w' => AllMade12 w w' e (if splitOk X Y M N then N else 0) (if splitOk X Y M N then M else 0) X Y := by
  obtain ⟨W, hW⟩ : ∃ W, W = (((w.alloc (.cells #[.int .i64 X] 3)).alloc (.cells #[.int .i64 Y] 3)).alloc (.cells #[.int .i64 M] 3)).alloc (.cells #[.int .i64 N] 3) := ⟨_, rfl⟩
  have F0 : Fr (fun _ => False) w W := by rw [hW]; exact ((((Fr.refl _ w).alloc _).alloc _).alloc _).alloc _
  have O0 : Blk W w.heap.size #[.int .i64 X] 3 := by rw [hW]; exact (((Blk.new _ _ _).alloc _).alloc _).alloc _
  have O1 : Blk W (w.heap.size + 1) #[.int .i64 Y] 3 := by
    rw [hW]
    have := Blk.new (w.alloc (.cells #[.int .i64 X] 3)) #[.int .i64 Y] 3
    simp at this
    exact (this.alloc _).alloc _
  have O2 : Blk W (w.heap.size + 2) #[.int .i64 M] 3 := by
    rw [hW]
    have := Blk.new ((w.alloc (.cells #[.int .i64 X] 3)).alloc (.cells #[.int .i64 Y] 3)) #[.int .i64 M] 3
    simp at this
    exact this.alloc _
  have O3 : Blk W (w.heap.size + 3) #[.int .i64 N] 3 := by
    rw [hW]
    have := Blk.new (((w.alloc (.cells #[.int .i64 X] 3)).alloc (.cells #[.int .i64 Y] 3)).alloc (.cells #[.int .i64 M] 3)) #[.int .i64 N] 3
    simpa using this
  have c0 : W.cell? ⟨w.heap.size, 0, none⟩ = some (.int .i64 X) := by rw [O0.cell]; rfl
  have c1 : W.cell? ⟨w.heap.size + 1, 0, none⟩ = some (.int .i64 Y) := by rw [O1.cell]; rfl
  have c2 : W.cell? ⟨w.heap.size + 2, 0, none⟩ = some (.int .i64 M) := by rw [O2.cell]; rfl
  have c3 : W.cell? ⟨w.heap.size + 3, 0, none⟩ = some (.int .i64 N) := by rw [O3.cell]; rfl
  have t2 := O2.thaw
  have t3 := O3.thaw
  have HW := hid hW
  have HO := hid (And.intro O0 (And.intro O1 (And.intro O2 O3)))
  have HF := hid F0
  clear hW O0 O1 O2 O3 F0
  cases hok : splitOk X Y M N with
  | true =>
    rw [if_pos rfl, if_pos rfl]
    go_enter Try.func15, Try.ntmps15
    go_wp2_with fail
    rw [← HW.out]
    go_wp2_with fail
    refine (sright_any _ _ _ _ _).mono ?_
    rintro e w1 ⟨rfl, hw1⟩
    rw [hw1, hok]
    clear hw1
    go_wp2
    go_ret
    exact ⟨_, _, _, _, rfl, ⟨HO.out.2.2.2, HO.out.2.2.1, HO.out.1, HO.out.2.1⟩, by omega, by omega, by omega, by omega, HF.out⟩
  | false =>
    rw [if_neg (by decide), if_neg (by decide)]
    go_enter Try.func15, Try.ntmps15
    go_wp2_with fail
    rw [← HW.out]
    go_wp2_with fail
    refine (sright_any _ _ _ _ _).mono ?_
    rintro e w1 ⟨rfl, hw1⟩
    rw [hw1, hok]
    clear hw1
    go_wp2
    go_ret
    refine ⟨_, _, _, _, rfl, ⟨?_, ?_, ?_, ?_⟩, by omega, by omega, by omega, by omega, (HF.out.setNew (p := ⟨w.heap.size + 2, 0, none⟩) (by show _ ≤ _ + 2; omega) _).setNew (p := ⟨w.heap.size + 3, 0, none⟩) (by show _ ≤ _ + 3; omega) _⟩
    · simpa using (HO.out.2.2.2.setOther (a := ⟨w.heap.size + 2, 0, none⟩) (by show _ + 3 ≠ _ + 2; omega) (.int .i64 0)).set 0 (.int .i64 0)
    · have := (HO.out.2.2.1.set 0 (.int .i64 0)).setOther (a := ⟨w.heap.size + 3, 0, none⟩) (by show _ + 2 ≠ _ + 3; omega) (.int .i64 0)
      simpa using this
    · exact (HO.out.1.setOther (by show _ ≠ _ + 2; omega) _).setOther (by show _ ≠ _ + 3; omega) _
    · exact (HO.out.2.1.setOther (by show _ + 1 ≠ _ + 2; omega) _).setOther (by show _ + 1 ≠ _ + 3; omega) _

def partE (L : Nat → RectN) {m : Nat} (p : Spot m) : Array Value := #[.int .i64 (p.1 : Int), rectV (L p.1)]

set_option maxRecDepth 100000 in
set_option maxHeartbeats 2000000 in
/-- The closure of All, in a range over it. -/
theorem sall1_in (n : Nat) (hn : 1 ≤ n) (l bn bm bw bh c d x y m : Nat) (X Y : Int) (hx' : x ≤ 1024) (hy' : y ≤ 1024) (hd : d ≤ 64) (hc : c ≤ 64) (hm : c * d = m) (hX : 0 < c → X = (x : Int) ∧ Y = (y : Int)) (J Jx : List (Spot m) → World → Prop) (B : Nat) (hA : AbidesFrom B J)
    (hY : ∀ pre p W1, J pre W1 → pre.length < m → YieldAt Fence.wide (n - 1) Try.prog l (partE (partK x y d c) p) W1 fun e W' =>
      (e = .returned (.bool true) ∧ J (pre ++ [p]) W' ∧ Keep4 bn bm bw bh W1 W') ∨ (e = .returned (.bool false) ∧ Jx (pre ++ [p]) W'))
    (W : World) (hB : Boxes4 W bn bm bw bh (c : Int) (d : Int) X Y) (h0 : J [] W) :
    CallsIn Fence.wide n Try.prog 21 #[.func (.yield l) #[] #[], .pointer (some ⟨bn, 0, none⟩), .pointer (some ⟨bm, 0, none⟩), .pointer (some ⟨bw, 0, none⟩), .pointer (some ⟨bh, 0, none⟩)] W fun e W' => (∃ v, e = .returned v) ∧
      ((∃ xs, Spots m xs ∧ J xs W') ∨ (∃ pre, True ∧ Jx pre W')) := by
  have hc0 : W.cell? ⟨bn, 0, none⟩ = some (.int .i64 (c : Int)) := by rw [hB.b0.cell]; rfl
  have HY := hid hY
  have HX := hid hX
  have HB := hid hB
  have HM := hid hm
  clear hY hX hB hm
  refine callsIn_of_wp Try.func21 rfl trivial ?_ rfl
  simp only [Try.ntmps21, List.size_toArray, List.length_cons, List.length_nil, Nat.reduceAdd, Nat.reduceSub, Array.replicate_succ, Array.replicate_zero, List.push_toArray, List.append_toArray, List.nil_append, List.cons_append]
  gi_wp2
  refine wideIn_scope ?_
  refine wpIn_seq (wpIn_label ?_)
  dsimp only [Exit.then]
  gi_wp2
  gi_loopw [9] (fun i wr => ∃ j : Nat, j ≤ c ∧ i = .int .i64 (j : Int) ∧ (∃ pre, Spots (j * d) pre ∧ J pre wr) ∧ Boxes4 wr bn bm bw bh (c : Int) (d : Int) X Y) (fun i _ => c - (intOf i).toNat)
  case atStart => exact ⟨0, Nat.zero_le _, rfl, ⟨[], by rw [Nat.zero_mul]; exact Spots.nil, h0⟩, HB.out⟩
  case round =>
    obtain ⟨j, hj, rfl, hJ, hB2⟩ := hrel
    have HJ := hid hJ
    clear hJ
    by_cases hlt : j < c
    · have hki : (j : Int) < (c : Int) := by omega
      obtain ⟨rfl, rfl⟩ := HX.out (by omega)
      have e1 : wr.cell? ⟨bm, 0, none⟩ = some (.int .i64 (d : Int)) := by rw [hB2.b1.cell]; rfl
      have HB2 := hid hB2
      clear hB2
      obtain ⟨w0, hw0⟩ : ∃ w0, w0 = wr := ⟨_, rfl⟩
      gi_wp2
      gi_loopw [13] (fun i wr => ∃ q : Nat, q ≤ d ∧ i = .int .i64 (q : Int) ∧ (∃ pre, Spots (j * d + q) pre ∧ J pre wr) ∧ Boxes4 wr bn bm bw bh (c : Int) (d : Int) (x : Int) (y : Int)) (fun i _ => d - (intOf i).toNat)
      case atStart => exact ⟨0, Nat.zero_le _, rfl, HJ.out, HB2.out⟩
      case round =>
        obtain ⟨i, hi, rfl, ⟨pre, hS, hJ2⟩, hB3⟩ := hrel
        by_cases hil : i < d
        · have hii : (i : Int) < (d : Int) := by omega
          obtain ⟨s, hs⟩ : ∃ s, j * d = s := ⟨_, rfl⟩
          obtain ⟨ix, hix⟩ : ∃ ix, s + i = ix := ⟨_, rfl⟩
          have hsI : (j : Int) * (d : Int) = (s : Int) := by rw [← hs, Int.natCast_mul]
          have hixI : (s : Int) + (i : Int) = (ix : Int) := by omega
          have hrow : j * d + d ≤ c * d := by rw [← Nat.succ_mul]; exact Nat.mul_le_mul_right _ (by omega)
          have hcd : c * d ≤ 4096 := Nat.mul_le_mul hc hd
          have hml := HM.out
          have hxm : ix < m := by omega
          have hsl : s ≤ 4096 := by omega
          have hixl : ix ≤ 4096 := by omega
          have hlen : pre.length < m := by rw [hS.len]; omega
          have HS : Hid (Spots (j * d + (i + 1)) (pre ++ [(⟨ix, hxm⟩ : Spot m)])) := (Spots.snoc (hS.to (by omega)) hxm).to (by omega)
          obtain ⟨R, hR⟩ : ∃ R, rectP x y d c i j = R := ⟨_, rfl⟩
          have hK : partK x y d c ix = R := by rw [← hix, ← hs, partK_flat hil]; exact hR
          have HLi := hid (fun w => slies_go x y d c i j w hx' hy' hd hc hil hlt R hR)
          have HFC : Hid (∀ w2, Fr (fun _ => False) wr.drew w2 → YieldAt Fence.wide (n - 1) Try.prog l #[.int .i64 (ix : Int), .agg #[.int .i64 (R.x : Int), .int .i64 (R.y : Int), .int .i64 (R.w : Int), .int .i64 (R.h : Int)]] w2 fun e W' =>
              (e = .returned (.bool true) ∧ J (pre ++ [⟨ix, hxm⟩]) W' ∧ Keep4 bn bm bw bh w2 W') ∨ (e = .returned (.bool false) ∧ Jx (pre ++ [⟨ix, hxm⟩]) W')) := by
            intro w2 f2
            have := HY.out pre ⟨ix, hxm⟩ w2 (hA _ _ _ none hJ2 (grown_of_fr ((Fr.refl _ wr).drew.trans' f2)) (fun r e => by cases e)) hlen
            unfold partE at this
            dsimp only at this
            rw [hK] at this
            exact this
          have HBX : Hid (∀ wq, Fr (fun _ => False) wr.drew wq → Boxes4 wq bn bm bw bh (c : Int) (d : Int) (x : Int) (y : Int)) := fun wq f => hB3.quiet ((Fr.refl _ wr).drew.trans' f)
          have HB3 : Hid (∀ wq, Fr (fun _ => False) wr.drew wq → wq.cell? ⟨bn, 0, none⟩ = some (.int .i64 (c : Int)) ∧ wq.cell? ⟨bm, 0, none⟩ = some (.int .i64 (d : Int)) ∧ wq.cell? ⟨bw, 0, none⟩ = some (.int .i64 (x : Int)) ∧ wq.cell? ⟨bh, 0, none⟩ = some (.int .i64 (y : Int))) := fun wq f => by
            have h := HBX.out wq f
            exact ⟨by rw [h.b0.cell]; rfl, by rw [h.b1.cell]; rfl, by rw [h.b2.cell]; rfl, by rw [h.b3.cell]; rfl⟩
          clear hB3 hJ2 hS hlen hR hK hs hix hrow hcd hml e1
          gi_wp2
          refine weaveSTI 13 [.eq (Value.func (.yield l) #[] #[]), .eq (Value.int .i64 (j : Int)), .eq (Value.int .i64 (d : Int)), .eq (Value.int .i64 (s : Int)), .eq (Value.int .i64 (i : Int)), .eq (Value.int .i64 (ix : Int)), .eq (Value.int .i64 (x : Int)), .eq (Value.int .i64 (y : Int)), .eq (Value.int .i64 (d : Int)), .eq (Value.int .i64 (c : Int)), .eq (Value.int .i64 (i : Int)), .eq (Value.int .i64 (j : Int)), .eq (Value.agg #[.int .i64 (R.x : Int), .int .i64 (R.y : Int), .int .i64 (R.w : Int), .int .i64 (R.h : Int)])] (by kernel_rfl) (by kernel_rfl) ?obls ?tail
          case obls =>
            simp only [List.take_succ_cons, List.take_zero]
            refine ⟨?_, ?_, ?_, ?_, ?_, ?_, ?_, ?_, ?_, ?_, ?_, ?_, ?_, trivial⟩
            · intro vals wq f h
              simp only [fillA, fillT, List.setIfInBounds_toArray, List.set_cons_succ, List.set_cons_zero, Option.getD_some, Nat.zero_add, Nat.reduceAdd]
              obtain ⟨e1, e2, e3, e4⟩ := HB3.out wq f
              clear h
              go_wp2
              exact ⟨rfl, rfl, _, rfl, Fr.refl _ _, rfl⟩
            · intro vals wq f h
              simp only [fillA, fillT, List.setIfInBounds_toArray, List.set_cons_succ, List.set_cons_zero, Option.getD_some, Nat.zero_add, Nat.reduceAdd]
              obtain ⟨e1, e2, e3, e4⟩ := HB3.out wq f
              clear h
              go_wp2
              exact ⟨rfl, rfl, _, rfl, Fr.refl _ _, rfl⟩
            · intro vals wq f h
              simp only [fillA, fillT, List.setIfInBounds_toArray, List.set_cons_succ, List.set_cons_zero, Option.getD_some, Nat.zero_add, Nat.reduceAdd]
              obtain ⟨e1, e2, e3, e4⟩ := HB3.out wq f
              clear h
              go_wp2
              exact ⟨rfl, rfl, _, rfl, Fr.refl _ _, rfl⟩
            · intro vals wq f h
              simp only [fillA, fillT, List.setIfInBounds_toArray, List.set_cons_succ, List.set_cons_zero, Option.getD_some, Nat.zero_add, Nat.reduceAdd]
              have h1 : vals 1 = Value.int .i64 (j : Int) := h 1 (by kernel_rfl)
              rw [h1]
              have h2 : vals 2 = Value.int .i64 (d : Int) := h 2 (by kernel_rfl)
              rw [h2]
              obtain ⟨e1, e2, e3, e4⟩ := HB3.out wq f
              clear h
              go_wp2
              exact ⟨rfl, rfl, _, rfl, Fr.refl _ _, rfl⟩
            · intro vals wq f h
              simp only [fillA, fillT, List.setIfInBounds_toArray, List.set_cons_succ, List.set_cons_zero, Option.getD_some, Nat.zero_add, Nat.reduceAdd]
              obtain ⟨e1, e2, e3, e4⟩ := HB3.out wq f
              clear h
              go_wp2
              exact ⟨rfl, rfl, _, rfl, Fr.refl _ _, rfl⟩
            · intro vals wq f h
              simp only [fillA, fillT, List.setIfInBounds_toArray, List.set_cons_succ, List.set_cons_zero, Option.getD_some, Nat.zero_add, Nat.reduceAdd]
              have h3 : vals 3 = Value.int .i64 (s : Int) := h 3 (by kernel_rfl)
              rw [h3]
              have h4 : vals 4 = Value.int .i64 (i : Int) := h 4 (by kernel_rfl)
              rw [h4]
              obtain ⟨e1, e2, e3, e4⟩ := HB3.out wq f
              clear h
              go_wp2
              exact ⟨rfl, rfl, _, rfl, Fr.refl _ _, rfl⟩
            · intro vals wq f h
              simp only [fillA, fillT, List.setIfInBounds_toArray, List.set_cons_succ, List.set_cons_zero, Option.getD_some, Nat.zero_add, Nat.reduceAdd]
              obtain ⟨e1, e2, e3, e4⟩ := HB3.out wq f
              clear h
              go_wp2
              exact ⟨rfl, rfl, _, rfl, Fr.refl _ _, rfl⟩
            · intro vals wq f h
              simp only [fillA, fillT, List.setIfInBounds_toArray, List.set_cons_succ, List.set_cons_zero, Option.getD_some, Nat.zero_add, Nat.reduceAdd]
              obtain ⟨e1, e2, e3, e4⟩ := HB3.out wq f
              clear h
              go_wp2
              exact ⟨rfl, rfl, _, rfl, Fr.refl _ _, rfl⟩
            · intro vals wq f h
              simp only [fillA, fillT, List.setIfInBounds_toArray, List.set_cons_succ, List.set_cons_zero, Option.getD_some, Nat.zero_add, Nat.reduceAdd]
              obtain ⟨e1, e2, e3, e4⟩ := HB3.out wq f
              clear h
              go_wp2
              exact ⟨rfl, rfl, _, rfl, Fr.refl _ _, rfl⟩
            · intro vals wq f h
              simp only [fillA, fillT, List.setIfInBounds_toArray, List.set_cons_succ, List.set_cons_zero, Option.getD_some, Nat.zero_add, Nat.reduceAdd]
              obtain ⟨e1, e2, e3, e4⟩ := HB3.out wq f
              clear h
              go_wp2
              exact ⟨rfl, rfl, _, rfl, Fr.refl _ _, rfl⟩
            · intro vals wq f h
              simp only [fillA, fillT, List.setIfInBounds_toArray, List.set_cons_succ, List.set_cons_zero, Option.getD_some, Nat.zero_add, Nat.reduceAdd]
              obtain ⟨e1, e2, e3, e4⟩ := HB3.out wq f
              clear h
              go_wp2
              exact ⟨rfl, rfl, _, rfl, Fr.refl _ _, rfl⟩
            · intro vals wq f h
              simp only [fillA, fillT, List.setIfInBounds_toArray, List.set_cons_succ, List.set_cons_zero, Option.getD_some, Nat.zero_add, Nat.reduceAdd]
              obtain ⟨e1, e2, e3, e4⟩ := HB3.out wq f
              clear h
              go_wp2
              exact ⟨rfl, rfl, _, rfl, Fr.refl _ _, rfl⟩
            · intro vals wq f h
              simp only [fillA, fillT, List.setIfInBounds_toArray, List.set_cons_succ, List.set_cons_zero, Option.getD_some, Nat.zero_add, Nat.reduceAdd]
              have h6 : vals 6 = Value.int .i64 (x : Int) := h 6 (by kernel_rfl)
              rw [h6]
              have h7 : vals 7 = Value.int .i64 (y : Int) := h 7 (by kernel_rfl)
              rw [h7]
              have h8 : vals 8 = Value.int .i64 (d : Int) := h 8 (by kernel_rfl)
              rw [h8]
              have h9 : vals 9 = Value.int .i64 (c : Int) := h 9 (by kernel_rfl)
              rw [h9]
              have h10 : vals 10 = Value.int .i64 (i : Int) := h 10 (by kernel_rfl)
              rw [h10]
              have h11 : vals 11 = Value.int .i64 (j : Int) := h 11 (by kernel_rfl)
              rw [h11]
              obtain ⟨e1, e2, e3, e4⟩ := HB3.out wq f
              clear h
              go_wp2_with fail
              refine (HLi.out wq).mono ?_
              rintro e w6 ⟨rfl, f6⟩
              go_wp2
              exact ⟨rfl, rfl, _, rfl, f6, rfl⟩
          case tail =>
            intro vals wq f h
            simp only [List.take_succ_cons, List.take_zero, fillA, fillT, List.setIfInBounds_toArray, List.set_cons_succ, List.set_cons_zero, List.drop_succ_cons, List.drop_zero, Nat.zero_add, Nat.reduceAdd]
            have h0 : vals 0 = Value.func (.yield l) #[] #[] := h 0 (by omega)
            rw [h0]
            have h5 : vals 5 = Value.int .i64 (ix : Int) := h 5 (by omega)
            rw [h5]
            have h12 : vals 12 = Value.agg #[.int .i64 (R.x : Int), .int .i64 (R.y : Int), .int .i64 (R.w : Int), .int .i64 (R.h : Int)] := h 12 (by omega)
            rw [h12]
            obtain ⟨fn, tmps, assign, body, hy, hR⟩ := HFC.out wq f
            have HB4 := hid (HBX.out wq f)
            clear f h
            gi_wp2
            refine hR.mono ?_
            rintro e W3 (⟨rfl, hJ3, hk3⟩ | ⟨rfl, hJx3⟩)
            · have HJ3 := hid hJ3
              have HK3 := hid (HB4.out.keep hk3)
              clear hJ3 hk3
              gi_wp2
              go_roundw
              case rel => exact ⟨i + 1, by omega, by go_num, ⟨_, HS.out, HJ3.out⟩, HK3.out⟩
              case measure => simp [intOf]; omega
            · have HJX := hid hJx3
              clear hJx3
              gi_wp2
              rw [Exit.noGoto_normal]
              go_end0
              exact ⟨⟨_, rfl⟩, .inr ⟨_, trivial, HJX.out⟩⟩
        · have hii : ¬ (i : Int) < (d : Int) := by omega
          obtain rfl : i = d := by omega
          have HS := hid hS
          have HJ2 := hid hJ2
          have HB2 := hid hB3
          clear hS hJ2 hB3
          gi_wp2
          go_roundw
          case rel => exact ⟨j + 1, by omega, by go_num, ⟨pre, by rw [Nat.succ_mul]; exact HS.out, HJ2.out⟩, HB2.out⟩
          case measure => simp [intOf]; omega
    · have hki : ¬ (j : Int) < (c : Int) := by omega
      obtain rfl : j = c := by omega
      gi_wp2
      go_end0
      obtain ⟨pre, hS, hJ⟩ := HJ.out
      exact ⟨⟨_, rfl⟩, .inl ⟨pre, hS.to HM.out, hJ⟩⟩

theorem sall_stops (n : Nat) (hn : 1 ≤ n) (bn bm bw bh c d x y m : Nat) (X Y : Int) (hx' : x ≤ 1024) (hy' : y ≤ 1024) (hd : d ≤ 64) (hc : c ≤ 64) (hm : c * d = m) (hX : 0 < c → X = (x : Int) ∧ Y = (y : Int)) (w : World) (hB : Boxes4 w bn bm bw bh (c : Int) (d : Int) X Y) :
    SeqStopsK Fence.wide n Try.prog 21 #[.pointer (some ⟨bn, 0, none⟩), .pointer (some ⟨bm, 0, none⟩), .pointer (some ⟨bw, 0, none⟩), .pointer (some ⟨bh, 0, none⟩)] (partE (m := m) (partK x y d c)) (Keep4 bn bm bw bh) (Spots m) (fun _ => True) m w :=
  fun l J Jx W hW hA _ hY h0 => sall1_in n hn l bn bm bw bh c d x y m X Y hx' hy' hd hc hm hX J Jx _ hA hY W ⟨hB.b0.of_block (hW.block bn hB.b0.lt), hB.b1.of_block (hW.block bm hB.b1.lt), hB.b2.of_block (hW.block bw hB.b2.lt), hB.b3.of_block (hW.block bh hB.b3.lt)⟩ h0
end Go.Proofs.Ytfnacnelmkemeaa
