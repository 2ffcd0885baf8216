/-
  Package plane: Rows, in a range over it.
-/
import Derived.Test.YtgmainbgliejhaaRangeV
import Derived.Test.YtgmainbgliejhaaPlaneR
import Derived.Test.YtgmainbgliejhaaBandsS
namespace Go.Proofs.Ytgmainbgliejhaa
open Go.RowKit Go.Shelf

attribute [local go_sem] Oper.semAt_some

/-- What a row that is told holds. -/
def RowTold (V : Nat → Int) (x B k r : Nat) (W : World) : Prop := Row W r x (fun i => V (k * x + i)) ∧ B ≤ r
theorem rowTold_own (V : Nat → Int) (x B k r C : Nat) : OwnFrom C (fun (_ : Unit) => RowTold V x B k r) := by
  rintro _ A D row ⟨⟨cs, hb, h⟩, hB⟩ hgr hr
  exact ⟨⟨cs, blk_grown hb hgr (fun r e => (hr r e).2), h⟩, hB⟩

def KeepR (bv bw gc : Nat) (A B : World) : Prop := A.heap.size ≤ B.heap.size ∧ Keep3 bv bw gc A B
theorem KeepR.trans {bv bw gc : Nat} {A B C : World} (h : KeepR bv bw gc A B) (k : KeepR bv bw gc B C) : KeepR bv bw gc A C := ⟨Nat.le_trans h.1 k.1, h.2.trans k.2⟩
theorem KeepR.put {bv bw gc s : Nat} (h0 : bv < s) (h1 : bw < s) (h2 : gc < s) (W : World) (l : Nat) (o o' : Obj) (hl : s ≤ l) (a : W.heap[l]? = some o) (b : o.isCells = false) (c : o.isWalk = false) : KeepR bv bw gc W (W.putObj l o') := ⟨by simp, Keep3.put h0 h1 h2 W l o o' hl a b c⟩

set_option maxRecDepth 100000 in
set_option maxHeartbeats 2000000 in
theorem prows1_val (n : Nat) (hn : 1 ≤ n) (l bh bv bw gc x y m B C : Nat) (V : Nat → Int) (hx : 1 ≤ x) (hx' : x ≤ 1024) (hy' : y ≤ 1024) (hm : x * y = m) (J : Nat → World → Prop) (hA : AbidesFrom C J)
    (hY : ∀ k r W1, k < y → J k W1 → RowTold V x B k r W1 → YieldAt Fence.wide (n - 1) Try.prog l #[.int .i64 (k : Int), .slice (some ⟨r, 0, none⟩) x x] W1 fun e W' => e = .returned (.bool true) ∧ J (k + 1) W' ∧ KeepR bv bw gc W1 W')
    (W : World) (hBW : B ≤ W.heap.size) (hBh : Blk W bh #[.int .i64 (y : Int)] 3) (hBv : Blk W bv #[.slice (some ⟨gc, 0, none⟩) m m] 36) (hBw : Blk W bw #[.int .i64 (x : Int)] 3) (hG : Row W gc m V) (h0 : J 0 W) :
    CallsIn Fence.wide n Try.prog 40 #[.func (.yield l) #[] #[], .pointer (some ⟨bh, 0, none⟩), .pointer (some ⟨bv, 0, none⟩), .pointer (some ⟨bw, 0, none⟩)] W fun e W' => (∃ v, e = .returned v) ∧ J y W' := by
  have hc0 : W.cell? ⟨bh, 0, none⟩ = some (.int .i64 (y : Int)) := by rw [hBh.cell]; rfl
  have hmm : m ≤ 1048576 := by rw [← hm]; exact mul_most hx' hy'
  obtain ⟨cs, hGb, hGs, hGc⟩ := hG
  have HX : Hid (Blk W bv #[.slice (some ⟨gc, 0, none⟩) m m] 36 ∧ Blk W bw #[.int .i64 (x : Int)] 3 ∧ Blk W gc cs 3) := ⟨hBv, hBw, hGb⟩
  have HFr : Hid (∀ wr k s, B ≤ wr.heap.size → Blk wr gc cs 3 → k < y → k * x = s → Calls Try.prog 39 #[.slice (some ⟨gc, s, none⟩) x (m - s)] wr fun e w' => ∃ r, e = .returned (.slice (some ⟨r, 0, none⟩) x x) ∧ RowTold V x B k r w' ∧ Fr (fun _ => False) wr w') := by
    rintro wr k s hB hb hk rfl
    have hfl := row_end hm hk
    have hg : Row wr gc m V := ⟨cs, hb, hGs, hGc⟩
    refine (pfresh_any wr _ x (m - k * x) (fun i => V (k * x + i)) gc ⟨by omega, by unfold maxLen; omega, fun _ => ⟨k * x, rfl, fun j hj => hg.cell (by omega)⟩⟩ (by omega)).mono ?_
    rintro e w' ⟨r, rfl, h1, h2, h3⟩
    exact ⟨r, rfl, ⟨h1, by omega⟩, h3⟩
  have HFl : Hid (∀ k, k < y → k * x + x ≤ m) := fun k hk => row_end hm hk
  have HY := hid hY
  clear hY hBh hBv hBw hGb hGs hGc hm
  refine callsIn_of_wp Try.func40 rfl trivial ?_ rfl
  simp only [Try.ntmps40, List.size_toArray, List.length_cons, List.length_nil, Nat.reduceAdd, Nat.reduceSub, Array.replicate_succ, Array.replicate_zero, List.push_toArray, List.append_toArray, List.nil_append, List.cons_append]
  gi_wp2
  refine wideIn_scope ?_
  refine wpIn_seq (wpIn_label ?_)
  dsimp only [Exit.then]
  gi_wp2
  gi_loopw [7] (fun i wr => ∃ k : Nat, k ≤ y ∧ i = .int .i64 (k : Int) ∧ J k wr ∧ B ≤ wr.heap.size ∧ Blk wr bv #[.slice (some ⟨gc, 0, none⟩) m m] 36 ∧ Blk wr bw #[.int .i64 (x : Int)] 3 ∧ Blk wr gc cs 3) (fun i _ => y - (intOf i).toNat)
  case atStart => exact ⟨0, Nat.zero_le _, rfl, h0, hBW, HX.out.1, HX.out.2.1, HX.out.2.2⟩
  case round =>
    obtain ⟨k, hk, rfl, hJ, hB, q1, q2, q3⟩ := hrel
    have HJ := hid hJ
    have HQ := hid (And.intro q1 (And.intro q2 q3))
    clear hJ
    by_cases hlt : k < y
    · have hki : (k : Int) < (y : Int) := by omega
      have hfl := HFl.out k hlt
      obtain ⟨s, hs⟩ : ∃ s : Nat, k * x = s := ⟨_, rfl⟩
      have HC := hid (HFr.out wr k s hB q3 hlt hs)
      rw [hs] at hfl
      have hI1 : (k : Int) * (x : Int) = (s : Int) := by rw [← hs, Int.natCast_mul]
      have hI2 : ((k : Int) + 1) * (x : Int) = ((s + x : Nat) : Int) := by rw [Int.add_mul, Int.one_mul, hI1, Int.natCast_add]
      have e1 : wr.cell? ⟨bv, 0, none⟩ = some (.slice (some ⟨gc, 0, none⟩) m m) := by rw [q1.cell]; rfl
      have e2 : wr.cell? ⟨bw, 0, none⟩ = some (.int .i64 (x : Int)) := by rw [q2.cell]; rfl
      have hsx : s + x - s = x := by omega
      have hne : ¬ m = s := by omega
      clear hs q1 q2 q3
      gi_wp2_with fail
      refine ⟨trivial, ?_⟩
      refine (callsIn_wide.2 HC.out).mono ?_
      rintro e w2 ⟨r, rfl, hV, f2⟩
      have hB2 := f2.size
      have R1 := HQ.out.1.fr f2 (fun h => h)
      have R2 := HQ.out.2.1.fr f2 (fun h => h)
      have R3 := HQ.out.2.2.fr f2 (fun h => h)
      obtain ⟨fn, tmps, assign, body, hy, hR⟩ := HY.out k r w2 hlt (hA _ _ _ none HJ.out (grown_of_fr f2) (fun r e => by cases e)) hV
      have HRR := hid (And.intro R1 (And.intro R2 R3))
      clear R1 R2 R3 f2 hV
      gi_wp2
      refine hR.mono ?_
      rintro e W3 ⟨rfl, hJ3, hk3⟩
      have HE := hid (And.intro hJ3 hk3)
      clear hJ3 hk3
      gi_wp2
      go_roundw
      case rel => exact ⟨k + 1, by omega, by go_num, HE.out.1, Nat.le_trans (Nat.le_trans hB hB2) HE.out.2.1, HRR.out.1.of_block HE.out.2.2.1, HRR.out.2.1.of_block HE.out.2.2.2.1, HRR.out.2.2.of_block HE.out.2.2.2.2⟩
      case measure => simp [intOf]; omega
    · have hki : ¬ (k : Int) < (y : Int) := by omega
      obtain rfl : k = y := by omega
      gi_wp2
      go_end0
      exact ⟨⟨_, rfl⟩, HJ.out⟩
end Go.Proofs.Ytgmainbgliejhaa
