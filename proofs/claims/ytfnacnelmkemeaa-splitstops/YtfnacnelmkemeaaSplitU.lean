/-
  Package split: All, and what it tells to a function that is handed in.
-/
import Derived.BigQuiet
import Derived.Test.YtfnacnelmkemeaaSplitR
namespace Go.Proofs.Ytfnacnelmkemeaa
open Go.RowKit

set_option maxRecDepth 100000 in
set_option maxHeartbeats 2000000 in
/-- All, told to a function. -/
theorem sall1_call (fn : Nat) (caps : Array Value) (bn bm bw bh c d x y m : Nat) (X Y : Int) (J Jx : Nat → World → Prop) (w : World) (hx' : x ≤ 1024) (hy' : y ≤ 1024) (hd : d ≤ 64) (hc : c ≤ 64) (hm : c * d = m) (hX : 0 < c → X = (x : Int) ∧ Y = (y : Int))
    (HFN : ∀ (z : Array Value) (w' : World), Sem.run Try.prog (callFunc fn z) w' = .ok (.enter fn z) w')
    (hJ : ∀ N wr, J N wr → Boxes4 wr bn bm bw bh (c : Int) (d : Int) X Y) (hS : ∀ N w1 w2, J N w1 → Fr (fun _ => False) w1 w2 → J N w2)
    (HT : ∀ N wr, N < m → J N wr → Calls Try.prog fn (#[.int .i64 (N : Int), rectV (partK x y d c N)] ++ caps) wr fun e w' => (e = .returned (.bool true) ∧ J (N + 1) w') ∨ (e = .returned (.bool false) ∧ Jx (N + 1) w'))
    (h0 : J 0 w) :
    Calls Try.prog 21 #[.func (.func fn) #[] caps, .pointer (some ⟨bn, 0, none⟩), .pointer (some ⟨bm, 0, none⟩), .pointer (some ⟨bw, 0, none⟩), .pointer (some ⟨bh, 0, none⟩)] w fun e w' =>
      e = .returned (.tuple #[]) ∧ (J m w' ∨ ∃ N, N < m ∧ Jx (N + 1) w') := by
  have hc0 : w.cell? ⟨bn, 0, none⟩ = some (.int .i64 (c : Int)) := by rw [(hJ _ _ h0).b0.cell]; rfl
  have HX := hid hX
  have HM := hid hm
  have HH := hid (And.intro hJ (And.intro hS HT))
  have HFN' := hid HFN
  clear hJ hS HT HFN hX hm
  go_enter Try.func21, Try.ntmps21
  go_wp2
  go_step3
  go_wp2
  go_step3
  go_wp2
  go_loopw [9] (fun i wr => ∃ j : Nat, j ≤ c ∧ i = .int .i64 (j : Int) ∧ J (j * d) wr) (fun i _ => c - (intOf i).toNat)
  case atStart => exact ⟨0, Nat.zero_le _, rfl, by rw [Nat.zero_mul]; exact h0⟩
  case round =>
    obtain ⟨j, hj, rfl, hJ⟩ := hrel
    have HJ := hid hJ
    by_cases hlt : j < c
    · have hki : (j : Int) < (c : Int) := by omega
      obtain ⟨rfl, rfl⟩ := HX.out (by omega)
      have e1 : wr.cell? ⟨bm, 0, none⟩ = some (.int .i64 (d : Int)) := by rw [(HH.out.1 _ _ hJ).b1.cell]; rfl
      clear hJ
      obtain ⟨w0, hw0⟩ : ∃ w0, w0 = wr := ⟨_, rfl⟩
      go_wp2
      go_loopw [13] (fun i wr => ∃ q : Nat, q ≤ d ∧ i = .int .i64 (q : Int) ∧ J (j * d + q) wr) (fun i _ => d - (intOf i).toNat)
      case atStart => exact ⟨0, Nat.zero_le _, rfl, HJ.out⟩
      case round =>
        obtain ⟨i, hi, rfl, hJ2⟩ := hrel
        have HJ2 := hid hJ2
        by_cases hil : i < d
        · have hii : (i : Int) < (d : Int) := by omega
          obtain ⟨s, hs⟩ : ∃ s, j * d = s := ⟨_, rfl⟩
          obtain ⟨ix, hix⟩ : ∃ ix, s + i = ix := ⟨_, rfl⟩
          have hsI : (j : Int) * (d : Int) = (s : Int) := by rw [← hs, Int.natCast_mul]
          have hixI : (s : Int) + (i : Int) = (ix : Int) := by omega
          have hrow : j * d + d ≤ c * d := by rw [← Nat.succ_mul]; exact Nat.mul_le_mul_right _ (by omega)
          have hcd : c * d ≤ 4096 := Nat.mul_le_mul hc hd
          have hml := HM.out
          have hxm : ix < m := by omega
          have hsl : s ≤ 4096 := by omega
          have hixl : ix ≤ 4096 := by omega
          have HIX : Hid (j * d + (i + 1) = ix + 1) := (show j * d + (i + 1) = ix + 1 by omega)
          have HXM := hid hxm
          obtain ⟨R, hR⟩ : ∃ R, rectP x y d c i j = R := ⟨_, rfl⟩
          have hK : partK x y d c ix = R := by rw [← hix, ← hs, partK_flat hil]; exact hR
          have HLi := hid (fun w => slies_go x y d c i j w hx' hy' hd hc hil hlt R hR)
          rw [hs, hix] at HJ2 hJ2
          have HFC : Hid (∀ w2, Fr (fun _ => False) wr.drew w2 → Calls Try.prog fn (#[.int .i64 (ix : Int), .agg #[.int .i64 (R.x : Int), .int .i64 (R.y : Int), .int .i64 (R.w : Int), .int .i64 (R.h : Int)]] ++ caps) w2 fun e w' => (e = .returned (.bool true) ∧ J (ix + 1) w') ∨ (e = .returned (.bool false) ∧ Jx (ix + 1) w')) := by
            intro w2 f2
            have := HH.out.2.2 ix w2 hxm (HH.out.2.1 _ _ _ hJ2 ((Fr.refl _ wr).drew.trans' f2))
            rw [hK] at this
            exact this
          have HB3 : Hid (∀ wq, Fr (fun _ => False) wr.drew wq → wq.cell? ⟨bn, 0, none⟩ = some (.int .i64 (c : Int)) ∧ wq.cell? ⟨bm, 0, none⟩ = some (.int .i64 (d : Int)) ∧ wq.cell? ⟨bw, 0, none⟩ = some (.int .i64 (x : Int)) ∧ wq.cell? ⟨bh, 0, none⟩ = some (.int .i64 (y : Int))) := fun wq f => by
            have h := (HH.out.1 _ _ hJ2).quiet ((Fr.refl _ wr).drew.trans' f)
            exact ⟨by rw [h.b0.cell]; rfl, by rw [h.b1.cell]; rfl, by rw [h.b2.cell]; rfl, by rw [h.b3.cell]; rfl⟩
          clear hJ2 hR hK hs hix hrow hcd hml hxm e1
          go_wp2
          refine weaveST 13 [.eq (Value.func (.func fn) #[] caps), .eq (Value.int .i64 (j : Int)), .eq (Value.int .i64 (d : Int)), .eq (Value.int .i64 (s : Int)), .eq (Value.int .i64 (i : Int)), .eq (Value.int .i64 (ix : Int)), .eq (Value.int .i64 (x : Int)), .eq (Value.int .i64 (y : Int)), .eq (Value.int .i64 (d : Int)), .eq (Value.int .i64 (c : Int)), .eq (Value.int .i64 (i : Int)), .eq (Value.int .i64 (j : Int)), .eq (Value.agg #[.int .i64 (R.x : Int), .int .i64 (R.y : Int), .int .i64 (R.w : Int), .int .i64 (R.h : Int)])] (by kernel_rfl) (by kernel_rfl) ?obls ?tail
          case obls =>
            simp only [List.take_succ_cons, List.take_zero]
            refine ⟨?_, ?_, ?_, ?_, ?_, ?_, ?_, ?_, ?_, ?_, ?_, ?_, ?_, trivial⟩
            · intro vals wq f h
              simp only [fillA, fillT, List.setIfInBounds_toArray, List.set_cons_succ, List.set_cons_zero, Option.getD_some, Nat.zero_add, Nat.reduceAdd]
              obtain ⟨e1, e2, e3, e4⟩ := HB3.out wq f
              clear h
              go_wp2
              exact ⟨rfl, rfl, _, rfl, Fr.refl _ _, rfl⟩
            · intro vals wq f h
              simp only [fillA, fillT, List.setIfInBounds_toArray, List.set_cons_succ, List.set_cons_zero, Option.getD_some, Nat.zero_add, Nat.reduceAdd]
              obtain ⟨e1, e2, e3, e4⟩ := HB3.out wq f
              clear h
              go_wp2
              exact ⟨rfl, rfl, _, rfl, Fr.refl _ _, rfl⟩
            · intro vals wq f h
              simp only [fillA, fillT, List.setIfInBounds_toArray, List.set_cons_succ, List.set_cons_zero, Option.getD_some, Nat.zero_add, Nat.reduceAdd]
              obtain ⟨e1, e2, e3, e4⟩ := HB3.out wq f
              clear h
              go_wp2
              exact ⟨rfl, rfl, _, rfl, Fr.refl _ _, rfl⟩
            · intro vals wq f h
              simp only [fillA, fillT, List.setIfInBounds_toArray, List.set_cons_succ, List.set_cons_zero, Option.getD_some, Nat.zero_add, Nat.reduceAdd]
              have h1 : vals 1 = Value.int .i64 (j : Int) := h 1 (by kernel_rfl)
              rw [h1]
              have h2 : vals 2 = Value.int .i64 (d : Int) := h 2 (by kernel_rfl)
              rw [h2]
              obtain ⟨e1, e2, e3, e4⟩ := HB3.out wq f
              clear h
              go_wp2
              exact ⟨rfl, rfl, _, rfl, Fr.refl _ _, rfl⟩
            · intro vals wq f h
              simp only [fillA, fillT, List.setIfInBounds_toArray, List.set_cons_succ, List.set_cons_zero, Option.getD_some, Nat.zero_add, Nat.reduceAdd]
              obtain ⟨e1, e2, e3, e4⟩ := HB3.out wq f
              clear h
              go_wp2
              exact ⟨rfl, rfl, _, rfl, Fr.refl _ _, rfl⟩
            · intro vals wq f h
              simp only [fillA, fillT, List.setIfInBounds_toArray, List.set_cons_succ, List.set_cons_zero, Option.getD_some, Nat.zero_add, Nat.reduceAdd]
              have h3 : vals 3 = Value.int .i64 (s : Int) := h 3 (by kernel_rfl)
              rw [h3]
              have h4 : vals 4 = Value.int .i64 (i : Int) := h 4 (by kernel_rfl)
              rw [h4]
              obtain ⟨e1, e2, e3, e4⟩ := HB3.out wq f
              clear h
              go_wp2
              exact ⟨rfl, rfl, _, rfl, Fr.refl _ _, rfl⟩
            · intro vals wq f h
              simp only [fillA, fillT, List.setIfInBounds_toArray, List.set_cons_succ, List.set_cons_zero, Option.getD_some, Nat.zero_add, Nat.reduceAdd]
              obtain ⟨e1, e2, e3, e4⟩ := HB3.out wq f
              clear h
              go_wp2
              exact ⟨rfl, rfl, _, rfl, Fr.refl _ _, rfl⟩
            · intro vals wq f h
              simp only [fillA, fillT, List.setIfInBounds_toArray, List.set_cons_succ, List.set_cons_zero, Option.getD_some, Nat.zero_add, Nat.reduceAdd]
              obtain ⟨e1, e2, e3, e4⟩ := HB3.out wq f
              clear h
              go_wp2
              exact ⟨rfl, rfl, _, rfl, Fr.refl _ _, rfl⟩
            · intro vals wq f h
              simp only [fillA, fillT, List.setIfInBounds_toArray, List.set_cons_succ, List.set_cons_zero, Option.getD_some, Nat.zero_add, Nat.reduceAdd]
              obtain ⟨e1, e2, e3, e4⟩ := HB3.out wq f
              clear h
              go_wp2
              exact ⟨rfl, rfl, _, rfl, Fr.refl _ _, rfl⟩
            · intro vals wq f h
              simp only [fillA, fillT, List.setIfInBounds_toArray, List.set_cons_succ, List.set_cons_zero, Option.getD_some, Nat.zero_add, Nat.reduceAdd]
              obtain ⟨e1, e2, e3, e4⟩ := HB3.out wq f
              clear h
              go_wp2
              exact ⟨rfl, rfl, _, rfl, Fr.refl _ _, rfl⟩
            · intro vals wq f h
              simp only [fillA, fillT, List.setIfInBounds_toArray, List.set_cons_succ, List.set_cons_zero, Option.getD_some, Nat.zero_add, Nat.reduceAdd]
              obtain ⟨e1, e2, e3, e4⟩ := HB3.out wq f
              clear h
              go_wp2
              exact ⟨rfl, rfl, _, rfl, Fr.refl _ _, rfl⟩
            · intro vals wq f h
              simp only [fillA, fillT, List.setIfInBounds_toArray, List.set_cons_succ, List.set_cons_zero, Option.getD_some, Nat.zero_add, Nat.reduceAdd]
              obtain ⟨e1, e2, e3, e4⟩ := HB3.out wq f
              clear h
              go_wp2
              exact ⟨rfl, rfl, _, rfl, Fr.refl _ _, rfl⟩
            · intro vals wq f h
              simp only [fillA, fillT, List.setIfInBounds_toArray, List.set_cons_succ, List.set_cons_zero, Option.getD_some, Nat.zero_add, Nat.reduceAdd]
              have h6 : vals 6 = Value.int .i64 (x : Int) := h 6 (by kernel_rfl)
              rw [h6]
              have h7 : vals 7 = Value.int .i64 (y : Int) := h 7 (by kernel_rfl)
              rw [h7]
              have h8 : vals 8 = Value.int .i64 (d : Int) := h 8 (by kernel_rfl)
              rw [h8]
              have h9 : vals 9 = Value.int .i64 (c : Int) := h 9 (by kernel_rfl)
              rw [h9]
              have h10 : vals 10 = Value.int .i64 (i : Int) := h 10 (by kernel_rfl)
              rw [h10]
              have h11 : vals 11 = Value.int .i64 (j : Int) := h 11 (by kernel_rfl)
              rw [h11]
              obtain ⟨e1, e2, e3, e4⟩ := HB3.out wq f
              clear h
              go_wp2_with fail
              refine (HLi.out wq).mono ?_
              rintro e w6 ⟨rfl, f6⟩
              go_wp2
              exact ⟨rfl, rfl, _, rfl, f6, rfl⟩
          case tail =>
            intro vals wq f h
            simp only [List.take_succ_cons, List.take_zero, fillA, fillT, List.setIfInBounds_toArray, List.set_cons_succ, List.set_cons_zero, List.drop_succ_cons, List.drop_zero, Nat.zero_add, Nat.reduceAdd]
            have h0 : vals 0 = Value.func (.func fn) #[] caps := h 0 (by omega)
            rw [h0]
            have h5 : vals 5 = Value.int .i64 (ix : Int) := h 5 (by omega)
            rw [h5]
            have h12 : vals 12 = Value.agg #[.int .i64 (R.x : Int), .int .i64 (R.y : Int), .int .i64 (R.w : Int), .int .i64 (R.h : Int)] := h 12 (by omega)
            rw [h12]
            have HCl := hid (HFC.out wq f)
            clear f h
            gi_wp2
            rw [HFN'.out]
            refine ⟨trivial, ?_⟩
            rw [Oper.uponIn_enter]
            refine ⟨(fun h => by cases h), ?_⟩
            refine (callsIn_wide.2 HCl.out).mono ?_
            rintro e W3 (⟨rfl, h3⟩ | ⟨rfl, h3⟩)
            · have H3 := hid h3
              clear h3
              gi_wp2
              go_wp2
              go_roundw
              case rel => exact ⟨i + 1, by omega, by go_num, by rw [HIX.out]; exact H3.out⟩
              case measure => simp [intOf]; omega
            · have H3 := hid h3
              clear h3
              gi_wp2
              go_wp2
              rw [Exit.noGoto_normal]
              go_end0
              exact ⟨rfl, .inr ⟨_, HXM.out, H3.out⟩⟩
        · have hii : ¬ (i : Int) < (d : Int) := by omega
          obtain rfl : i = d := by omega
          clear hJ2
          go_wp2
          go_roundw
          case rel => exact ⟨j + 1, by omega, by go_num, by rw [Nat.succ_mul]; exact HJ2.out⟩
          case measure => simp [intOf]; omega
    · have hki : ¬ (j : Int) < (c : Int) := by omega
      obtain rfl : j = c := by omega
      clear hJ
      go_wp2
      go_end0
      exact ⟨rfl, .inl (by rw [← HM.out]; exact HJ.out)⟩
end Go.Proofs.Ytfnacnelmkemeaa
