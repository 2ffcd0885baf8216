/-
  Package split: Points, and what it tells to a function that is handed in.
-/
import Derived.Test.YtfnacnelmkemeaaSplitP
namespace Go.Proofs.Ytfnacnelmkemeaa
open Go.RowKit

/-- Points' own part: none, where its sides are beyond. -/
def pointsOk (W H : Int) : Bool := amongZ W 1024 && amongZ H 1024
theorem pointsOk_nat {W H : Int} (h : pointsOk W H = true) : ∃ x y : Nat, W = (x : Int) ∧ H = (y : Int) ∧ 1 ≤ x ∧ x ≤ 1024 ∧ 1 ≤ y ∧ y ≤ 1024 := by
  simp only [pointsOk, Bool.and_eq_true, amongZ_iff] at h
  exact ⟨W.toNat, H.toNat, by omega, by omega, by omega, by omega, by omega, by omega⟩
/-- What Points gives. -/
def PointsMade (w w' : World) (e : Ending) (cs : Array Value) : Prop :=
  ∃ br, e = .returned (.func (.func 20) #[] #[.pointer (some ⟨br, 0, none⟩)]) ∧ Blk w' br cs 28 ∧ w.heap.size ≤ br ∧ Fr (fun _ => False) w w'
set_option maxHeartbeats 1000000 in
theorem spoints_any (X Y W H : Int) (w : World) :
    Calls Try.prog 13 #[.agg #[.int .i64 X, .int .i64 Y, .int .i64 W, .int .i64 H]] w fun e w' => PointsMade w w' e (if pointsOk W H then #[.int .i64 X, .int .i64 Y, .int .i64 W, .int .i64 H] else #[.int .i64 0, .int .i64 0, .int .i64 0, .int .i64 0]) := by
  obtain ⟨W0, hW⟩ : ∃ W0, W0 = w.alloc (.cells #[.int .i64 X, .int .i64 Y, .int .i64 W, .int .i64 H] 28) := ⟨_, rfl⟩
  have F0 : Fr (fun _ => False) w W0 := by rw [hW]; exact (Fr.refl _ w).alloc _
  have O0 : Blk W0 w.heap.size #[.int .i64 X, .int .i64 Y, .int .i64 W, .int .i64 H] 28 := by rw [hW]; exact Blk.new _ _ _
  have c0 : W0.cell? ⟨w.heap.size, 0, none⟩ = some (.int .i64 X) := by rw [O0.cell]; rfl
  have c1 : W0.cell? ⟨w.heap.size, 1, none⟩ = some (.int .i64 Y) := by rw [O0.cell]; rfl
  have c2 : W0.cell? ⟨w.heap.size, 2, none⟩ = some (.int .i64 W) := by rw [O0.cell]; rfl
  have c3 : W0.cell? ⟨w.heap.size, 3, none⟩ = some (.int .i64 H) := by rw [O0.cell]; rfl
  have zf := O0.thaw
  have HW := hid hW
  have HO := hid O0
  have HF := hid F0
  clear hW O0 F0
  cases h1 : amongZ W 1024 with
  | false =>
    rw [if_neg (by rw [pointsOk, h1]; simp)]
    have HR : Hid (Blk (stored4 W0 w.heap.size (.int .i64 0) (.int .i64 0) (.int .i64 0) (.int .i64 0)) w.heap.size #[.int .i64 0, .int .i64 0, .int .i64 0, .int .i64 0] 28) := HO.out.put4 _ _ _ _
    go_enter Try.func13, Try.ntmps13
    go_wp2_with fail
    rw [← HW.out]
    go_wp2_with fail
    refine (samong_any _ _ _).mono ?_
    rintro e w1 ⟨rfl, hw1⟩
    rw [hw1, h1]
    clear hw1
    go_wp2
    go_ret
    exact ⟨_, rfl, HR.out, Nat.le_refl _, HF.out.put4New (Nat.le_refl _) _ _ _ _⟩
  | true =>
  cases h2 : amongZ H 1024 with
  | false =>
    rw [if_neg (by rw [pointsOk, h1, h2]; decide)]
    have HR : Hid (Blk (stored4 W0 w.heap.size (.int .i64 0) (.int .i64 0) (.int .i64 0) (.int .i64 0)) w.heap.size #[.int .i64 0, .int .i64 0, .int .i64 0, .int .i64 0] 28) := HO.out.put4 _ _ _ _
    go_enter Try.func13, Try.ntmps13
    go_wp2_with fail
    rw [← HW.out]
    go_wp2_with fail
    refine (samong_any _ _ _).mono ?_
    rintro e w1 ⟨rfl, hw1⟩
    rw [hw1, h1]
    clear hw1
    go_wp2_with fail
    refine (samong_any _ _ _).mono ?_
    rintro e w1 ⟨rfl, hw1⟩
    rw [hw1, h2]
    clear hw1
    go_wp2
    go_ret
    exact ⟨_, rfl, HR.out, Nat.le_refl _, HF.out.put4New (Nat.le_refl _) _ _ _ _⟩
  | true =>
    rw [if_pos (by rw [pointsOk, h1, h2]; rfl)]
    go_enter Try.func13, Try.ntmps13
    go_wp2_with fail
    rw [← HW.out]
    go_wp2_with fail
    refine (samong_any _ _ _).mono ?_
    rintro e w1 ⟨rfl, hw1⟩
    rw [hw1, h1]
    clear hw1
    go_wp2_with fail
    refine (samong_any _ _ _).mono ?_
    rintro e w1 ⟨rfl, hw1⟩
    rw [hw1, h2]
    clear hw1
    go_wp2
    go_ret
    exact ⟨_, rfl, HO.out, Nat.le_refl _, HF.out⟩

set_option maxRecDepth 100000 in
set_option maxHeartbeats 2000000 in
/-- Points, told to a function. -/
theorem spoints1_call (fn : Nat) (caps : Array Value) (br x y : Nat) (X Y : Int) (J Jx : Nat → World → Prop) (w : World) (hx' : x ≤ 1024) (hy' : y ≤ 1024)
    (HFN : ∀ (z : Array Value) (w' : World), Sem.run Try.prog (callFunc fn z) w' = .ok (.enter fn z) w')
    (hJ : ∀ N wr, J N wr → Blk wr br #[.int .i64 X, .int .i64 Y, .int .i64 (x : Int), .int .i64 (y : Int)] 28)
    (HT : ∀ N wr, N < x * y → J N wr → Calls Try.prog fn (#[.int .i64 (wrap64 (X + ((N % x : Nat) : Int))), .int .i64 (wrap64 (Y + ((N / x : Nat) : Int)))] ++ caps) wr fun e w' => (e = .returned (.bool true) ∧ J (N + 1) w') ∨ (e = .returned (.bool false) ∧ Jx (N + 1) w'))
    (h0 : J 0 w) :
    Calls Try.prog 20 #[.func (.func fn) #[] caps, .pointer (some ⟨br, 0, none⟩)] w fun e w' =>
      e = .returned (.tuple #[]) ∧ (J (x * y) w' ∨ ∃ N, N < x * y ∧ Jx (N + 1) w') := by
  have hc3 : w.cell? ⟨br, 3, none⟩ = some (.int .i64 (y : Int)) := by rw [(hJ 0 w h0).cell]; rfl
  have HH := hid (And.intro hJ HT)
  have HFN' := hid HFN
  clear hJ HT HFN
  go_enter Try.func20, Try.ntmps20
  go_wp2
  go_step3
  go_wp2
  go_step3
  go_wp2
  go_loopw [7] (fun i wr => ∃ k : Nat, k ≤ y ∧ i = .int .i64 (k : Int) ∧ J (k * x) wr) (fun i _ => y - (intOf i).toNat)
  case atStart => exact ⟨0, Nat.zero_le _, rfl, by rw [Nat.zero_mul]; exact h0⟩
  case round =>
    obtain ⟨k, hk, rfl, hJ⟩ := hrel
    have HJ := hid hJ
    by_cases hlt : k < y
    · have hki : (k : Int) < (y : Int) := by omega
      have e1 : wr.cell? ⟨br, 2, none⟩ = some (.int .i64 (x : Int)) := by rw [(HH.out.1 _ _ hJ).cell]; rfl
      clear hJ
      obtain ⟨w0, hw0⟩ : ∃ w0, w0 = wr := ⟨_, rfl⟩
      go_wp2
      go_loopw [12] (fun i wr => ∃ q : Nat, q ≤ x ∧ i = .int .i64 (q : Int) ∧ J (k * x + q) wr) (fun i _ => x - (intOf i).toNat)
      case atStart => exact ⟨0, Nat.zero_le _, rfl, HJ.out⟩
      case round =>
        obtain ⟨q, hq, rfl, hJ2⟩ := hrel
        have HJ2 := hid hJ2
        by_cases hql : q < x
        · have hqi : (q : Int) < (x : Int) := by omega
          have hf : k * x + q < x * y := by
            have : k * x + x ≤ y * x := by rw [← Nat.succ_mul]; exact Nat.mul_le_mul_right _ (by omega)
            rw [Nat.mul_comm y x] at this; omega
          have HCl := hid (HH.out.2 (k * x + q) wr hf hJ2)
          rw [show (k * x + q) % x = q by rw [Nat.mul_comm, Nat.mul_add_mod, Nat.mod_eq_of_lt hql], show (k * x + q) / x = k by rw [Nat.mul_comm, Nat.mul_add_div (by omega), Nat.div_eq_of_lt hql, Nat.add_zero]] at HCl
          have HF := hid hf
          have e2 : wr.cell? ⟨br, 0, none⟩ = some (.int .i64 X) := by rw [(HH.out.1 _ _ hJ2).cell]; rfl
          have e3 : wr.cell? ⟨br, 1, none⟩ = some (.int .i64 Y) := by rw [(HH.out.1 _ _ hJ2).cell]; rfl
          clear hf hJ2
          go_wp2
          rw [HFN'.out]
          refine HCl.out.mono ?_
          rintro e w3 (⟨rfl, h3⟩ | ⟨rfl, h3⟩)
          · have H3 := hid h3
            clear h3
            go_wp2
            go_roundw
            case rel => exact ⟨q + 1, by omega, by go_num, H3.out⟩
            case measure => simp [intOf]; omega
          · have H3 := hid h3
            clear h3
            go_wp2
            rw [Exit.noGoto_normal]
            go_end0
            exact ⟨rfl, .inr ⟨_, HF.out, H3.out⟩⟩
        · have hqi : ¬ (q : Int) < (x : Int) := by omega
          obtain rfl : q = x := by omega
          clear hJ2
          go_wp2
          go_roundw
          case rel => exact ⟨k + 1, by omega, by go_num, by rw [Nat.succ_mul]; exact HJ2.out⟩
          case measure => simp [intOf]; omega
    · have hki : ¬ (k : Int) < (y : Int) := by omega
      obtain rfl : k = y := by omega
      clear hJ
      go_wp2
      go_end0
      exact ⟨rfl, .inl (by rw [Nat.mul_comm]; exact HJ.out)⟩
end Go.Proofs.Ytfnacnelmkemeaa
