/-
  Law package 2: which numbers any bytes are (GolombGets): the walk.
-/
import Derived.Test.YtjjcekmmdngekaaFirst2
import Derived.Test.YtjjcekmmdngekaaRef2
import Derived.Test.YtjjcekmmdngekaaArgs
namespace Go.Proofs.Ytjjcekmmdngekaa
open Go.RowKit

theorem Rd.drewN' {w : World} {p q : Nat} {zs : List Nat} {pos ov : Nat} (h : Rd w p q zs pos ov) (n : Nat) : Rd (w.drewN n) p q zs pos ov := ⟨h.blk.drewN n, h.row.drewN n, h.small, h.apart⟩
theorem RRd.drewN' {w : World} {p : Nat} {L : List Bool} {pos ov : Nat} (h : RRd w p L pos ov) (n : Nat) : RRd (w.drewN n) p L pos ov := Blk.drewN h n
theorem allFun (zs : List Nat) : (fun i => (allBits zs).getD i false) = bitAt zs := funext (allBits_bit zs)

theorem Reads.of_in {w : World} {a : Option Addr} {len cap : Nat} {zs : List Nat} (hl : zs.length = len) (h : CellsIn w a len cap (fun i => .int .u8 ((zs.getD i 0 : Nat) : Int))) : Reads w (.slice a len cap) (rowOf zs) := by
  refine ⟨a, cap, by rw [rowOf_length, hl], fun hp => ?_⟩
  rw [rowOf_length, hl] at hp
  obtain ⟨b, off, rfl, hc⟩ := h.at hp
  refine ⟨_, rfl, fun j u hu => ?_⟩
  have hj : j < zs.length := by
    have := (List.getElem?_eq_some_iff.1 hu).1
    rwa [rowOf_length] at this
  rw [addr_add, hc j (by omega), ← hu, rowOf_get zs j hj]

theorem CellsIn.fr {w w' : World} {a : Option Addr} {len cap : Nat} {V : Nat → Value} (h : CellsIn w a len cap V) (f : Fr (fun _ => False) w w') : CellsIn w' a len cap V := by
  refine ⟨h.1, h.2.1, ?_⟩
  rcases h.2.2 with h | ⟨b, off, spot, rfl, hs, hc⟩
  · exact .inl h
  · exact .inr ⟨b, off, spot, rfl, hs, fun j hj => (f.cell (p := ⟨b, off + j, none⟩) (cell_lt (hc j hj)) (fun h => h)).trans (hc j hj)⟩

set_option maxHeartbeats 2000000 in
theorem gets_walk (a : Option Addr) (len cap : Nat) (zs : List Nat) (a2 : Option Addr) (len2 cap2 : Nat) (B : Nat → Bool) (w : World) (hzl : zs.length = len) (hsm : ∀ z ∈ zs, z < 256) (hB : CellsIn w a len cap (fun i => .int .u8 ((zs.getD i 0 : Nat) : Int))) (h0 : CellsIn w a2 len2 cap2 (fun i => .bool (B i))) :
    Calls Try.prog 4 #[.slice a len cap, .slice a2 len2 cap2] w fun e w' => e = .returned (.bool true) ∧ Below w.heap.size w w' := by
  have hlen2 : (len2 : Int) ≤ 9223372036854775807 := by have := h0.1; have := h0.2.1; unfold maxLen at *; omega
  have hlen : (len : Int) ≤ 9223372036854775807 := by have := hB.1; have := hB.2.1; unfold maxLen at *; omega
  have H0 : Hid (CellsIn w a2 len2 cap2 (fun i => .bool (B i))) := h0
  have HB : Hid (CellsIn w a len cap (fun i => .int .u8 ((zs.getD i 0 : Nat) : Int))) := hB
  have HZ : Hid (zs.length = len) := hzl
  have HS : Hid (∀ z ∈ zs, z < 256) := hsm
  clear h0 hB hzl hsm
  by_cases h300 : 300 < len
  · have h300' : (300 : Int) < (len : Int) := by omega
    go_enter Try.func4, Try.ntmps4
    go_wp2_with fail
    refine (first_any _).mono ?_
    rintro e w1 ⟨rfl, F1⟩
    go_wp2
    go_ret
    exact ⟨rfl, F1.below (Nat.le_refl _) (fun _ _ h => h)⟩
  have h300' : ¬ (300 : Int) < (len : Int) := by omega
  go_enter Try.func4, Try.ntmps4
  go_wp2_with fail
  refine (first_any _).mono ?_
  rintro e w1 ⟨rfl, F1⟩
  go_wp2_with fail
  refine (new_any _ _ zs (Reads.of_in HZ.out (HB.out.fr F1)) (by have := HZ.out; omega) HS.out).mono ?_
  rintro e w3 ⟨p3, q3, rfl, r3, hp3, hq3, f3⟩
  have F3 : Fr (fun _ => False) w w3 := F1.trans' f3
  have hAll : Calls Try.prog 19 #[.slice a len cap] w3 fun e w' => e = .returned (.string (strB (allBits zs))) ∧ Fr (fun _ => False) w3 w' := by
    rw [← HZ.out]
    refine refAll_any w3 a cap zs HS.out (by have := HZ.out; omega) (fun hp => ?_)
    obtain ⟨b, off, e, hc⟩ := ((HB.out.fr F3).at (show 0 < len by rw [← HZ.out]; exact hp))
    exact ⟨b, off, e, fun j hj => hc j (by rw [← HZ.out]; exact hj)⟩
  go_wp2_with fail
  refine hAll.mono ?_
  rintro e w4 ⟨rfl, f4⟩
  have F4 := F3.trans' f4
  have r4 := r3.fr f4 (fun h => h) (fun h => h)
  have hs1 := F1.size
  have hsz4 := f4.size
  have hp34 : p3 < w4.heap.size := r4.blk.lt
  have hq34 : q3 < w4.heap.size := r4.row.lt
  have hz3 : zs.length ≤ 300 := by have := HZ.out; omega
  clear hAll r3 f3 F3 f4
  go_wp2_with fail
  have X5 : RRd (w4.alloc (.cells #[.string (strB (allBits zs)), .int .i64 0, .int .i64 0] 42)) w4.heap.size (allBits zs) 0 0 := Blk.new w4 _ _
  have R5 := r4.fr ((Fr.refl (fun _ => False) w4).alloc (.cells #[.string (strB (allBits zs)), .int .i64 0, .int .i64 0] 42)) (fun h => h) (fun h => h)
  have F5 := F4.alloc (.cells #[.string (strB (allBits zs)), .int .i64 0, .int .i64 0] 42)
  clear r4 F4
  have HFn : Hid ((fun i => (allBits zs).getD i false) = bitAt zs) := allFun zs
  have HAL : Hid ((allBits zs).length = 8 * zs.length) := allBits_length zs
  go_loopw [28] (fun i wr => ∃ k pos ov : Nat, k ≤ len2 ∧ k ≤ 60 ∧ i = .int .i64 (k : Int) ∧ pos ≤ 64 * k ∧ ov ≤ 64 * k ∧ Rd wr p3 q3 zs pos ov ∧ RRd wr w4.heap.size (allBits zs) pos ov ∧ Fr (fun _ => False) w wr) (fun i _ => len2 - (intOf i).toNat)
  case atStart => exact ⟨0, 0, 0, Nat.zero_le _, Nat.zero_le _, rfl, Nat.le_refl _, Nat.le_refl _, R5, X5, F5⟩
  case round =>
    clear R5 X5 F5
    obtain ⟨k, pos, ov, hk, hk60, rfl, hpos, hov, r6, x6, F6⟩ := hrel
    by_cases hlt : k < len2
    · obtain ⟨b, off, rfl, hall⟩ := H0.out.at hlt
      have c0 := hall k hlt
      have c0' := (F6.cell (p := ⟨b, off + k, none⟩) (cell_lt c0) (fun h => h)).trans c0
      have hki : (k : Int) < (len2 : Int) := by omega
      clear c0 hall
      generalize B k = s at c0'
      by_cases h60 : k < 60
      · have h60' : ¬ (60 : Int) ≤ (k : Int) := by omega
        cases s with
        | true =>
          go_wp2_with fail
          refine (sget_any _ p3 q3 _ _ _ r6 (by omega) (by omega) (by omega)).mono ?_
          rintro e w7 ⟨z, ok, rfl, n, hg, r7, f7⟩
          have x7 := x6.fr f7 (by omega)
          have F7 := F6.trans f7 (by intro i hi e; omega)
          have HG : Hid (sget (bitAt zs) pos = (z, ok, pos + n)) := hg
          clear hg f7 F6 r6 x6
          go_wp2_with fail
          refine (refSget_any _ w4.heap.size _ _ _ x7 (by have := HAL.out; omega) (by omega) (by omega)).mono ?_
          rintro e w8 ⟨z', ok', rfl, n', hg, x8, f8⟩
          rw [HFn.out, HG.out] at hg
          have hbd := sget_bound (bitAt zs) pos
          rw [HG.out] at hbd
          simp only [] at hbd
          simp only [Prod.mk.injEq] at hg
          obtain ⟨rfl, rfl, hn⟩ := hg
          obtain rfl : n' = n := by omega
          have hn64 : n' ≤ 64 := by omega
          have r8 := r7.fr f8 (by omega) (by omega)
          have F8 := F7.trans f8 (by intro i hi e; omega)
          rw [HAL.out] at x8
          have hpl := past_le pos n' (8 * zs.length)
          generalize past pos n' (8 * zs.length) = m at r8 x8 hpl
          have hc1 := Blk.cell x8 1
          have hc2 := Blk.cell x8 2
          simp at hc1 hc2
          have hxx : (z != z) = false := by simp
          have hoo : (ok != ok) = false := by simp
          clear f8 F7 r7 x7 hn HG hbd c0'
          go_wp2_with fail
          go_quiet (first | (go_at_call 22; exact Calls.quiet_of_same (rat_any _ _ _ _ _ _ (r8.drewN' _))) | (go_at_call 23; exact Calls.quiet_of_same (rover_any _ _ _ _ _ _ (r8.drewN' _))))
          go_wp2
          go_roundw
          case rel => exact ⟨k + 1, pos + n', ov + m, by omega, by omega, by go_num, by omega, by omega, r8.drewN' _, x8.drewN' _, F8.drewN _⟩
          case measure => simp [intOf]; omega
        | false =>
          go_wp2_with fail
          refine (gget_any _ p3 q3 _ _ _ r6 (by omega) (by omega) (by omega)).mono ?_
          rintro e w7 ⟨z, ok, rfl, n, hg, r7, f7⟩
          have x7 := x6.fr f7 (by omega)
          have F7 := F6.trans f7 (by intro i hi e; omega)
          have HG : Hid (gget (bitAt zs) 31 1 pos = (z, ok, pos + n)) := hg
          clear hg f7 F6 r6 x6
          go_wp2_with fail
          refine (refGget_any _ w4.heap.size _ _ _ x7 (by have := HAL.out; omega) (by omega) (by omega)).mono ?_
          rintro e w8 ⟨z', ok', rfl, n', hg, x8, f8⟩
          rw [HFn.out, HG.out] at hg
          have hbd := gget_bound (bitAt zs) 31 1 pos (Nat.le_refl 1)
          rw [HG.out] at hbd
          simp only [] at hbd
          simp only [Prod.mk.injEq] at hg
          obtain ⟨rfl, rfl, hn⟩ := hg
          obtain rfl : n' = n := by omega
          have hn64 : n' ≤ 64 := by omega
          have r8 := r7.fr f8 (by omega) (by omega)
          have F8 := F7.trans f8 (by intro i hi e; omega)
          rw [HAL.out] at x8
          have hpl := past_le pos n' (8 * zs.length)
          generalize past pos n' (8 * zs.length) = m at r8 x8 hpl
          have hc1 := Blk.cell x8 1
          have hc2 := Blk.cell x8 2
          simp at hc1 hc2
          have hxx : ((z : Int) != (z : Int)) = false := by simp
          have hoo : (ok != ok) = false := by simp
          clear f8 F7 r7 x7 hn HG hbd c0'
          go_wp2_with fail
          go_quiet (first | (go_at_call 22; exact Calls.quiet_of_same (rat_any _ _ _ _ _ _ (r8.drewN' _))) | (go_at_call 23; exact Calls.quiet_of_same (rover_any _ _ _ _ _ _ (r8.drewN' _))))
          go_wp2
          go_roundw
          case rel => exact ⟨k + 1, pos + n', ov + m, by omega, by omega, by go_num, by omega, by omega, r8.drewN' _, x8.drewN' _, F8.drewN _⟩
          case measure => simp [intOf]; omega
      · have h60' : (60 : Int) ≤ (k : Int) := by omega
        go_wp2_with fail
        refine (gget_nil _).mono ?_
        rintro e w7 ⟨rfl, rfl⟩
        go_wp2
        go_ret
        exact ⟨rfl, F6.below (Nat.le_refl _) (fun _ _ h => h)⟩
    · have hki : ¬ (k : Int) < (len2 : Int) := by omega
      go_wp2_with fail
      refine (gget_nil _).mono ?_
      rintro e w7 ⟨rfl, rfl⟩
      go_wp2
      go_ret
      exact ⟨rfl, F6.below (Nat.le_refl _) (fun _ _ h => h)⟩
end Go.Proofs.Ytjjcekmmdngekaa
