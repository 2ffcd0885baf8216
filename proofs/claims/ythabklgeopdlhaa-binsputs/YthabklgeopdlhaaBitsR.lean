/-
  Package bits: the reader.
-/
import Derived.Test.YthabklgeopdlhaaBitsP
import Derived.Deep.QuietTactic
import Derived.BigQuiet
namespace Go.Proofs.Ythabklgeopdlhaa
open Go.RowKit

/-- A reader lies in block p, its bytes zs in block q; it has gone over 'pos' bits, 'ov' of them told past the end. -/
structure Rd (w : World) (p q : Nat) (zs : List Nat) (pos ov : Nat) : Prop where
  blk : Blk w p #[.slice (some ⟨q, 0, none⟩) zs.length zs.length, .int .i64 (pos : Int), .int .i64 (ov : Int)] 97
  row : Blk w q (rowOf zs).toArray 5
  small : ∀ z ∈ zs, z < 256
  apart : p ≠ q

theorem Rd.fr {w w' : World} {p q : Nat} {zs : List Nat} {pos ov : Nat} {S : Nat → Prop} (h : Rd w p q zs pos ov) (f : Fr S w w') (hp : ¬ S p) (hq : ¬ S q) : Rd w' p q zs pos ov :=
  ⟨h.blk.fr f hp, h.row.fr f hq, h.small, h.apart⟩

/-- New. -/
theorem new_any (w : World) (v : Value) (zs : List Nat) (h : Reads w v (rowOf zs)) (hn : zs.length ≤ 100000000000000) (hs : ∀ z ∈ zs, z < 256) :
    Calls Try.prog 51 #[v] w fun e w' => ∃ p q, e = .returned (.pointer (some ⟨p, 0, none⟩)) ∧ Rd w' p q zs 0 0 ∧ w.heap.size ≤ p ∧ w.heap.size ≤ q ∧ Fr (fun _ => False) w w' := by
  have HR : Hid (Reads w v (rowOf zs)) := h
  go_enter Try.func51, Try.ntmps51
  go_wp2_with (go_at_call 69; refine (fresh_any w v zs HR.out hn).mono ?_; rintro e w' ⟨q, rfl, b1, b2, b3⟩)
  go_ret
  exact ⟨w'.heap.size, q, rfl, ⟨Blk.new w' _ _, b1.alloc _, hs, by have := b1.lt; omega⟩, b3.size, b2, b3.alloc _⟩

theorem mask_bit (z r : Nat) (hz : z < 256) : (Go.bits .and .u8 (z : Int) (2 ^ (7 - r)) != 0) = z.testBit (7 - r) := by
  have h1 : (2 ^ (7 - r) : Nat) < 256 := Nat.pow_lt_pow_right (a := 2) (m := 7 - r) (n := 8) (by decide) (by omega)
  have h2 : Go.bits .and .u8 (z : Int) (2 ^ (7 - r)) = ((z &&& 2 ^ (7 - r) : Nat) : Int) := by
    have := u8_and_nat z (2 ^ (7 - r)) hz h1
    simpa using this
  rw [h2, Bool.eq_iff_iff]
  simp only [bne_iff_ne, ne_eq]
  constructor
  · intro h
    cases hb : z.testBit (7 - r) with
    | true => rfl
    | false =>
      exfalso; apply h
      have : z &&& 2 ^ (7 - r) = 0 := by
        apply Nat.eq_of_testBit_eq
        intro i
        rw [Nat.testBit_and, Nat.testBit_two_pow, Nat.zero_testBit]
        by_cases e : 7 - r = i
        · subst e; simp [hb]
        · simp [e]
      rw [this]; rfl
  · intro h h0
    have h0' : z &&& 2 ^ (7 - r) = 0 := by omega
    have := congrArg (fun n => n.testBit (7 - r)) h0'
    simp [Nat.testBit_and, h] at this

/-- Bit, past the end. -/
theorem rbit_over (w : World) (p q : Nat) (zs : List Nat) (pos ov : Nat) (h : Rd w p q zs pos ov) (hz : zs.length ≤ 100000000000000) (hp : pos ≤ 1000000000000000) (ho : ov ≤ 1000000000000000) (hge : 8 * zs.length ≤ pos) :
    Calls Try.prog 74 #[.pointer (some ⟨p, 0, none⟩)] w fun e w' => e = .returned (.bool false) ∧ Rd w' p q zs (pos + 1) (ov + 1) ∧ Fr (fun k => k = p) w w' := by
  have hc0 := h.blk.cell 0
  have hc1 := h.blk.cell 1
  have hc2 := h.blk.cell 2
  have hf := h.blk.thaw
  simp at hc0 hc1 hc2
  have hge' : (8 * (zs.length : Int)) ≤ (pos : Int) := by omega
  go_enter Try.func74, Try.ntmps74
  go_wp2
  go_ret
  refine ⟨rfl, ⟨?_, ?_, h.small, h.apart⟩, ((Fr.refl (fun k => k = p) w).setCell (fun _ => rfl) _).setCell (fun _ => rfl) _⟩
  · simpa using (h.blk.set 1 (.int .i64 ((pos : Int) + 1))).set 2 (.int .i64 ((ov : Int) + 1))
  · exact (h.row.setOther (fun e => h.apart e.symm) _).setOther (fun e => h.apart e.symm) _

/-- Bit, within. -/
theorem rbit_in (w : World) (p q : Nat) (zs : List Nat) (pos ov : Nat) (h : Rd w p q zs pos ov) (hz : zs.length ≤ 100000000000000) (hp : pos ≤ 1000000000000000) (hlt : pos < 8 * zs.length) :
    Calls Try.prog 74 #[.pointer (some ⟨p, 0, none⟩)] w fun e w' => e = .returned (.bool (bitAt zs pos)) ∧ Rd w' p q zs (pos + 1) ov ∧ Fr (fun k => k = p) w w' := by
  have hc0 := h.blk.cell 0
  have hc1 := h.blk.cell 1
  have hf := h.blk.thaw
  simp at hc0 hc1
  have hlt' : ¬ (8 * (zs.length : Int)) ≤ (pos : Int) := by omega
  obtain ⟨k, hk⟩ : ∃ k, k = pos / 8 := ⟨_, rfl⟩
  have hcq := h.row.cell k
  obtain ⟨z, hzz⟩ : ∃ z, z = zs.getD k 0 := ⟨_, rfl⟩
  have hcq' : w.cell? ⟨q, k, none⟩ = some (.int .u8 (z : Int)) := by
    rw [hcq, List.getElem?_toArray, rowOf_get zs k (by omega), ← hzz]
  have q1 : (pos : Int).tdiv 8 = (k : Int) := by rw [Int.tdiv_eq_ediv_of_nonneg (by omega)]; omega
  have q2 : (pos : Int) / 8 = (k : Int) := by omega
  have q3 : IntKind.i64.wrap (k : Int) = (k : Int) := by rw [IntKind.wrap_i64]; omega
  have b1 : (0 : Int) ≤ (k : Int) := by omega
  have b2 : (k : Int) < (zs.length : Int) := by omega
  have hne : ¬ q = p := fun e => h.apart e.symm
  have hne' : ¬ p = q := h.apart
  have HB : Hid (bitAt zs pos = (Go.bits .and .u8 (z : Int) (2 ^ (7 - pos % 8)) != 0)) := by
    show _ = _
    have hz2 : z < 256 := by
      rw [hzz]; simpa [List.getD, show k < zs.length by omega] using h.small _ (List.getElem_mem (show k < zs.length by omega))
    rw [mask_bit z _ hz2, hzz, hk]
    rfl
  clear hcq hk hzz
  go_enter Try.func74, Try.ntmps74
  go_wp2
  go_quiet ((go_at_call 71; exact Calls.quiet_of_same (mask_any _ _ (by omega) (by omega))))
  go_wp2
  go_ret
  refine ⟨ret_bool HB.out.symm, ⟨?_, ?_, h.small, h.apart⟩, ((Fr.refl (fun k => k = p) w).setCell (fun _ => rfl) _).drewN _⟩
  · simpa using (h.blk.set 1 (.int .i64 ((pos : Int) + 1))).drewN nq
  · exact (h.row.setOther (fun e => h.apart e.symm) _).drewN _

theorem bitAt_far (zs : List Nat) (pos : Nat) (h : 8 * zs.length ≤ pos) : bitAt zs pos = false := by
  unfold bitAt
  simp [List.getD, List.getElem?_eq_none (show zs.length ≤ pos / 8 by omega)]

/-- How many of the n bits from pos on lie past L. -/
def past (pos n L : Nat) : Nat := pos + n - max pos L
theorem past_succ (pos n L : Nat) : past pos (n + 1) L = past pos n L + (if pos + n < L then 0 else 1) := by
  unfold past; split <;> omega
theorem past_le (pos n L : Nat) : past pos n L ≤ n := by unfold past; omega
theorem past_zero (pos L : Nat) : past pos 0 L = 0 := by unfold past; omega

/-- Bit. -/
theorem rbit_any (w : World) (p q : Nat) (zs : List Nat) (pos ov : Nat) (h : Rd w p q zs pos ov) (hz : zs.length ≤ 100000000000000) (hp : pos ≤ 1000000000000000) (ho : ov ≤ 1000000000000000) :
    Calls Try.prog 74 #[.pointer (some ⟨p, 0, none⟩)] w fun e w' => e = .returned (.bool (bitAt zs pos)) ∧ Rd w' p q zs (pos + 1) (ov + if pos < 8 * zs.length then 0 else 1) ∧ Fr (fun k => k = p) w w' := by
  by_cases hlt : pos < 8 * zs.length
  · rw [if_pos hlt]
    exact rbit_in w p q zs pos ov h hz hp hlt
  · rw [if_neg hlt, bitAt_far zs pos (by omega)]
    exact rbit_over w p q zs pos ov h hz hp ho (by omega)

theorem rbit_nil (w : World) : Calls Try.prog 74 #[.pointer none] w fun e w' => e = .returned (.bool false) ∧ w' = w := by
  go_enter Try.func74, Try.ntmps74
  go_wp2
  go_ret
  exact ⟨rfl, rfl⟩

theorem or_one (x : Nat) (hx : x < 9223372036854775808) : Go.bits .or .u64 ((x : Int) * 2) 1 = ((2 * x + 1 : Nat) : Int) := by
  have h := u64_or_nat (2 * x) 1 (by omega) (by decide)
  have e : 2 * x ||| 1 = 2 * x + 1 := by
    have := (Nat.two_pow_add_eq_or_of_lt (i := 1) (b := 1) (by decide) x).symm
    simpa using this
  rw [e] at h
  rw [← h]
  congr 1
  omega

set_option maxHeartbeats 400000 in
/-- Get. -/
theorem rget_any (w : World) (p q : Nat) (zs : List Nat) (pos ov : Nat) (n : Int) (h : Rd w p q zs pos ov) (hz : zs.length ≤ 100000000000000) (hp : pos ≤ 900000000000000) (ho : ov ≤ 900000000000000) :
    Calls Try.prog 52 #[.pointer (some ⟨p, 0, none⟩), .int .i64 n] w fun e w' =>
      e = .returned (.int .u64 ((valOf (readsOf (bitAt zs) pos (max 0 (min n 64)).toNat) : Nat) : Int)) ∧ Rd w' p q zs (pos + (max 0 (min n 64)).toNat) (ov + past pos (max 0 (min n 64)).toNat (8 * zs.length)) ∧ Fr (fun k => k = p) w w' := by
  obtain ⟨m, hm⟩ : ∃ m : Nat, (m : Int) = max 0 (min n 64) := ⟨(max 0 (min n 64)).toNat, by omega⟩
  have hm2 : m ≤ 64 := by omega
  have e1 : (max 0 (min n 64)).toNat = m := by omega
  rw [e1]
  have HM : Hid ((m : Int) = max 0 (min n 64)) := hm
  clear hm e1
  go_enter Try.func52, Try.ntmps52
  go_wp2_with (go_at_call 70; refine (width_any _ _).mono ?_; rintro e w' ⟨rfl, rfl⟩; rw [← HM.out])
  go_loopw [5, 8] (fun v i wr => ∃ j : Nat, j ≤ m ∧ i = .int .i64 (j : Int) ∧ v = .int .u64 ((valOf (readsOf (bitAt zs) pos j) : Nat) : Int) ∧ Rd wr p q zs (pos + j) (ov + past pos j (8 * zs.length)) ∧ Fr (fun k => k = p) w' wr) (fun _ i _ => m - (intOf i).toNat)
  case atStart => exact ⟨0, Nat.zero_le _, rfl, rfl, by simpa [past_zero] using h, Fr.refl _ _⟩
  case round =>
    obtain ⟨j, hj, rfl, rfl, h1, f1⟩ := hrel
    by_cases hlt : j < m
    · have hv := valOf_lt (readsOf (bitAt zs) pos j)
      rw [readsOf_length] at hv
      obtain ⟨x, hx⟩ : ∃ x, x = valOf (readsOf (bitAt zs) pos j) := ⟨_, rfl⟩
      rw [← hx] at hv ⊢
      have hx2 : (x : Int) < 9223372036854775808 := by
        have : 2 ^ j ≤ 2 ^ 63 := Nat.pow_le_pow_right (by decide) (by omega)
        omega
      have HX : Hid (x = valOf (readsOf (bitAt zs) pos j)) := hx
      clear hx hv
      have hpa := past_le pos j (8 * zs.length)
      have HO : Hid (Go.bits .or .u64 ((x : Int) * 2) 1 = ((2 * x + 1 : Nat) : Int)) := or_one x (by omega)
      have HN : Hid (valOf (readsOf (bitAt zs) pos (j + 1)) = 2 * x + (bitAt zs (pos + j)).toNat) := by
        show _ = _
        rw [readsOf_succ, valOf_snoc, ← HX.out]
      have HP : Hid (past pos (j + 1) (8 * zs.length) = past pos j (8 * zs.length) + if pos + j < 8 * zs.length then 0 else 1) := past_succ _ _ _
      go_wp2_with fail
      refine (rbit_any wr p q zs _ _ h1 hz (by omega) (by omega)).mono ?_
      rintro e w2 ⟨rfl, h2, f2⟩
      have R : Rd w2 p q zs (pos + (j + 1)) (ov + past pos (j + 1) (8 * zs.length)) := by
        rw [HP.out, ← Nat.add_assoc, ← Nat.add_assoc]; exact h2
      have F : Fr (fun k => k = p) w' w2 := f1.trans' f2
      generalize bitAt zs (pos + j) = b at HN
      clear h2 f2 f1 h1 HP
      cases b with
      | true =>
        go_wp2
        go_roundw
        case rel => exact ⟨j + 1, by omega, by go_num, congrArg (Value.int .u64) (by rw [HO.out, HN.out]; rfl), R, F⟩
        case measure => simp [intOf]; omega
      | false =>
        go_wp2
        go_roundw
        case rel => exact ⟨j + 1, by omega, by go_num, congrArg (Value.int .u64) (by rw [HN.out]; simp; omega), R, F⟩
        case measure => simp [intOf]; omega
    · have hge : ¬ (j : Int) < (m : Int) := by omega
      obtain rfl : j = m := by omega
      go_wp2
      go_ret
      exact ⟨rfl, h1, f1⟩

/-- Get of a nil reader. -/
theorem rget_nil (n : Int) (w : World) : Calls Try.prog 52 #[.pointer none, .int .i64 n] w fun e w' => e = .returned (.int .u64 0) ∧ w' = w := by
  obtain ⟨m, hm⟩ : ∃ m : Nat, (m : Int) = max 0 (min n 64) := ⟨(max 0 (min n 64)).toNat, by omega⟩
  have hm2 : m ≤ 64 := by omega
  have HM : Hid ((m : Int) = max 0 (min n 64)) := hm
  clear hm
  go_enter Try.func52, Try.ntmps52
  go_wp2_with (go_at_call 70; refine (width_any _ _).mono ?_; rintro e w' ⟨rfl, rfl⟩; rw [← HM.out])
  go_loopw [5, 8] (fun v i wr => ∃ j : Nat, j ≤ m ∧ i = .int .i64 (j : Int) ∧ v = .int .u64 0 ∧ SameW wr w') (fun _ i _ => m - (intOf i).toNat)
  case atStart => exact ⟨0, Nat.zero_le _, rfl, rfl, SameW.rfl⟩
  case round =>
    obtain ⟨j, hj, rfl, rfl, hw⟩ := hrel
    obtain rfl : wr = w' := hw
    by_cases hlt : j < m
    · go_wp2_with (go_at_call 74; refine (rbit_nil _).mono ?_; rintro e w2 ⟨rfl, rfl⟩)
      go_roundw
      case rel => exact ⟨j + 1, by omega, by go_num, rfl, SameW.rfl⟩
      case measure => simp [intOf]; omega
    · have hge : ¬ (j : Int) < (m : Int) := by omega
      go_wp2
      go_ret
      exact ⟨rfl, rfl⟩

theorem ralign_eq (pos : Nat) : ((pos : Int) + 7) / 8 * 8 = ((pos + gap pos : Nat) : Int) := by
  have := gap_add pos; omega

end Go.Proofs.Ythabklgeopdlhaa
