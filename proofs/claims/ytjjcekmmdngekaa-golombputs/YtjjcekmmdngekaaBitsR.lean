/-
  Package bits: the reader.
-/
import Derived.Test.YtjjcekmmdngekaaBitsP
import Derived.Deep.QuietTactic
import Derived.BigQuiet
namespace Go.Proofs.Ytjjcekmmdngekaa
open Go.RowKit

/-- A reader lies in block p, its bytes zs in block q; it has gone over 'pos' bits, 'ov' of them told past the end. -/
structure Rd (w : World) (p q : Nat) (zs : List Nat) (pos ov : Nat) : Prop where
  blk : Blk w p #[.slice (some ⟨q, 0, none⟩) zs.length zs.length, .int .i64 (pos : Int), .int .i64 (ov : Int)] 55
  row : Blk w q (rowOf zs).toArray 5
  small : ∀ z ∈ zs, z < 256
  apart : p ≠ q

theorem Rd.fr {w w' : World} {p q : Nat} {zs : List Nat} {pos ov : Nat} {S : Nat → Prop} (h : Rd w p q zs pos ov) (f : Fr S w w') (hp : ¬ S p) (hq : ¬ S q) : Rd w' p q zs pos ov :=
  ⟨h.blk.fr f hp, h.row.fr f hq, h.small, h.apart⟩

/-- New. -/
theorem new_any (w : World) (v : Value) (zs : List Nat) (h : Reads w v (rowOf zs)) (hn : zs.length ≤ 100000000000000) (hs : ∀ z ∈ zs, z < 256) :
    Calls Try.prog 17 #[v] w fun e w' => ∃ p q, e = .returned (.pointer (some ⟨p, 0, none⟩)) ∧ Rd w' p q zs 0 0 ∧ w.heap.size ≤ p ∧ w.heap.size ≤ q ∧ Fr (fun _ => False) w w' := by
  have HR : Hid (Reads w v (rowOf zs)) := h
  go_enter Try.func17, Try.ntmps17
  go_wp2_with (go_at_call 29; refine (fresh_any w v zs HR.out hn).mono ?_; rintro e w' ⟨q, rfl, b1, b2, b3⟩)
  go_ret
  exact ⟨w'.heap.size, q, rfl, ⟨Blk.new w' _ _, b1.alloc _, hs, by have := b1.lt; omega⟩, b3.size, b2, b3.alloc _⟩

theorem mask_bit (z r : Nat) (hz : z < 256) : (Go.bits .and .u8 (z : Int) (2 ^ (7 - r)) != 0) = z.testBit (7 - r) := by
  have h1 : (2 ^ (7 - r) : Nat) < 256 := Nat.pow_lt_pow_right (a := 2) (m := 7 - r) (n := 8) (by decide) (by omega)
  have h2 : Go.bits .and .u8 (z : Int) (2 ^ (7 - r)) = ((z &&& 2 ^ (7 - r) : Nat) : Int) := by
    have := u8_and_nat z (2 ^ (7 - r)) hz h1
    simpa using this
  rw [h2, Bool.eq_iff_iff]
  simp only [bne_iff_ne, ne_eq]
  constructor
  · intro h
    cases hb : z.testBit (7 - r) with
    | true => rfl
    | false =>
      exfalso; apply h
      have : z &&& 2 ^ (7 - r) = 0 := by
        apply Nat.eq_of_testBit_eq
        intro i
        rw [Nat.testBit_and, Nat.testBit_two_pow, Nat.zero_testBit]
        by_cases e : 7 - r = i
        · subst e; simp [hb]
        · simp [e]
      rw [this]; rfl
  · intro h h0
    have h0' : z &&& 2 ^ (7 - r) = 0 := by omega
    have := congrArg (fun n => n.testBit (7 - r)) h0'
    simp [Nat.testBit_and, h] at this

/-- Bit, past the end. -/
theorem rbit_over (w : World) (p q : Nat) (zs : List Nat) (pos ov : Nat) (h : Rd w p q zs pos ov) (hz : zs.length ≤ 100000000000000) (hp : pos ≤ 1000000000000000) (ho : ov ≤ 1000000000000000) (hge : 8 * zs.length ≤ pos) :
    Calls Try.prog 32 #[.pointer (some ⟨p, 0, none⟩)] w fun e w' => e = .returned (.bool false) ∧ Rd w' p q zs (pos + 1) (ov + 1) ∧ Fr (fun k => k = p) w w' := by
  have hc0 := h.blk.cell 0
  have hc1 := h.blk.cell 1
  have hc2 := h.blk.cell 2
  have hf := h.blk.thaw
  simp at hc0 hc1 hc2
  have hge' : (8 * (zs.length : Int)) ≤ (pos : Int) := by omega
  go_enter Try.func32, Try.ntmps32
  go_wp2
  go_ret
  refine ⟨rfl, ⟨?_, ?_, h.small, h.apart⟩, ((Fr.refl (fun k => k = p) w).setCell (fun _ => rfl) _).setCell (fun _ => rfl) _⟩
  · simpa using (h.blk.set 1 (.int .i64 ((pos : Int) + 1))).set 2 (.int .i64 ((ov : Int) + 1))
  · exact (h.row.setOther (fun e => h.apart e.symm) _).setOther (fun e => h.apart e.symm) _

/-- Bit, within. -/
theorem rbit_in (w : World) (p q : Nat) (zs : List Nat) (pos ov : Nat) (h : Rd w p q zs pos ov) (hz : zs.length ≤ 100000000000000) (hp : pos ≤ 1000000000000000) (hlt : pos < 8 * zs.length) :
    Calls Try.prog 32 #[.pointer (some ⟨p, 0, none⟩)] w fun e w' => e = .returned (.bool (bitAt zs pos)) ∧ Rd w' p q zs (pos + 1) ov ∧ Fr (fun k => k = p) w w' := by
  have hc0 := h.blk.cell 0
  have hc1 := h.blk.cell 1
  have hf := h.blk.thaw
  simp at hc0 hc1
  have hlt' : ¬ (8 * (zs.length : Int)) ≤ (pos : Int) := by omega
  obtain ⟨k, hk⟩ : ∃ k, k = pos / 8 := ⟨_, rfl⟩
  have hcq := h.row.cell k
  obtain ⟨z, hzz⟩ : ∃ z, z = zs.getD k 0 := ⟨_, rfl⟩
  have hcq' : w.cell? ⟨q, k, none⟩ = some (.int .u8 (z : Int)) := by
    rw [hcq, List.getElem?_toArray, rowOf_get zs k (by omega), ← hzz]
  have q1 : (pos : Int).tdiv 8 = (k : Int) := by rw [Int.tdiv_eq_ediv_of_nonneg (by omega)]; omega
  have q2 : (pos : Int) / 8 = (k : Int) := by omega
  have q3 : IntKind.i64.wrap (k : Int) = (k : Int) := by rw [IntKind.wrap_i64]; omega
  have b1 : (0 : Int) ≤ (k : Int) := by omega
  have b2 : (k : Int) < (zs.length : Int) := by omega
  have hne : ¬ q = p := fun e => h.apart e.symm
  have hne' : ¬ p = q := h.apart
  have HB : Hid (bitAt zs pos = (Go.bits .and .u8 (z : Int) (2 ^ (7 - pos % 8)) != 0)) := by
    show _ = _
    have hz2 : z < 256 := by
      rw [hzz]; simpa [List.getD, show k < zs.length by omega] using h.small _ (List.getElem_mem (show k < zs.length by omega))
    rw [mask_bit z _ hz2, hzz, hk]
    rfl
  clear hcq hk hzz
  go_enter Try.func32, Try.ntmps32
  go_wp2
  go_quiet ((go_at_call 35; exact Calls.quiet_of_same (mask_any _ _ (by omega) (by omega))))
  go_wp2
  go_ret
  refine ⟨ret_bool HB.out.symm, ⟨?_, ?_, h.small, h.apart⟩, ((Fr.refl (fun k => k = p) w).setCell (fun _ => rfl) _).drewN _⟩
  · simpa using (h.blk.set 1 (.int .i64 ((pos : Int) + 1))).drewN nq
  · exact (h.row.setOther (fun e => h.apart e.symm) _).drewN _

theorem bitAt_far (zs : List Nat) (pos : Nat) (h : 8 * zs.length ≤ pos) : bitAt zs pos = false := by
  unfold bitAt
  simp [List.getD, List.getElem?_eq_none (show zs.length ≤ pos / 8 by omega)]

/-- How many of the n bits from pos on lie past L. -/
def past (pos n L : Nat) : Nat := pos + n - max pos L
theorem past_succ (pos n L : Nat) : past pos (n + 1) L = past pos n L + (if pos + n < L then 0 else 1) := by
  unfold past; split <;> omega
theorem past_le (pos n L : Nat) : past pos n L ≤ n := by unfold past; omega
theorem past_zero (pos L : Nat) : past pos 0 L = 0 := by unfold past; omega

/-- Bit. -/
theorem rbit_any (w : World) (p q : Nat) (zs : List Nat) (pos ov : Nat) (h : Rd w p q zs pos ov) (hz : zs.length ≤ 100000000000000) (hp : pos ≤ 1000000000000000) (ho : ov ≤ 1000000000000000) :
    Calls Try.prog 32 #[.pointer (some ⟨p, 0, none⟩)] w fun e w' => e = .returned (.bool (bitAt zs pos)) ∧ Rd w' p q zs (pos + 1) (ov + if pos < 8 * zs.length then 0 else 1) ∧ Fr (fun k => k = p) w w' := by
  by_cases hlt : pos < 8 * zs.length
  · rw [if_pos hlt]
    exact rbit_in w p q zs pos ov h hz hp hlt
  · rw [if_neg hlt, bitAt_far zs pos (by omega)]
    exact rbit_over w p q zs pos ov h hz hp ho (by omega)

theorem rbit_nil (w : World) : Calls Try.prog 32 #[.pointer none] w fun e w' => e = .returned (.bool false) ∧ w' = w := by
  go_enter Try.func32, Try.ntmps32
  go_wp2
  go_ret
  exact ⟨rfl, rfl⟩

theorem or_one (x : Nat) (hx : x < 9223372036854775808) : Go.bits .or .u64 ((x : Int) * 2) 1 = ((2 * x + 1 : Nat) : Int) := by
  have h := u64_or_nat (2 * x) 1 (by omega) (by decide)
  have e : 2 * x ||| 1 = 2 * x + 1 := by
    have := (Nat.two_pow_add_eq_or_of_lt (i := 1) (b := 1) (by decide) x).symm
    simpa using this
  rw [e] at h
  rw [← h]
  congr 1
  omega

theorem ralign_eq (pos : Nat) : ((pos : Int) + 7) / 8 * 8 = ((pos + gap pos : Nat) : Int) := by
  have := gap_add pos; omega

/-- At, Over, Left. -/
theorem rat_any (w : World) (p q : Nat) (zs : List Nat) (pos ov : Nat) (h : Rd w p q zs pos ov) :
    Calls Try.prog 22 #[.pointer (some ⟨p, 0, none⟩)] w fun e w' => e = .returned (.int .i64 (pos : Int)) ∧ w' = w := by
  have hc1 := h.blk.cell 1
  simp at hc1
  go_enter Try.func22, Try.ntmps22
  go_wp2
  go_ret
  exact ⟨rfl, rfl⟩

theorem rat_nil (w : World) : Calls Try.prog 22 #[.pointer none] w fun e w' => e = .returned (.int .i64 0) ∧ w' = w := by
  go_enter Try.func22, Try.ntmps22
  go_wp2
  go_ret
  exact ⟨rfl, rfl⟩

theorem rover_any (w : World) (p q : Nat) (zs : List Nat) (pos ov : Nat) (h : Rd w p q zs pos ov) :
    Calls Try.prog 23 #[.pointer (some ⟨p, 0, none⟩)] w fun e w' => e = .returned (.int .i64 (ov : Int)) ∧ w' = w := by
  have hc1 := h.blk.cell 2
  simp at hc1
  go_enter Try.func23, Try.ntmps23
  go_wp2
  go_ret
  exact ⟨rfl, rfl⟩

theorem rover_nil (w : World) : Calls Try.prog 23 #[.pointer none] w fun e w' => e = .returned (.int .i64 0) ∧ w' = w := by
  go_enter Try.func23, Try.ntmps23
  go_wp2
  go_ret
  exact ⟨rfl, rfl⟩

theorem drewN_drewN (w : World) (a b : Nat) : (w.drewN a).drewN b = w.drewN (a + b) := by simp [World.drewN, Nat.add_assoc]

end Go.Proofs.Ytjjcekmmdngekaa
