/-
  Package cut: the cursor.
-/
import Derived.Test.YtdadoohkpjdlhaaMem
import Derived.Test.YtdadoohkpjdlhaaCut
import Derived.Deep.QuietTactic
import Derived.BigQuiet
import Derived.Laws.Bits64b
import Derived.Laws.BitsAllLaws
namespace Go.Proofs.Ytdadoohkpjdlhaa
open Go.RowKit

/-- A cursor lies in block p, its bytes zs in block q from off on; pos of them are behind. -/
structure Cu (w : World) (p q off : Nat) (zs : List Nat) (pos : Nat) : Prop where
  blk : Blk w p #[.slice (some ⟨q, off, none⟩) zs.length zs.length, .int .i64 (pos : Int)] 61
  row : ∀ j, j < zs.length → w.cell? ⟨q, off + j, none⟩ = some (.int .u8 ((zs.getD j 0 : Nat) : Int))
  small : ∀ z ∈ zs, z < 256
  le : pos ≤ zs.length
  apart : p ≠ q
  bd : q < w.heap.size

theorem Cu.fr {w w' : World} {p q off : Nat} {zs : List Nat} {pos : Nat} {S : Nat → Prop} (h : Cu w p q off zs pos) (f : Fr S w w') (hp : ¬ S p) (hq : ¬ S q) : Cu w' p q off zs pos :=
  ⟨h.blk.fr f hp, fun j hj => (f.cell (p := ⟨q, off + j, none⟩) (cell_lt (h.row j hj)) hq).trans (h.row j hj), h.small, h.le, h.apart, Nat.lt_of_lt_of_le h.bd f.size⟩
theorem Cu.drewN {w : World} {p q off : Nat} {zs : List Nat} {pos : Nat} (h : Cu w p q off zs pos) (n : Nat) : Cu (w.drewN n) p q off zs pos := ⟨h.blk.drewN n, h.row, h.small, h.le, h.apart, h.bd⟩

/-- A fresh copy. -/
theorem cfresh_any (w : World) (v : Value) (zs : List Nat) (h : Reads w v (rowOf zs)) (hn : zs.length ≤ 100000000000000) :
    Calls Try.prog 23 #[v] w fun e w' => ∃ q, e = .returned (.slice (some ⟨q, 0, none⟩) zs.length zs.length) ∧ Blk w' q (rowOf zs).toArray 5 ∧ w.heap.size ≤ q ∧ Fr (fun _ => False) w w' := by
  obtain ⟨a, cap, rfl, hc⟩ := h
  rw [rowOf_length] at hc ⊢
  have hmk := run_make_row' (P := Try.prog) 22 5 (.int .u8 0) 1 Try.underlying22 Try.info_u8 rfl .i64 .i64 zs.length (by omega) (by omega)
  obtain ⟨w1, hrun, b1, b2, b3⟩ := copy_fresh w a cap zs hc 3 5
  clear b2 hc
  go_enter Try.func23, Try.ntmps23
  go_wp2
  go_ret
  exact ⟨_, rfl, b1, Nat.le_refl _, b3⟩

/-- New. -/
theorem cnew_any (w : World) (v : Value) (zs : List Nat) (h : Reads w v (rowOf zs)) (hn : zs.length ≤ 100000000000000) (hs : ∀ z ∈ zs, z < 256) :
    Calls Try.prog 7 #[v] w fun e w' => ∃ p q, e = .returned (.pointer (some ⟨p, 0, none⟩)) ∧ Cu w' p q 0 zs 0 ∧ w.heap.size ≤ p ∧ w.heap.size ≤ q ∧ Fr (fun _ => False) w w' := by
  have HR : Hid (Reads w v (rowOf zs)) := h
  go_enter Try.func7, Try.ntmps7
  go_wp2_with (go_at_call 23; refine (cfresh_any w v zs HR.out hn).mono ?_; rintro e w' ⟨q, rfl, b1, b2, b3⟩)
  go_ret
  refine ⟨w'.heap.size, q, rfl, ⟨Blk.new w' _ _, ?_, hs, Nat.zero_le _, by have := b1.lt; omega, (b1.alloc _).lt⟩, b3.size, b2, b3.alloc _⟩
  intro j hj
  rw [(b1.alloc _).cell, List.getElem?_toArray, Nat.zero_add, rowOf_get zs j hj]

/-- At, Left. -/
theorem cat_any (w : World) (p q off : Nat) (zs : List Nat) (pos : Nat) (h : Cu w p q off zs pos) :
    Calls Try.prog 15 #[.pointer (some ⟨p, 0, none⟩)] w fun e w' => e = .returned (.int .i64 (pos : Int)) ∧ w' = w := by
  have hc1 := h.blk.cell 1
  simp at hc1
  go_enter Try.func15, Try.ntmps15
  go_wp2
  go_ret
  exact ⟨rfl, rfl⟩
theorem cat_nil (w : World) : Calls Try.prog 15 #[.pointer none] w fun e w' => e = .returned (.int .i64 0) ∧ w' = w := by
  go_enter Try.func15, Try.ntmps15
  go_wp2
  go_ret
  exact ⟨rfl, rfl⟩
theorem cleft_any (w : World) (p q off : Nat) (zs : List Nat) (pos : Nat) (h : Cu w p q off zs pos) (hz : zs.length ≤ 100000000000000) :
    Calls Try.prog 14 #[.pointer (some ⟨p, 0, none⟩)] w fun e w' => e = .returned (.int .i64 ((zs.length - pos : Nat) : Int)) ∧ ∃ n, w' = w.drewN n := by
  have hc0 := h.blk.cell 0
  have hc1 := h.blk.cell 1
  have hle := h.le
  simp at hc0 hc1
  have q4 : IntKind.i64.wrap ((zs.length : Int) - (pos : Int)) = (zs.length : Int) - (pos : Int) := by rw [IntKind.wrap_i64]; omega
  go_enter Try.func14, Try.ntmps14
  go_wp2
  go_quiet (fail)
  go_wp2
  go_ret
  exact ⟨ret_int (by omega), _, rfl⟩
theorem cleft_nil (w : World) : Calls Try.prog 14 #[.pointer none] w fun e w' => e = .returned (.int .i64 0) ∧ w' = w := by
  go_enter Try.func14, Try.ntmps14
  go_wp2
  go_ret
  exact ⟨rfl, rfl⟩

set_option maxHeartbeats 1000000 in
/-- next, where there are so many. -/
theorem cnext_ok (w : World) (p q off : Nat) (zs : List Nat) (pos n : Nat) (h : Cu w p q off zs pos) (hz : zs.length ≤ 100000000000000) (hn : pos + n ≤ zs.length) :
    Calls Try.prog 24 #[.pointer (some ⟨p, 0, none⟩), .int .i64 (n : Int)] w fun e w' => ∃ o, e = .returned (.tuple #[.slice (some ⟨q, o, none⟩) n n, .bool true]) ∧ (0 < n → o = off + pos) ∧ Cu w' p q off zs (pos + n) ∧ Fr (fun k => k = p) w w' := by
  have hc0 := h.blk.cell 0
  have hc1 := h.blk.cell 1
  have hf := h.blk.thaw
  simp at hc0 hc1
  have h0 := h
  have R : ∀ (i : Nat) (v : Value) (j : Nat), j < zs.length → ((w.drewN i).setCell ⟨p, 1, none⟩ v).cell? ⟨q, off + j, none⟩ = some (.int .u8 ((zs.getD j 0 : Nat) : Int)) := fun i v j hj =>
    ((((Fr.refl (fun k => k = p) w).drewN i).setCell (p := ⟨p, 1, none⟩) (fun _ => rfl) v).cell (p := ⟨q, off + j, none⟩) (cell_lt (h0.row j hj)) (fun e => h0.apart e.symm)).trans (h0.row j hj)
  have HR : Hid (∀ (i : Nat) (v : Value) (j : Nat), j < zs.length → ((w.drewN i).setCell ⟨p, 1, none⟩ v).cell? ⟨q, off + j, none⟩ = some (.int .u8 ((zs.getD j 0 : Nat) : Int))) := R
  clear R
  rcases Nat.eq_zero_or_pos n with rfl | hpos
  · have hn1 : ¬ ((zs.length - pos : Nat) : Int) < ((0 : Nat) : Int) := by omega
    go_enter Try.func24, Try.ntmps24
    go_wp2_with fail
    refine (cleft_any w p q off zs pos h hz).mono ?_
    rintro e w1 ⟨rfl, k, rfl⟩
    go_wp2
    go_quiet (fail)
    go_wp2
    go_ret2
    refine ⟨_, rfl, fun hp => absurd hp (by decide), ⟨?_, HR.out _ _, h0.small, h0.le, h0.apart, by simpa [World.setCell] using h0.bd⟩, ((Fr.refl (fun k => k = p) w).drewN _).setCell (fun _ => rfl) _⟩
    simpa using (h0.blk.drewN (k + nq)).set 1 (.int .i64 (pos : Int))
  · have hn0 : ¬ (n : Int) < 0 := by omega
    have hn1 : ¬ ((zs.length - pos : Nat) : Int) < (n : Int) := by omega
    have hn2 : ¬ n = 0 := by omega
    go_enter Try.func24, Try.ntmps24
    go_wp2_with fail
    refine (cleft_any w p q off zs pos h hz).mono ?_
    rintro e w1 ⟨rfl, k, rfl⟩
    go_wp2
    go_quiet (fail)
    go_wp2
    simp only [Nat.add_sub_cancel_left]
    go_ret2
    refine ⟨_, rfl, fun _ => rfl, ⟨?_, HR.out _ _, h0.small, hn, h0.apart, by simpa [World.setCell] using h0.bd⟩, ((Fr.refl (fun k => k = p) w).drewN _).setCell (fun _ => rfl) _⟩
    simpa using (h0.blk.drewN (k + nq)).set 1 (.int .i64 ((pos : Int) + (n : Int)))

/-- next, where there aren't. -/
theorem cnext_no (w : World) (p q off : Nat) (zs : List Nat) (pos : Nat) (n : Int) (h : Cu w p q off zs pos) (hz : zs.length ≤ 100000000000000) (hn : okB zs.length pos n = false) :
    Calls Try.prog 24 #[.pointer (some ⟨p, 0, none⟩), .int .i64 n] w fun e w' => e = .returned (.tuple #[.slice none 0 0, .bool false]) ∧ ∃ k, w' = w.drewN k := by
  have hle := h.le
  simp [okB] at hn
  by_cases h0 : n < 0
  · clear hn
    go_enter Try.func24, Try.ntmps24
    go_wp2
    go_ret2
    exact ⟨rfl, 0, rfl⟩
  · have hn1 : ((zs.length - pos : Nat) : Int) < n := by have := hn (by omega); omega
    clear hn
    go_enter Try.func24, Try.ntmps24
    go_wp2_with fail
    refine (cleft_any w p q off zs pos h hz).mono ?_
    rintro e w1 ⟨rfl, k, rfl⟩
    go_wp2
    go_ret2
    exact ⟨rfl, k, rfl⟩

/-- next of a nil cursor. -/
theorem cnext_nil (w : World) (n : Int) :
    Calls Try.prog 24 #[.pointer none, .int .i64 n] w fun e w' => e = .returned (.tuple #[.slice none 0 0, .bool (decide (n = 0))]) ∧ w' = w := by
  by_cases h0 : n < 0
  · have e : decide (n = 0) = false := by simp; omega
    rw [e]
    go_enter Try.func24, Try.ntmps24
    go_wp2
    go_ret2
    exact ⟨rfl, rfl⟩
  · by_cases h1 : 0 < n
    · have e : decide (n = 0) = false := by simp; omega
      rw [e]
      go_enter Try.func24, Try.ntmps24
      go_wp2_with fail
      refine (cleft_nil w).mono ?_
      rintro e w1 ⟨rfl, rfl⟩
      go_wp2
      go_ret2
      exact ⟨rfl, rfl⟩
    · have e : decide (n = 0) = true := by simp; omega
      rw [e]
      go_enter Try.func24, Try.ntmps24
      go_wp2_with fail
      refine (cleft_nil w).mono ?_
      rintro e w1 ⟨rfl, rfl⟩
      go_wp2
      go_ret2
      exact ⟨rfl, rfl⟩

theorem i64_or_nat (a b : Nat) (ha : a < 9223372036854775808) (hb : b < 9223372036854775808) : Go.bits .or .i64 (a : Int) (b : Int) = ((a ||| b : Nat) : Int) := by
  have hx : a ||| b < 2 ^ 63 := Nat.or_lt_two_pow (by omega) (by omega)
  show IntKind.i64.wrap ((BitVec.ofInt 64 (a : Int) ||| BitVec.ofInt 64 (b : Int)).toNat : Int) = _
  rw [BitVec.toNat_or, ofInt_u64 a (by omega), ofInt_u64 b (by omega), IntKind.wrap_i64]
  omega
theorem or_byte (x z : Nat) (hx : x < 16777216) (hz : z < 256) : Go.bits .or .i64 ((x : Int) * 256) (z : Int) = ((256 * x + z : Nat) : Int) := by
  have h := i64_or_nat (256 * x) z (by omega) (by omega)
  have e : 256 * x ||| z = 256 * x + z := (Nat.two_pow_add_eq_or_of_lt (i := 8) (b := z) (by omega) x).symm
  rw [e] at h
  rw [← h]
  congr 1
  omega

/-- number. -/
theorem cnumber_any (w : World) (v : Value) (zs : List Nat) (h : Reads w v (rowOf zs)) (hs : ∀ z ∈ zs, z < 256) (hn : zs.length ≤ 4) :
    Calls Try.prog 25 #[v] w fun e w' => e = .returned (.int .i64 ((valB zs : Nat) : Int)) ∧ w' = w := by
  obtain ⟨a, cap, rfl, hc⟩ := h
  rw [rowOf_length] at hc ⊢
  have HC : Hid (0 < zs.length → ∃ ad, a = some ad ∧ ∀ j u, (rowOf zs)[j]? = some u → w.cell? (ad.add j) = some u) := hc
  have HS : Hid (∀ z ∈ zs, z < 256) := hs
  clear hc hs
  go_enter Try.func25, Try.ntmps25
  go_wp2
  go_loop [3, 8] (fun v i => ∃ k : Nat, k ≤ zs.length ∧ i = .int .i64 (k : Int) ∧ v = .int .i64 ((valB (zs.take k) : Nat) : Int)) (fun _ i => zs.length - (intOf i).toNat)
  case atStart => exact ⟨0, Nat.zero_le _, rfl, rfl⟩
  case round =>
    obtain ⟨k, hk, rfl, rfl⟩ := hrel
    by_cases hlt : k < zs.length
    · obtain ⟨ad, rfl, hc⟩ := HC.out (by omega)
      have hck := hc k _ (rowOf_get zs k hlt)
      have hki : (k : Int) < (zs.length : Int) := by omega
      have hx := valB_lt zs HS.out k hk
      have HX : Hid (valB (zs.take (k + 1)) = 256 * valB (zs.take k) + zs.getD k 0) := valB_take_succ zs k hlt
      obtain ⟨z, hz⟩ : ∃ z, z = zs.getD k 0 := ⟨_, rfl⟩
      have hz3 : z < 256 := by rw [hz]; simpa [List.getD, hlt] using HS.out _ (List.getElem_mem hlt)
      rw [← hz] at hck HX
      obtain ⟨x, hxx⟩ : ∃ x, x = valB (zs.take k) := ⟨_, rfl⟩
      rw [← hxx] at hx HX ⊢
      have hx2 : x < 16777216 := by
        have : 256 ^ k ≤ 256 ^ 3 := Nat.pow_le_pow_right (by decide) (by omega)
        omega
      clear hx hz hxx
      go_wp2
      go_round
      case rel => exact ⟨k + 1, by omega, by go_num, congrArg (Value.int .i64) (by rw [HX.out]; exact or_byte x z hx2 hz3)⟩
      case measure => simp [intOf]; omega
    · obtain rfl : k = zs.length := by omega
      have hki : ¬ (zs.length : Int) < (zs.length : Int) := by omega
      rw [List.take_length]
      go_wp2
      go_ret
      exact ⟨rfl, rfl⟩

theorem reads_nil (w : World) : Reads w (.slice none 0 0) (rowOf []) := ⟨none, 0, rfl, fun h => absurd h (by simp [rowOf])⟩
/-- A piece of a cursor's bytes reads. -/
theorem Cu.piece {w : World} {p q off : Nat} {zs : List Nat} {pos : Nat} (h : Cu w p q off zs pos) (a n o : Nat) (hn : a + n ≤ zs.length) (ho : 0 < n → o = off + a) : Reads w (.slice (some ⟨q, o, none⟩) n n) (rowOf (piece zs a n)) := by
  refine ⟨_, n, by rw [rowOf_length, piece_length zs a n hn], fun hp => ⟨_, rfl, fun j u hu => ?_⟩⟩
  rw [rowOf_length, piece_length zs a n hn] at hp
  have hj : j < n := by
    have := (List.getElem?_eq_some_iff.1 hu).1
    rwa [rowOf_length, piece_length zs a n hn] at this
  have e2 : (⟨q, o, none⟩ : Addr).add j = ⟨q, off + (a + j), none⟩ := by
    rw [ho hp]
    unfold Addr.add
    split
    · simp_all
    · simp; omega
  rw [e2, h.row (a + j) (by omega), ← hu, rowOf_get _ j (by rw [piece_length zs a n hn]; exact hj), piece_getD _ _ _ _ hj]

set_option maxHeartbeats 1000000 in
/-- Byte. -/
theorem cbyte_any (w : World) (p q off : Nat) (zs : List Nat) (pos : Nat) (h : Cu w p q off zs pos) (hz : zs.length ≤ 100000000000000) :
    Calls Try.prog 9 #[.pointer (some ⟨p, 0, none⟩)] w fun e w' =>
      e = .returned (.tuple #[.int .i64 ((valB (piece zs pos (amt zs.length pos 1)) : Nat) : Int), .bool (okB zs.length pos 1)]) ∧ Cu w' p q off zs (pos + amt zs.length pos 1) ∧ Fr (fun k => k = p) w w' := by
  cases ho : okB zs.length pos 1 with
  | true =>
    have ha : amt zs.length pos 1 = 1 := by have := amt_ok ho; omega
    rw [ha]
    have hn : pos + 1 ≤ zs.length := by simp [okB] at ho; omega
    have hl : (piece zs pos 1).length ≤ 4 := by rw [piece_length zs pos 1 hn]; omega
    go_enter Try.func9, Try.ntmps9
    go_wp2_with fail
    refine (cnext_ok w p q off zs pos 1 h hz hn).mono ?_
    rintro e w1 ⟨o, rfl, hoo, h1, f1⟩
    have HR : Hid (Reads w1 (.slice (some ⟨q, o, none⟩) 1 1) (rowOf (piece zs pos 1))) := h1.piece pos 1 o hn hoo
    clear hoo
    go_wp2_with fail
    refine (cnumber_any w1 (.slice (some ⟨q, o, none⟩) 1 1) (piece zs pos 1) HR.out (piece_small h.small _ _) hl).mono ?_
    rintro e w2 ⟨rfl, rfl⟩
    go_wp2
    go_ret2
    exact ⟨rfl, h1, f1⟩
  | false =>
    rw [amt_no ho, piece_zero]
    go_enter Try.func9, Try.ntmps9
    go_wp2_with fail
    refine (cnext_no w p q off zs pos 1 h hz ho).mono ?_
    rintro e w1 ⟨rfl, k, rfl⟩
    go_wp2_with fail
    refine (cnumber_any _ _ [] (reads_nil _) (by simp) (by simp)).mono ?_
    rintro e w2 ⟨rfl, rfl⟩
    go_wp2
    go_ret2
    exact ⟨rfl, h.drewN k, (Fr.refl _ w).drewN k⟩
theorem cbyte_nil (w : World) : Calls Try.prog 9 #[.pointer none] w fun e w' => e = .returned (.tuple #[.int .i64 0, .bool false]) ∧ w' = w := by
  go_enter Try.func9, Try.ntmps9
  go_wp2_with fail
  refine (cnext_nil w 1).mono ?_
  rintro e w1 ⟨rfl, rfl⟩
  go_wp2_with fail
  refine (cnumber_any _ _ [] (reads_nil _) (by simp) (by simp)).mono ?_
  rintro e w2 ⟨rfl, rfl⟩
  go_wp2
  go_ret2
  exact ⟨rfl, rfl⟩

set_option maxHeartbeats 1000000 in
/-- Word. -/
theorem cword_any (w : World) (p q off : Nat) (zs : List Nat) (pos : Nat) (h : Cu w p q off zs pos) (hz : zs.length ≤ 100000000000000) :
    Calls Try.prog 8 #[.pointer (some ⟨p, 0, none⟩)] w fun e w' =>
      e = .returned (.tuple #[.int .i64 ((valB (piece zs pos (amt zs.length pos 4)) : Nat) : Int), .bool (okB zs.length pos 4)]) ∧ Cu w' p q off zs (pos + amt zs.length pos 4) ∧ Fr (fun k => k = p) w w' := by
  cases ho : okB zs.length pos 4 with
  | true =>
    have ha : amt zs.length pos 4 = 4 := by have := amt_ok ho; omega
    rw [ha]
    have hn : pos + 4 ≤ zs.length := by simp [okB] at ho; omega
    have hl : (piece zs pos 4).length ≤ 4 := by rw [piece_length zs pos 4 hn]; omega
    go_enter Try.func8, Try.ntmps8
    go_wp2_with fail
    refine (cnext_ok w p q off zs pos 4 h hz hn).mono ?_
    rintro e w1 ⟨o, rfl, hoo, h1, f1⟩
    have HR : Hid (Reads w1 (.slice (some ⟨q, o, none⟩) 4 4) (rowOf (piece zs pos 4))) := h1.piece pos 4 o hn hoo
    clear hoo
    go_wp2_with fail
    refine (cnumber_any w1 (.slice (some ⟨q, o, none⟩) 4 4) (piece zs pos 4) HR.out (piece_small h.small _ _) hl).mono ?_
    rintro e w2 ⟨rfl, rfl⟩
    go_wp2
    go_ret2
    exact ⟨rfl, h1, f1⟩
  | false =>
    rw [amt_no ho, piece_zero]
    go_enter Try.func8, Try.ntmps8
    go_wp2_with fail
    refine (cnext_no w p q off zs pos 4 h hz ho).mono ?_
    rintro e w1 ⟨rfl, k, rfl⟩
    go_wp2_with fail
    refine (cnumber_any _ _ [] (reads_nil _) (by simp) (by simp)).mono ?_
    rintro e w2 ⟨rfl, rfl⟩
    go_wp2
    go_ret2
    exact ⟨rfl, h.drewN k, (Fr.refl _ w).drewN k⟩
theorem cword_nil (w : World) : Calls Try.prog 8 #[.pointer none] w fun e w' => e = .returned (.tuple #[.int .i64 0, .bool false]) ∧ w' = w := by
  go_enter Try.func8, Try.ntmps8
  go_wp2_with fail
  refine (cnext_nil w 4).mono ?_
  rintro e w1 ⟨rfl, rfl⟩
  go_wp2_with fail
  refine (cnumber_any _ _ [] (reads_nil _) (by simp) (by simp)).mono ?_
  rintro e w2 ⟨rfl, rfl⟩
  go_wp2
  go_ret2
  exact ⟨rfl, rfl⟩

/-- A block that is known whole is an owned row. -/
theorem ownsRow_blk {w : World} {q : Nat} {zs : List Nat} {base : Nat} (b : Blk w q (rowOf zs).toArray 5) (hb : base ≤ q) (hn : zs.length ≤ 100000000000000) : w.ownsRow base 5 1 (.slice (some ⟨q, 0, none⟩) zs.length zs.length) zs.length (rowOf zs) :=
  ⟨by rw [rowOf_length]; omega, .inr ⟨q, zs.length, _, rfl, hb, b, Nat.le_refl _, by unfold maxLen; omega, by simp [rowOf_length], by simp [rowOf_length, List.take_of_length_le]⟩⟩

set_option maxHeartbeats 1000000 in
/-- Take. -/
theorem ctake_any (w : World) (p q off : Nat) (zs : List Nat) (pos : Nat) (n : Int) (h : Cu w p q off zs pos) (hz : zs.length ≤ 100000000000000) :
    Calls Try.prog 11 #[.pointer (some ⟨p, 0, none⟩), .int .i64 n] w fun e w' => ∃ v,
      e = .returned (.tuple #[v, .bool (okB zs.length pos n)]) ∧ w'.ownsRow w.heap.size 5 1 v (piece zs pos (amt zs.length pos n)).length (rowOf (piece zs pos (amt zs.length pos n))) ∧ Cu w' p q off zs (pos + amt zs.length pos n) ∧ Fr (fun k => k = p) w w' := by
  cases ho : okB zs.length pos n with
  | true =>
    have hle := amt_le zs.length pos n h.le
    obtain ⟨m, hm⟩ : ∃ m, m = amt zs.length pos n := ⟨_, rfl⟩
    have e : n = (m : Int) := by rw [hm]; exact (amt_ok ho).symm
    rw [← hm] at hle ⊢
    subst e
    clear hm ho
    have hl := piece_length zs pos m hle
    go_enter Try.func11, Try.ntmps11
    go_wp2_with fail
    refine (cnext_ok w p q off zs pos m h hz hle).mono ?_
    rintro e w1 ⟨o, rfl, hoo, h1, f1⟩
    have HR : Hid (Reads w1 (.slice (some ⟨q, o, none⟩) m m) (rowOf (piece zs pos m))) := h1.piece pos m o hle hoo
    clear hoo
    go_wp2_with fail
    refine (cfresh_any w1 (.slice (some ⟨q, o, none⟩) m m) (piece zs pos m) HR.out (by omega)).mono ?_
    rintro e w2 ⟨q2, rfl, b2, hq2, f2⟩
    go_wp2
    go_ret2
    have hO := ownsRow_blk b2 (Nat.le_trans f1.size hq2) (by omega)
    rw [hl] at hO ⊢
    exact ⟨_, rfl, hO, h1.fr f2 (fun h => h) (fun h => h), f1.trans f2 (fun _ _ h => h.elim)⟩
  | false =>
    rw [amt_no ho, piece_zero]
    go_enter Try.func11, Try.ntmps11
    go_wp2_with fail
    refine (cnext_no w p q off zs pos n h hz ho).mono ?_
    rintro e w1 ⟨rfl, k, rfl⟩
    go_wp2
    go_ret2
    exact ⟨_, rfl, World.ownsRow_nil _ _ _ _, h.drewN k, (Fr.refl _ w).drewN k⟩
theorem ctake_nil (w : World) : Calls Try.prog 11 #[.pointer none, .int .i64 0] w fun e w' => ∃ q, e = .returned (.tuple #[.slice (some ⟨q, 0, none⟩) 0 0, .bool true]) ∧ Blk w' q (rowOf []).toArray 5 ∧ w.heap.size ≤ q ∧ Fr (fun _ => False) w w' := by
  go_enter Try.func11, Try.ntmps11
  go_wp2_with fail
  refine (cnext_nil w 0).mono ?_
  rintro e w1 ⟨rfl, rfl⟩
  have e0 : decide ((0 : Int) = 0) = true := by decide
  rw [e0]
  go_wp2_with fail
  refine (cfresh_any _ _ [] (reads_nil _) (by simp)).mono ?_
  rintro e w2 ⟨q2, rfl, b2, hq2, f2⟩
  go_wp2
  go_ret2
  exact ⟨_, rfl, b2, hq2, f2⟩

set_option maxHeartbeats 1000000 in
/-- Sub, where there are so many. -/
theorem csub_ok (w : World) (p q off : Nat) (zs : List Nat) (pos : Nat) (n : Int) (h : Cu w p q off zs pos) (hz : zs.length ≤ 100000000000000) (ho : okB zs.length pos n = true) :
    Calls Try.prog 13 #[.pointer (some ⟨p, 0, none⟩), .int .i64 n] w fun e w' => ∃ p' o,
      e = .returned (.tuple #[.pointer (some ⟨p', 0, none⟩), .bool true]) ∧ w.heap.size ≤ p' ∧ Cu w' p' q o (piece zs pos (amt zs.length pos n)) 0 ∧ Cu w' p q off zs (pos + amt zs.length pos n) ∧ Fr (fun k => k = p) w w' := by
  have hle := amt_le zs.length pos n h.le
  obtain ⟨m, hm⟩ : ∃ m, m = amt zs.length pos n := ⟨_, rfl⟩
  have e : n = (m : Int) := by rw [hm]; exact (amt_ok ho).symm
  rw [← hm] at hle ⊢
  subst e
  clear hm ho
  have hl := piece_length zs pos m hle
  have hs0 := h.small
  go_enter Try.func13, Try.ntmps13
  go_wp2_with fail
  refine (cnext_ok w p q off zs pos m h hz hle).mono ?_
  rintro e w1 ⟨o, rfl, hoo, h1, f1⟩
  go_wp2
  go_ret2
  have hs1 := f1.size
  have hq := h.bd
  have hR : ∀ j, j < (piece zs pos m).length → w1.cell? ⟨q, o + j, none⟩ = some (.int .u8 (((piece zs pos m).getD j 0 : Nat) : Int)) := by
    intro j hj
    rw [hl] at hj
    rw [hoo (by omega), piece_getD _ _ _ _ hj, Nat.add_assoc]
    exact h1.row (pos + j) (by omega)
  have hb := Blk.new w1 #[.slice (some ⟨q, o, none⟩) (piece zs pos m).length (piece zs pos m).length, .int .i64 ((0 : Nat) : Int)] 61
  have fa := (Fr.refl (fun _ => False) w1).alloc (.cells #[.slice (some ⟨q, o, none⟩) m m, .int .i64 0] 61)
  refine ⟨w1.heap.size, o, rfl, hs1, ⟨?_, ?_, piece_small hs0 _ _, Nat.zero_le _, by omega, by simp; omega⟩, h1.fr fa (fun h => h) (fun h => h), f1.alloc _⟩
  · rw [hl] at hb ⊢
    exact hb
  · intro j hj
    exact (fa.cell (p := ⟨q, o + j, none⟩) (cell_lt (hR j hj)) (fun h => h)).trans (hR j hj)

/-- Sub, where there aren't. -/
theorem csub_no (w : World) (p q off : Nat) (zs : List Nat) (pos : Nat) (n : Int) (h : Cu w p q off zs pos) (hz : zs.length ≤ 100000000000000) (ho : okB zs.length pos n = false) :
    Calls Try.prog 13 #[.pointer (some ⟨p, 0, none⟩), .int .i64 n] w fun e w' => e = .returned (.tuple #[.pointer none, .bool false]) ∧ Cu w' p q off zs pos ∧ Fr (fun k => k = p) w w' := by
  go_enter Try.func13, Try.ntmps13
  go_wp2_with fail
  refine (cnext_no w p q off zs pos n h hz ho).mono ?_
  rintro e w1 ⟨rfl, k, rfl⟩
  go_wp2
  go_ret2
  exact ⟨rfl, h.drewN k, (Fr.refl _ w).drewN k⟩
end Go.Proofs.Ytdadoohkpjdlhaa
