/-
  Law package 3: words and bytes that are written are read, also through pieces (CutBack): the walk.
-/
import Derived.Test.YtdadoohkpjdlhaaFirst3
import Derived.Test.YtdadoohkpjdlhaaArgs
namespace Go.Proofs.Ytdadoohkpjdlhaa
open Go.RowKit

/-- The bytes of the first k words, each with its last byte behind it. -/
def bytesTo (U : Nat → Nat) : Nat → List Nat
  | 0 => []
  | k + 1 => bytesTo U k ++ (word4 (U k) ++ [U k % 256])
theorem bytesTo_length (U : Nat → Nat) (k : Nat) : (bytesTo U k).length = 5 * k := by
  induction k with
  | zero => rfl
  | succ k ih => simp [bytesTo, ih, word4]; omega
theorem bytesTo_small (U : Nat → Nat) (k : Nat) : ∀ z ∈ bytesTo U k, z < 256 := by
  induction k with
  | zero => simp [bytesTo]
  | succ k ih =>
    intro z hz
    rw [bytesTo] at hz
    rcases List.mem_append.1 hz with hz | hz
    · exact ih z hz
    · rcases List.mem_append.1 hz with hz | hz
      · exact word4_small _ z hz
      · simp at hz; omega
theorem bytesTo_pre (U : Nat → Nat) (j k : Nat) (h : j ≤ k) : ∃ t, bytesTo U k = bytesTo U j ++ t := by
  induction k with
  | zero => exact ⟨[], by simp [show j = 0 by omega]⟩
  | succ k ih =>
    by_cases e : j = k + 1
    · exact ⟨[], by rw [e]; simp⟩
    · obtain ⟨t, ht⟩ := ih (by omega)
      exact ⟨t ++ (word4 (U k) ++ [U k % 256]), by rw [bytesTo, ht, List.append_assoc]⟩
theorem bytesTo_word (U : Nat → Nat) (j k : Nat) (h : j < k) : piece (bytesTo U k) (5 * j) 4 = word4 (U j) ∧ piece (bytesTo U k) (5 * j + 4) 1 = [U j % 256] := by
  obtain ⟨t, ht⟩ := bytesTo_pre U (j + 1) k h
  have e := bytesTo_length U j
  rw [ht, bytesTo]
  unfold piece
  constructor
  · rw [← e, List.append_assoc, List.append_assoc, List.drop_left]
    rfl
  · rw [← e, List.append_assoc, List.append_assoc, ← List.drop_drop, List.drop_left]
    rfl
theorem bytesTo_piece (U : Nat → Nat) (j k : Nat) (h : j ≤ k) : piece (bytesTo U k) 0 (5 * j) = bytesTo U j := by
  obtain ⟨t, ht⟩ := bytesTo_pre U j k h
  rw [ht, piece, List.drop_zero, ← bytesTo_length U j]
  exact List.take_left

/-- A word and a byte of it read off a cursor. -/
theorem read5 {U : Nat → Nat} {j k : Nat} (h : j < k) (hU : U j < 4294967296) :
    okB (bytesTo U k).length (5 * j) 4 = true ∧ amt (bytesTo U k).length (5 * j) 4 = 4 ∧ valB (piece (bytesTo U k) (5 * j) 4) = U j ∧
    okB (bytesTo U k).length (5 * j + 4) 1 = true ∧ amt (bytesTo U k).length (5 * j + 4) 1 = 1 ∧ valB (piece (bytesTo U k) (5 * j + 4) 1) = U j % 256 := by
  obtain ⟨e1, e2⟩ := bytesTo_word U j k h
  have o1 : okB (bytesTo U k).length (5 * j) 4 = true := by rw [bytesTo_length]; simp [okB]; omega
  have o2 : okB (bytesTo U k).length (5 * j + 4) 1 = true := by rw [bytesTo_length]; simp [okB]; omega
  have a1 := amt_ok o1
  have a2 := amt_ok o2
  refine ⟨o1, by omega, ?_, o2, by omega, ?_⟩
  · rw [e1, valB_word4 _ hU]
  · rw [e2]; simp [valB]

set_option maxHeartbeats 4000000 in
theorem back_walk (a : Option Addr) (len cap : Nat) (U : Nat → Nat) (n : Int) (w : World) (h0 : CellsIn w a len cap (fun i => .int .u32 ((U i : Nat) : Int))) (hU : ∀ i, U i < 4294967296) :
    Calls Try.prog 5 #[.slice a len cap, .int .i64 n] w fun e w' => e = .returned (.bool true) ∧ Below w.heap.size w w' := by
  have hlen : (len : Int) ≤ 9223372036854775807 := by have := h0.1; have := h0.2.1; unfold maxLen at *; omega
  have H0 : Hid (CellsIn w a len cap (fun i => .int .u32 ((U i : Nat) : Int))) := h0
  have HU : Hid (∀ i, U i < 4294967296) := hU
  clear h0 hU
  by_cases h100 : 100 < len
  · have h100' : (100 : Int) < (len : Int) := by omega
    go_enter Try.func5, Try.ntmps5
    go_wp2_with fail
    refine (first_any _).mono ?_
    rintro e w1 ⟨rfl, F1⟩
    go_wp2
    go_ret
    exact ⟨rfl, F1.below (Nat.le_refl _) (fun _ _ h => h)⟩
  have h100' : ¬ (100 : Int) < (len : Int) := by omega
  go_enter Try.func5, Try.ntmps5
  go_wp2_with fail
  refine (first_any _).mono ?_
  rintro e w1 ⟨rfl, F1⟩
  have hP := Pn.new w1
  have hs1 := F1.size
  go_wp2_with fail
  go_loopw [27] (fun i wr => ∃ k : Nat, k ≤ len ∧ i = .int .i64 (k : Int) ∧ ∃ v, Pn wr w1.heap.size v (bytesTo U k) ∧ (∀ j, v.ownBlock = some j → w.heap.size ≤ j) ∧ Fr (fun _ => False) w wr) (fun i _ => len - (intOf i).toNat)
  case atStart => exact ⟨0, Nat.zero_le _, rfl, _, hP, (by intro j hj; cases hj), F1.alloc _⟩
  case round =>
    obtain ⟨k, hk, rfl, v, h1, O1, Fk⟩ := hrel
    have HL : Hid ((bytesTo U k).length = 5 * k) := bytesTo_length U k
    by_cases hlt : k < len
    · obtain ⟨b, off, rfl, hall⟩ := H0.out.at hlt
      have c0 := hall k hlt
      have c0' := (Fk.cell (p := ⟨b, off + k, none⟩) (cell_lt c0) (fun h => h)).trans c0
      have r1 := HU.out k
      have hki : (k : Int) < (len : Int) := by omega
      have HB : Hid (bytesTo U (k + 1) = bytesTo U k ++ (word4 (U k) ++ [U k % 256])) := by show _ = _; rw [bytesTo]
      obtain ⟨y, hy⟩ : ∃ y, y = U k := ⟨_, rfl⟩
      rw [← hy] at r1 c0' HB
      clear c0 hall hy
      have e1 : hasW (y : Int) = true := by simp [hasW]; omega
      have e2 : wordC (y : Int) = word4 y := by unfold wordC; rw [e1]; rfl
      have e3 : hasB ((y % 256 : Nat) : Int) = true := by unfold hasB; simp only [decide_eq_true_eq]; omega
      have e4 : byteC ((y % 256 : Nat) : Int) = [y % 256] := by unfold byteC; rw [e3]; rfl
      have E2 : Hid (wordC (y : Int) = word4 y) := e2
      have E4 : Hid (byteC ((y % 256 : Nat) : Int) = [y % 256]) := e4
      clear e1 e2 e3 e4
      go_wp2_with fail
      refine (pword_any wr w1.heap.size v _ (y : Int) h1 (by have := HL.out; omega)).mono ?_
      rintro e w2 ⟨rfl, g2⟩
      obtain ⟨v2, h2, F2, O2, _⟩ := g2.outer Fk (by omega) O1
      rw [E2.out] at h2
      clear g2 h1 O1 Fk c0'
      go_wp2_with fail
      refine (pbyte_any w2 w1.heap.size v2 _ ((y % 256 : Nat) : Int) h2 (by rw [List.length_append, HL.out, word4_length]; omega)).mono ?_
      rintro e w3 ⟨rfl, g3⟩
      obtain ⟨v3, h3, F3, O3, _⟩ := g3.outer F2 (by omega) O2
      rw [E4.out, List.append_assoc, ← HB.out] at h3
      clear g3 h2 F2 O2
      go_wp2
      go_roundw
      case rel => exact ⟨k + 1, by omega, by go_num, v3, h3, O3, F3⟩
      case measure => simp [intOf]; omega
    · obtain rfl : k = len := by omega
      have hki : ¬ (k : Int) < (k : Int) := by omega
      obtain ⟨m, hm⟩ : ∃ m : Nat, (m : Int) = min (max n 0) (k : Int) := ⟨(min (max n 0) (k : Int)).toNat, by omega⟩
      have hm2 : m ≤ k := by omega
      go_wp2_with fail
      refine (pbytes_any _ _ _ _ h1 (by have := HL.out; omega)).mono ?_
      rintro e w2 ⟨q2, rfl, b2, hq2, f2⟩
      have F2 := Fk.trans' f2
      have HR : Hid (Reads w2 (.slice (some ⟨q2, 0, none⟩) (bytesTo U k).length (bytesTo U k).length) (rowOf (bytesTo U k))) := ⟨_, _, by rw [rowOf_length], fun _ => ⟨_, rfl, fun j u hu => World.news_of_block b2 j u hu⟩⟩
      clear b2
      go_wp2_with fail
      refine (cnew_any w2 _ _ HR.out (by have := HL.out; omega) (bytesTo_small U k)).mono ?_
      rintro e w3 ⟨p3, q3, rfl, r3, hp3, hq3, f3⟩
      have F3 : Fr (fun _ => False) w w3 := F2.trans' f3
      have hpw : w.heap.size ≤ p3 := Nat.le_trans F2.size hp3
      have ho : okB (bytesTo U k).length 0 (5 * (m : Int)) = true := by rw [HL.out]; simp [okB]; omega
      have ha : amt (bytesTo U k).length 0 (5 * (m : Int)) = 5 * m := by have := amt_ok ho; omega
      have hC := csub_ok w3 p3 q3 0 _ 0 (5 * (m : Int)) r3 (by have := HL.out; omega) ho
      rw [ha, bytesTo_piece U m k hm2, Nat.zero_add] at hC
      have HC := hid hC
      clear hC ho ha
      clear hP h1 HR f2 f3 hp3 hq3 hq2 F2 Fk O1
      go_wp2_with fail
      all_goals
        have hC := HC.out
        clear HC
        first
          | rw [show 5 * (m : Int) = 5 * n by omega] at hC
          | rw [show 5 * (m : Int) = 5 * (k : Int) by omega] at hC
          | rw [show 5 * (m : Int) = 0 by omega] at hC
        refine hC.mono ?_
        clear hC
        rintro e w4 ⟨p4, o, rfl, hp4, s4, r4, f4⟩
        have F4 : Fr (fun _ => False) w w4 := F3.trans f4 (by intro i hi e; omega)
        have hpp : p3 < p4 := by have := r3.blk.lt; omega
        clear f4 F3 r3 hp4
        go_wp2_with fail
        go_loopw [59] (fun i wr => ∃ j : Nat, j ≤ k ∧ i = .int .i64 (j : Int) ∧ Cu wr p4 q3 o (bytesTo U m) (5 * min j m) ∧ Cu wr p3 q3 0 (bytesTo U k) (5 * max j m) ∧ Fr (fun _ => False) w wr) (fun i _ => k - (intOf i).toNat)
        case atStart => exact ⟨0, Nat.zero_le _, rfl, by simpa using s4, by simpa using r4, F4⟩
        case round =>
          obtain ⟨j, hj, rfl, s5, r5, F5⟩ := hrel
          clear s4 r4 F4
          have HM := bytesTo_length U m
          have HM' : Hid ((bytesTo U m).length = 5 * m) := HM
          clear HM
          by_cases hlt2 : j < k
          · obtain ⟨b, off, rfl, hall⟩ := H0.out.at hlt2
            have c0 := hall j hlt2
            have c0' := (F5.cell (p := ⟨b, off + j, none⟩) (cell_lt c0) (fun h => h)).trans c0
            have hji : (j : Int) < (k : Int) := by omega
            have r1 := HU.out j
            by_cases hjm : j < m
            · have hjn : (j : Int) < n := by omega
              obtain ⟨a1, a2, a3, a4, a5, a6⟩ := read5 hjm r1
              rw [show min j m = j by omega] at s5
              rw [show max j m = m by omega] at r5
              have hW := cword_any wr p4 q3 o _ _ s5 (by have := HM'.out; omega)
              rw [a1, a2, a3] at hW
              have HW := hid hW
              obtain ⟨y, hy⟩ : ∃ y, y = U j := ⟨_, rfl⟩
              rw [← hy] at c0' r1 a6 HW
              clear c0 hall hy a1 a2 a3 hW
              go_wp2_with fail
              refine HW.out.mono ?_
              clear HW
              rintro e w6 ⟨rfl, s6, f6⟩
              have r6 := r5.fr f6 (by omega) (fun h => s5.apart h.symm)
              have F6 := F5.trans f6 (by intro i hi e; omega)
              have hB := cbyte_any w6 p4 q3 o _ _ s6 (by have := HM'.out; omega)
              rw [a4, a5, a6] at hB
              have HB := hid hB
              clear a4 a5 a6 hB s5 r5 F5 f6
              go_wp2_with fail
              refine HB.out.mono ?_
              clear HB
              rintro e w7 ⟨rfl, s7, f7⟩
              have r7 := r6.fr f7 (by omega) (fun h => s6.apart h.symm)
              have F7 := F6.trans f7 (by intro i hi e; omega)
              clear s6 r6 F6 f7
              go_wp2
              go_roundw
              case rel => exact ⟨j + 1, by omega, by go_num, by rw [show 5 * min (j + 1) m = 5 * j + 4 + 1 by omega]; exact s7, by rw [show max (j + 1) m = m by omega]; exact r7, F7⟩
              case measure => simp [intOf]; omega
            · have hjn : ¬ (j : Int) < n := by omega
              obtain ⟨a1, a2, a3, a4, a5, a6⟩ := read5 hlt2 r1
              rw [show min j m = m by omega] at s5
              rw [show max j m = j by omega] at r5
              have hW := cword_any wr p3 q3 0 _ _ r5 (by have := HL.out; omega)
              rw [a1, a2, a3] at hW
              have HW := hid hW
              obtain ⟨y, hy⟩ : ∃ y, y = U j := ⟨_, rfl⟩
              rw [← hy] at c0' r1 a6 HW
              clear c0 hall hy a1 a2 a3 hW
              go_wp2_with fail
              refine HW.out.mono ?_
              clear HW
              rintro e w6 ⟨rfl, r6, f6⟩
              have s6 := s5.fr f6 (by omega) (fun h => r5.apart h.symm)
              have F6 := F5.trans f6 (by intro i hi e; omega)
              have hB := cbyte_any w6 p3 q3 0 _ _ r6 (by have := HL.out; omega)
              rw [a4, a5, a6] at hB
              have HB := hid hB
              clear a4 a5 a6 hB s5 r5 F5 f6
              go_wp2_with fail
              refine HB.out.mono ?_
              clear HB
              rintro e w7 ⟨rfl, r7, f7⟩
              have s7 := s6.fr f7 (by omega) (fun h => r6.apart h.symm)
              have F7 := F6.trans f7 (by intro i hi e; omega)
              clear s6 r6 F6 f7
              go_wp2
              go_roundw
              case rel => exact ⟨j + 1, by omega, by go_num, by rw [show min (j + 1) m = m by omega]; exact s7, by rw [show 5 * max (j + 1) m = 5 * j + 4 + 1 by omega]; exact r7, F7⟩
              case measure => simp [intOf]; omega
          · obtain rfl : j = k := by omega
            have hji : ¬ (j : Int) < (j : Int) := by omega
            rw [show min j m = m by omega] at s5
            rw [show max j m = j by omega] at r5
            have hC := cleft_any wr p3 q3 0 _ _ r5 (by have := HL.out; omega)
            rw [show (((bytesTo U j).length - 5 * j : Nat) : Int) = 0 by have := HL.out; omega] at hC
            have HC := hid hC
            clear hC
            go_wp2_with fail
            refine HC.out.mono ?_
            clear HC
            rintro e w6 ⟨rfl, i6, rfl⟩
            have hC := cleft_any _ p4 q3 o _ _ (s5.drewN i6) (by have := HM'.out; omega)
            rw [show (((bytesTo U m).length - 5 * m : Nat) : Int) = 0 by have := HM'.out; omega] at hC
            have HC := hid hC
            clear hC
            go_wp2_with fail
            refine HC.out.mono ?_
            clear HC
            rintro e w7 ⟨rfl, i7, rfl⟩
            go_wp2
            go_ret
            exact ⟨rfl, (F5.drewN (i6 + i7)).below (Nat.le_refl _) (fun _ _ h => h)⟩
end Go.Proofs.Ytdadoohkpjdlhaa
