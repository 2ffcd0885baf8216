/-
  The document's own answers of layer 5 (package shingleref05): the encoder's bytes.
-/
import Derived.Test.YthabklgeopdlhaaRef5E
namespace Go.Proofs.Ythabklgeopdlhaa
open Go.RowKit

theorem ownsRow_lower {w : World} {base base' : Nat} {e : TypeId} {size : Nat} {v : Value} {n : Nat} {xs : List Value} (h : w.ownsRow base e size v n xs) (hb : base' ≤ base) : w.ownsRow base' e size v n xs := by
  refine ⟨h.1, ?_⟩
  rcases h.2 with h2 | ⟨g, cap, cur, e1, hg, r⟩
  · exact .inl h2
  · exact .inr ⟨g, cap, cur, e1, Nat.le_trans hb hg, r⟩

/-- Bytes. -/
theorem rbytes_any (w : World) (p : Nat) (v : Value) (n : Nat) (s : CS) (h : REn w p v n s) (hN : s.N ≤ 1000000) (hG : Good n s) :
    Calls Try.prog 19 #[.pointer (some ⟨p, 0, none⟩)] w fun e w' => ∃ u ys, e = .returned u ∧ w'.ownsRow w.heap.size 5 1 u ys.length (rowOf ys) ∧ Tells ys s.e ∧ Fr (fun _ => False) w w' := by
  obtain ⟨P, N, e⟩ := s
  obtain ⟨L, R, k, S⟩ := e
  obtain ⟨fair, ready, few⟩ := hG
  simp only at hN fair few
  have hspan : Span L R := ready.span
  have hwide : 16384 < R := ready.wide
  unfold Span at hspan
  have d1 := h.blk.cell 1
  have d3 := h.blk.cell 3
  have d5 := h.blk.cell 5
  simp at d1 d3 d5
  obtain ⟨m, hm⟩ : ∃ m : Nat, (m : Int) = vend L := ⟨(vend L).toNat, by unfold vend; omega⟩
  have hm3 : m ≤ 3 := by unfold vend at hm; omega
  have hmL : L ≤ 16384 * (m : Int) := by unfold vend at hm; omega
  have hmL2 : ∀ i : Nat, i < m → 16384 * (i : Int) < L := by intro i hi; unfold vend at hm; omega
  have HM := hid hm
  have HL2 := hid hmL2
  have HE : Hid (eend ⟨L, R, k, S⟩ = S ++ topB (16384 * (m : Int)) :: List.replicate k (!topB (16384 * (m : Int))) ++ [decide ((m : Int) % 2 = 1)]) := by show _ = _; unfold eend; rw [hm]
  have htop : decide ((16384 * (m : Int)) / 32768 = 1) = topB (16384 * (m : Int)) := by unfold topB; rw [decide_eq_decide]; omega
  obtain ⟨T, hT⟩ : ∃ T, T = topB (16384 * (m : Int)) := ⟨_, rfl⟩
  obtain ⟨Z, hZ⟩ : ∃ Z, Z = decide ((m : Int) % 2 = 1) := ⟨_, rfl⟩
  rw [← hT] at htop HE
  rw [← hZ] at HE
  have H1 : Hid (∀ u, Calls Try.prog 47 #[.int .i64 (16384 * (m : Int) / 32768)] u fun e w' => e = .returned (.string (strB [T])) ∧ w' = u) := by
    show ∀ u, _
    intro u; rw [← htop]; exact rone_any _ u
  have H2 : Hid (∀ u, Calls Try.prog 48 #[.int .i64 (16384 * (m : Int) / 32768)] u fun e w' => e = .returned (.string (strB [!T])) ∧ w' = u) := by
    show ∀ u, _
    intro u; rw [← htop]; exact ropp_any _ u
  have H3 : Hid (∀ u, Calls Try.prog 47 #[.int .i64 ((m : Int) % 2)] u fun e w' => e = .returned (.string (strB [Z])) ∧ w' = u) := by
    show ∀ u, _
    intro u; rw [hZ]; exact rone_any _ u
  clear hm hmL2 htop hT hZ
  obtain ⟨T1, hT1⟩ : ∃ T1, T1 = strB [T] := ⟨_, rfl⟩
  obtain ⟨T2, hT2⟩ : ∃ T2, T2 = strB [!T] := ⟨_, rfl⟩
  obtain ⟨T3, hT3⟩ : ∃ T3, T3 = strB [Z] := ⟨_, rfl⟩
  have z1 : T1.size = 1 := by rw [hT1, strB_size]; rfl
  have z2 : T2.size = 1 := by rw [hT2, strB_size]; rfl
  have z3 : T3.size = 1 := by rw [hT3, strB_size]; rfl
  obtain ⟨Sg, hSg⟩ : ∃ Sg, Sg = strB S := ⟨_, rfl⟩
  have zS : Sg.size ≤ 100000000 := by rw [hSg, strB_size]; omega
  rw [← hSg] at d5
  rw [← hT1] at H1
  rw [← hT2] at H2
  rw [← hT3] at H3
  have HT1 := hid hT1
  have HT2 := hid hT2
  have HT3 := hid hT3
  have HSg := hid hSg
  clear hT1 hT2 hT3 hSg h fair ready
  have Z1 := hid z1
  have n1 : ¬ 9223372036854775807 < Sg.size + T1.size := by omega
  clear z1
  go_enter Try.func19, Try.ntmps19
  go_wp2
  go_loopw [3] (fun i wr => ∃ j : Nat, j ≤ m ∧ i = .int .i64 (16384 * (j : Int)) ∧ SameW wr w) (fun i _ => m - (intOf i / 16384).toNat)
  case atStart => exact ⟨0, Nat.zero_le _, rfl, SameW.rfl⟩
  case round =>
    obtain ⟨j, hj, rfl, hw⟩ := hrel
    obtain rfl : w = wr := Eq.symm hw
    by_cases hlt : j < m
    · have hl := HL2.out j hlt
      go_wp2
      go_roundw
      case rel =>
        have e9 : 16384 * ((j + 1 : Nat) : Int) = 16384 * (j : Int) + 16384 := by omega
        exact ⟨j + 1, by omega, by rw [e9], SameW.rfl⟩
      case measure =>
        have e9 : (16384 * (j : Int) + 16384) / 16384 = (j : Int) + 1 := by omega
        have e8 : (16384 * (j : Int)) / 16384 = (j : Int) := by omega
        simp only [intOf]
        rw [e8, e9]
        omega
    · obtain rfl : j = m := by omega
      have hl : ¬ 16384 * (j : Int) < L := by omega
      go_wp2
      go_quiet ((go_at_call 47; exact Calls.quiet_of_same (H1.out _)))
      have f1 : Fr (fun _ => False) w (w.drewN nq) := (Fr.refl _ w).drewN nq
      have x3 : (w.drewN nq).cell? ⟨p, 3, none⟩ = some (.int .i64 (k : Int)) := d3
      generalize w.drewN nq = w1 at f1 x3
      go_wp2
      go_loopw [4, 5] (fun t i wr => ∃ q : Nat, q ≤ k ∧ i = .int .i64 (q : Int) ∧ t = .string (strB (S ++ T :: List.replicate q (!T))) ∧ SameW wr w1) (fun _ i _ => k - (intOf i).toNat)
      case atStart =>
        refine ⟨0, Nat.zero_le _, rfl, ?_, SameW.rfl⟩
        rw [HSg.out, HT1.out, strB_append]
        rfl
      case round =>
        obtain ⟨q, hq, rfl, rfl, hw⟩ := hrel
        obtain rfl : w1 = wr := Eq.symm hw
        obtain ⟨Sx, hSx⟩ : ∃ Sx, Sx = strB (S ++ T :: List.replicate q (!T)) := ⟨_, rfl⟩
        have zx : Sx.size ≤ 1000000000 := by rw [hSx, strB_size]; simp; omega
        rw [← hSx]
        have HSx := hid hSx
        clear hSx
        by_cases hlq : q < k
        · have hqi : (q : Int) < (k : Int) := by omega
          go_wp2_with fail
          refine (H2.out _).mono ?_
          rintro e w3 ⟨rfl, rfl⟩
          go_wp2
          go_roundw
          case rel =>
            refine ⟨q + 1, by omega, by go_num, ?_, SameW.rfl⟩
            rw [HSx.out, HT2.out, strB_append, List.replicate_succ', List.append_assoc]
            rfl
          case measure => simp [intOf]; omega
        · obtain rfl : q = k := by omega
          have hqi : ¬ (q : Int) < (q : Int) := by omega
          have eX : Hid (Sx ++ T3 = strB (S ++ T :: List.replicate q (!T) ++ [Z])) := by
            show _ = _
            rw [HSx.out, HT3.out, strB_append]
          go_wp2_with fail
          refine (H3.out _).mono ?_
          rintro e w3 ⟨rfl, rfl⟩
          go_wp2_with fail
          rw [eX.out]
          refine (refBytes_any _ _ (by simp; omega)).mono ?_
          rintro e w4 ⟨u4, ys, rfl, o4, P4, f4⟩
          rw [← HE.out] at P4
          have y4 : ys.length ≤ 1000000000 := by have := P4.len; rw [eend_length] at this; simp only at this; omega
          have y5 : 0 < ys.length := by have := P4.len; rw [eend_length] at this; simp only at this; omega
          obtain ⟨g4, cap4, rfl, hg4, hgl4⟩ := o4.form y5
          have hcap : ys.length ≤ cap4 ∧ cap4 ≤ maxLen := by
            rcases o4.2 with ⟨h2, _⟩ | ⟨g', cap', cur, hv, hb, hg, hnc, hcm, hcs, ht⟩
            · cases h2
            · simp at hv; obtain ⟨rfl, rfl⟩ := hv; exact ⟨hnc, hcm⟩
          have hcap2 : cap4 ≤ 9223372036854775807 := by have := hcap.2; unfold maxLen at this; omega
          have F4 := f1.trans' f4
          have s1 := f1.size
          clear f1 f4 eX
          go_wp2
          go_loopw [7] (fun i wr => ∃ j : Nat, j ≤ ys.length ∧ i = .int .i64 (j : Int) ∧ tlen ys j = tlen ys ys.length ∧ SameW wr w4) (fun i _ => (intOf i).toNat)
          case atStart => exact ⟨ys.length, Nat.le_refl _, rfl, rfl, SameW.rfl⟩
          case round =>
            obtain ⟨b, hb, rfl, ht, hw⟩ := hrel
            obtain rfl : w4 = wr := Eq.symm hw
            have hres : ∀ c, c = tlen ys ys.length → (∃ u ys', Ending.returned (.slice (some ⟨g4, 0, none⟩) c cap4) = .returned u ∧ w4.ownsRow w.heap.size 5 1 u ys'.length (rowOf ys') ∧ Tells ys' ⟨L, R, q, S⟩ ∧ Fr (fun _ => False) w w4) := by
              intro c hc
              subst hc
              refine ⟨_, trimB ys, rfl, ?_, ⟨ys, P4, rfl⟩, F4⟩
              have := ownsRow_take (ownsRow_lower o4 s1) (tlen ys ys.length) (tlen_le _ _)
              rw [rowOf_take] at this
              rw [trimB_length]
              exact this
            have HRes := hid hres
            clear hres
            cases b with
            | zero =>
              have hd : decide (((0 : Nat) : Int) > 0) = false := by decide
              have HT := hid ht
              clear ht
              go_wp2
              go_ret
              exact HRes.out 0 HT.out
            | succ b =>
              have hpos : (0 : Int) < ((b + 1 : Nat) : Int) := by omega
              have hc := ownsRow_cell o4 b _ (rowOf_get ys b (by omega))
              rw [tlen] at ht
              generalize ys.getD b 0 = z at hc ht
              have hji : ((b : Int)) < (ys.length : Int) := by omega
              have hj3 : (b : Int) + 1 ≤ (cap4 : Int) := by omega
              by_cases hz : z = 0
              · subst hz
                rw [if_pos rfl] at ht
                go_wp2
                go_roundw
                case rel => exact ⟨b, by omega, by go_num, ht, SameW.rfl⟩
                case measure => simp [intOf]
              · rw [if_neg hz] at ht
                have hzz : ((z : Int) == 0) = false := by simp; omega
                have HT := hid ht
                clear ht
                go_wp2
                go_ret
                exact HRes.out (b + 1) HT.out
end Go.Proofs.Ythabklgeopdlhaa
