/-
  The document's own answers of layer 6 (package shingleref06), walked: which sets are right, the steps of a number.
-/
import Derived.Test.YthabklgeopdlhaaBinsP
import Derived.Test.YthabklgeopdlhaaBitRow
import Derived.Test.YthabklgeopdlhaaRef1
import Derived.Test.YthabklgeopdlhaaRef5
import Derived.Deep.AppendLies
import Derived.Deep.RegionHeld3
import Derived.Laws.AppendOwnNone
namespace Go.Proofs.Ythabklgeopdlhaa
open Go.RowKit

theorem rfollow_any (w : World) (a : Option Addr) (n cap : Nat) (V : Nat → Int) (b : Nat) (D S : Int) (i : Nat) (h : SetV w a n cap V b) (hn : 0 < n) :
    Calls Try.prog 33 #[.agg #[.slice a n cap, .int .i64 D, .int .i64 S], .int .i64 (i : Int)] w fun e w' => e = .returned (.int .i64 (fol V n i)) ∧ Fr (fun _ => False) w w' := by
  obtain ⟨off, rfl, hc⟩ := h.at' hn
  have hm : (n : Int) ≤ 9223372036854775807 := by have := h.le; have := h.most; unfold maxLen at *; omega
  have hb := h.lt hn
  have hn0 : (0 : Int) < (n : Int) := by omega
  by_cases hlt : i < n
  · have ck := hc i hlt
    have HV : Hid (fol V n i = V i) := by show _ = _; unfold fol; congr 1; omega
    have ck' := ((Fr.refl (fun _ => False) w).alloc (.cells #[.slice (some ⟨b, off, none⟩) n cap, .int .i64 D, .int .i64 S] 24)).cell (p := ⟨b, off + i, none⟩) (cell_lt ck) (fun h => h)
    rw [ck] at ck'
    have hii : (i : Int) < (n : Int) := by omega
    have hge : ¬ (n : Int) ≤ (i : Int) := by omega
    go_enter Try.func33, Try.ntmps33
    go_wp2
    go_ret
    exact ⟨ret_int HV.out.symm, (Fr.refl _ w).alloc _⟩
  · obtain ⟨k, hk⟩ : ∃ k, k = n - 1 := ⟨_, rfl⟩
    have ck := hc k (by omega)
    have HV : Hid (fol V n i = V k) := by show _ = _; unfold fol; congr 1; omega
    have ck' := ((Fr.refl (fun _ => False) w).alloc (.cells #[.slice (some ⟨b, off, none⟩) n cap, .int .i64 D, .int .i64 S] 24)).cell (p := ⟨b, off + k, none⟩) (cell_lt ck) (fun h => h)
    rw [ck] at ck'
    have hki : (k : Int) < (n : Int) := by omega
    have hge : (n : Int) ≤ (i : Int) := by omega
    have hsub : (n : Int) - 1 = (k : Int) := by omega
    clear hk
    go_enter Try.func33, Try.ntmps33
    go_wp2
    go_ret
    exact ⟨ret_int HV.out.symm, (Fr.refl _ w).alloc _⟩

/-- Data, Sign, and all of Follow. -/
def setL (V : Nat → Int) (n : Nat) (D S : Int) : List Int := D :: S :: (List.range n).map V
theorem setL_length (V : Nat → Int) (n : Nat) (D S : Int) : (setL V n D S).length = 2 + n := by simp [setL]; omega
theorem setL_row (V : Nat → Int) (n : Nat) (D S : Int) : intRow (setL V n D S) = [.int .i64 D, .int .i64 S] ++ intRow ((List.range n).map V) := by simp [setL, intRow]
theorem setL_right (V : Nat → Int) (n : Nat) (D S : Int) (c : Nat) : rightS V n D S c = (decide (0 < n) && (setL V n D S).all fun x => decide (0 ≤ x) && decide (x < (c : Int))) := by
  rw [Bool.eq_iff_iff]
  unfold rightS setL
  simp only [decide_eq_true_eq, Bool.and_eq_true, List.all_cons, List.all_map, List.all_eq_true, List.mem_range, Function.comp]

theorem wpList_append_anyI {w : World} {ops : Array Oper} {rest : List Oper} {o : Oper} {a : Act} {Q : Exit → Act → World → Prop} (hgd : o.guard = none) (s x : Operand) (ho : o.op = .call { callee := .builtin .append, args := #[s, x], argTypes := #[22, 22] })
    (base : Nat) (v : Value) (n : Nat) (xs : List Value) (hs : a.eval s = v) (hown : w.ownsRow base 3 1 v n xs)
    (ad : Option Addr) (m c : Nat) (news : List Value) (hx : a.eval x = .slice ad m c) (hl : news.length = m) (hsrc : (ad = none ∧ m = 0 ∧ c = 0) ∨ ∃ q, ad = some q ∧ ∀ j u, news[j]? = some u → w.cell? (q.add j) = some u) (h1 : ∀ u ∈ news, u.oneCell' = true)
    (hbytes : n + m ≤ 100000000) (hbase : base ≤ w.heap.size)
    (h : ∀ v' w', w'.ownsRow base 3 1 v' (n + m) (xs ++ news) → w.grownBy w' v.ownBlock → wpList Try.prog ops Q rest (a.put o.dst v') w') : wpList Try.prog ops Q (o :: rest) a w := by
  obtain ⟨i0, hi, hz0, hz1, hz2⟩ := info_parts Try.info_int
  rcases hsrc with ⟨rfl, rfl, rfl⟩ | ⟨q, rfl, hcell⟩
  · obtain rfl : news = [] := List.eq_nil_of_length_eq_zero hl
    refine wpList_append_own_none hgd s x 22 ho base 3 i0 1 Try.underlying22 hi v n xs hs hown hx ?_
    exact h v w (by simpa using hown) ⟨rfl, rfl, rfl, Nat.le_refl _, fun _ _ _ => rfl⟩
  · exact wpList_append_own w hgd s x 22 ho base 3 i0 (.int .i64 0) 1 8 Try.underlying22 hi hz0 hz1 hz2 rfl (by decide) v n xs hs hown q m c news hx (by simpa using hl) hcell h1 (by unfold maxLen; omega) (by omega) hbase (fun v' w' h2 h3 _ => h v' w' h2 h3)

set_option maxHeartbeats 1000000 in
/-- Right. -/
theorem rright_any (w : World) (a : Option Addr) (n cap : Nat) (V : Nat → Int) (b : Nat) (D S : Int) (c : Nat) (h : SetV w a n cap V b) (hform : a = none → n = 0 ∧ cap = 0) (hn : n ≤ 1000000) :
    Calls Try.prog 10 #[.agg #[.slice a n cap, .int .i64 D, .int .i64 S], .int .i64 (c : Int)] w fun e w' => e = .returned (.bool (rightS V n D S c)) ∧ Fr (fun _ => False) w w' := by
  have HR := hid (setL_right V n D S c)
  obtain ⟨W, hW⟩ : ∃ W, W = (w.alloc (.cells #[.slice a n cap, .int .i64 D, .int .i64 S] 24)).alloc (.cells #[.int .i64 D, .int .i64 S] 3) := ⟨_, rfl⟩
  have F0 : Fr (fun _ => False) w W := by rw [hW]; exact ((Fr.refl _ w).alloc _).alloc _
  have B0 : Blk W w.heap.size #[.slice a n cap, .int .i64 D, .int .i64 S] 24 := by rw [hW]; exact (Blk.new w _ _).alloc _
  have s0 := h.quiet F0
  have hsz : W.heap.size = w.heap.size + 2 := by rw [hW]; simp
  have o0 : W.ownsRow (w.heap.size + 1) 3 1 (.slice (some ⟨w.heap.size + 1, 0, none⟩) 2 2) 2 [.int .i64 D, .int .i64 S] := by
    have hb1 : Blk W (w.heap.size + 1) #[.int .i64 D, .int .i64 S] 3 := by
      rw [hW]
      have := Blk.new (w.alloc (.cells #[.slice a n cap, .int .i64 D, .int .i64 S] 24)) #[.int .i64 D, .int .i64 S] 3
      simpa using this
    exact ⟨rfl, .inr ⟨w.heap.size + 1, 2, #[.int .i64 D, .int .i64 S], rfl, Nat.le_refl _, hb1, Nat.le_refl _, by unfold maxLen; omega, rfl, rfl⟩⟩
  have k0 : W.cell? ⟨w.heap.size, 0, none⟩ = some (.slice a n cap) := by rw [B0.cell]; rfl
  have HW := hid hW
  clear hW
  go_enter Try.func10, Try.ntmps10
  obtain ⟨nw, hnw⟩ : ∃ nw, nw = intRow ((List.range n).map V) := ⟨_, rfl⟩
  have hnl : nw.length = n := by rw [hnw, intRow_length]; simp
  have hsrc : (a = none ∧ n = 0 ∧ cap = 0) ∨ ∃ q, a = some q ∧ ∀ j u, nw[j]? = some u → W.cell? (q.add j) = some u := by
    cases ha : a with
    | none => obtain ⟨h1, h2⟩ := hform ha; exact .inl ⟨rfl, h1, h2⟩
    | some q =>
      refine .inr ⟨q, rfl, fun j u hu => ?_⟩
      have hj : j < n := by have := (List.getElem?_eq_some_iff.1 hu).1; omega
      obtain ⟨off, e, hcell⟩ := s0.at' (by omega)
      rw [ha] at e
      cases e
      rw [addr_add, hcell j hj, ← hu, hnw]
      simp [intRow, hj]
  have hone : ∀ u ∈ nw, u.oneCell' = true := by rw [hnw]; exact intRow_one _
  have HNW : Hid (intRow (setL V n D S) = .int .i64 D :: .int .i64 S :: nw) := by show _ = _; rw [setL_row, hnw]; rfl
  have HSL : Hid ((setL V n D S).length = 2 + n) := setL_length V n D S
  have HS0 := hid s0
  have HX := hid hsrc
  clear hnw hsrc s0 h hform
  generalize setL V n D S = L at *
  go_wp2_with (at_builtin; rw [← HW.out]; refine wpList_append_anyI rfl _ _ rfl (w.heap.size + 1) (.slice (some ⟨w.heap.size + 1, 0, none⟩) 2 2) 2 [.int .i64 D, .int .i64 S] rfl o0 a n cap nw rfl hnl HX.out hone ?c1 ?c2 ?_)
  case c1 => omega
  case c2 => omega
  intro v' w1 hown hgrow
  rw [← HNW.out] at hown
  have F1 : Fr (fun _ => False) w w1 := F0.grown hgrow (fun j hj hl => by simp [Value.ownBlock] at hj; omega)
  have B1 : Blk w1 w.heap.size #[.slice a n cap, .int .i64 D, .int .i64 S] 24 := B0.fr ((Fr.refl (fun j => j = w.heap.size + 1) W).grown hgrow (fun j hj _ => by simp [Value.ownBlock] at hj; exact hj.symm)) (by omega)
  obtain ⟨av, capv, rfl, hfa⟩ := ownsRow_form hown
  have k1 : w1.cell? ⟨w.heap.size, 0, none⟩ = some (.slice a n cap) := by rw [B1.cell]; rfl
  have HO := hid hown
  clear hgrow o0 k0 B0 hown
  go_wp2
  go_loopw [18] (fun i wr => ∃ j : Nat, j ≤ 2 + n ∧ i = .int .i64 (j : Int) ∧ ((L.take j).all fun x => decide (0 ≤ x) && decide (x < (c : Int))) = true ∧ SameW wr w1) (fun i _ => 2 + n - (intOf i).toNat)
  case atStart => exact ⟨0, Nat.zero_le _, rfl, by simp, SameW.rfl⟩
  case round =>
    obtain ⟨j, hj, rfl, hall, hw⟩ := hrel
    obtain rfl : w1 = wr := Eq.symm hw
    by_cases hlt : j < 2 + n
    · have hjL : j < L.length := by have := HSL.out; omega
      obtain ⟨ga, rfl, _⟩ := hfa (by omega)
      have hji : (j : Int) < 2 + (n : Int) := by omega
      have ck := ownsRow_cell HO.out j _ (intRow_get L j hjL)
      have HT : Hid (L.take (j + 1) = L.take j ++ [L.getD j 0]) := by show _ = _; rw [List.take_succ_eq_append_getElem hjL]; simp [List.getD, hjL]
      have HM : Hid (L.getD j 0 ∈ L) := by show _ ∈ _; simp [List.getD, hjL]
      have HA := hid hall
      clear hall
      generalize L.getD j 0 = y at *
      by_cases y0 : y < 0
      · have HF : Hid (rightS V n D S c = false) := by
          show _ = _
          rw [HR.out, Bool.and_eq_false_iff]
          right
          rw [List.all_eq_false]
          exact ⟨y, HM.out, by simp; omega⟩
        go_wp2
        go_ret
        exact ⟨ret_bool HF.out.symm, F1⟩
      · have y0d : decide (y < 0) = false := by simpa using y0
        by_cases y1 : (c : Int) ≤ y
        · have HF : Hid (rightS V n D S c = false) := by
            show _ = _
            rw [HR.out, Bool.and_eq_false_iff]
            right
            rw [List.all_eq_false]
            exact ⟨y, HM.out, by simp; omega⟩
          go_wp2
          go_ret
          exact ⟨ret_bool HF.out.symm, F1⟩
        · have y1d : decide ((c : Int) ≤ y) = false := by simpa using y1
          go_wp2
          go_roundw
          case rel =>
            refine ⟨j + 1, by omega, by go_num, ?_, SameW.rfl⟩
            rw [HT.out, List.all_append, HA.out]
            simp
            omega
          case measure => simp [intOf]; omega
    · have hji : ¬ (j : Int) < 2 + (n : Int) := by omega
      have HF : Hid (rightS V n D S c = decide (0 < n)) := by
        show _ = _
        rw [HR.out]
        rw [List.take_of_length_le (by have := HSL.out; omega)] at hall
        rw [hall, Bool.and_true]
      clear hall
      go_wp2
      go_ret
      exact ⟨ret_bool HF.out.symm, F1⟩
end Go.Proofs.Ythabklgeopdlhaa
