/-
  The document's own answers of layer 5 (package shingleref05), walked: the small functions.
-/
import Derived.Test.YthabklgeopdlhaaArithB
import Derived.Test.YthabklgeopdlhaaArithM
import Derived.Test.YthabklgeopdlhaaRef1R
import Derived.Test.YthabklgeopdlhaaRef4
namespace Go.Proofs.Ythabklgeopdlhaa
open Go.RowKit

theorem rctx_any (c : Int) (w : World) :
    Calls Try.prog 57 #[.int .i64 c] w fun e w' => e = .returned (.int .i64 (ctxN c : Int)) ∧ w' = w := by
  obtain ⟨_, _, n3⟩ := ctxN_bounds c
  have H := hid n3
  clear n3
  go_enter Try.func57, Try.ntmps57
  go_wp2
  all_goals go_ret
  all_goals exact ⟨ret_int (by have := H.out; omega), rfl⟩

theorem rturn_any (v : Int) (w : World) (h0 : 0 ≤ v) (h1 : v < 65536) :
    Calls Try.prog 68 #[.int .i64 v] w fun e w' => e = .returned (.int .i64 (turn14 v)) ∧ w' = w := by
  by_cases h : v / 16384 % 2 = 1
  · have H : Hid (turn14 v = v - 16384) := if_pos h
    have hd : (v / 16384 % 2 == 1) = true := by simpa using h
    go_enter Try.func68, Try.ntmps68
    go_wp2
    go_ret
    exact ⟨ret_int H.out.symm, rfl⟩
  · have H : Hid (turn14 v = v + 16384) := if_neg h
    have hd : (v / 16384 % 2 == 1) = false := by simpa using h
    go_enter Try.func68, Try.ntmps68
    go_wp2
    go_ret
    exact ⟨ret_int H.out.symm, rfl⟩

theorem rone_any (v : Int) (w : World) :
    Calls Try.prog 47 #[.int .i64 v] w fun e w' => e = .returned (.string (strB [decide (v = 1)])) ∧ w' = w := by
  by_cases h : v = 1
  · subst h
    go_enter Try.func47, Try.ntmps47
    go_wp2
    go_ret
    exact ⟨rfl, rfl⟩
  · have hd : (v == 1) = false := by simpa using h
    have HD : Hid (decide (v = 1) = false) := by show _ = _; simpa using h
    go_enter Try.func47, Try.ntmps47
    go_wp2
    go_ret
    rw [HD.out]
    exact ⟨rfl, rfl⟩
theorem ropp_any (v : Int) (w : World) :
    Calls Try.prog 48 #[.int .i64 v] w fun e w' => e = .returned (.string (strB [!decide (v = 1)])) ∧ w' = w := by
  by_cases h : v = 1
  · subst h
    go_enter Try.func48, Try.ntmps48
    go_wp2
    go_ret
    exact ⟨rfl, rfl⟩
  · have hd : (v == 1) = false := by simpa using h
    have HD : Hid (decide (v = 1) = false) := by show _ = _; simpa using h
    go_enter Try.func48, Try.ntmps48
    go_wp2
    go_ret
    rw [HD.out]
    exact ⟨rfl, rfl⟩

theorem evenP_succ (k : Nat) : evenP (k + 1) = evenP k ++ [32768] := by simp [evenP, List.replicate_succ']

/-- fresh. -/
theorem rfresh_any (w : World) (c : Int) :
    Calls Try.prog 31 #[.int .i64 c] w fun e w' => ∃ v, e = .returned v ∧ w'.ownsRow w.heap.size 3 1 v (ctxN c) (intRow (evenP (ctxN c))) ∧ Fr (fun _ => False) w w' := by
  obtain ⟨n1, n2, _⟩ := ctxN_bounds c
  have HC : Hid (∀ u, Calls Try.prog 57 #[.int .i64 c] u fun e w' => e = .returned (.int .i64 (ctxN c : Int)) ∧ w' = u) := fun u => rctx_any c u
  generalize ctxN c = n at *
  obtain ⟨i0, hi, hz0, hz1, hz2⟩ := info_parts Try.info_int
  go_enter Try.func31, Try.ntmps31
  go_wp2
  go_loopw [3, 4] (fun v i wr => ∃ k : Nat, k ≤ n ∧ i = .int .i64 (k : Int) ∧ wr.ownsRow w.heap.size 3 1 v k (intRow (evenP k)) ∧ Fr (fun _ => False) w wr) (fun _ i _ => n - (intOf i).toNat)
  case atStart => exact ⟨0, Nat.zero_le _, rfl, World.ownsRow_nil _ _ _ _, Fr.refl _ _⟩
  case round =>
    obtain ⟨k, hk, rfl, h1, f1⟩ := hrel
    by_cases hlt : k < n
    · have a1 : (k : Int) < (n : Int) := by omega
      have hsz2 := f1.size
      have hlt1 := h1.lt
      go_wp2_with fail
      refine (HC.out wr).mono ?_
      rintro e w2 ⟨rfl, rfl⟩
      go_wp2_with (at_builtin; refine wpList_append_own _ rfl _ _ 22 rfl w.heap.size 3 i0 (.int .i64 0) 1 8 Try.underlying22 hi hz0 hz1 hz2 rfl (by decide) _ _ _ rfl (h1.alloc _) ⟨w2.heap.size, 0, none⟩ 1 1 [.int .i64 32768] rfl rfl ?c1 ?c2 ?c3 ?c4 ?c5 ?_)
      case c1 => exact World.news_of_block (heap_alloc_new _ _)
      case c2 => intro u hu; simp at hu; subst hu; rfl
      case c3 => unfold maxLen; omega
      case c4 => omega
      case c5 => simp; omega
      intro v' w3 hown hgrow _
      have F3 : Fr (fun _ => False) w w3 := (f1.alloc _).grown hgrow (fun i hi hlt => by have := hlt1 i hi; omega)
      have R : w3.ownsRow w.heap.size 3 1 v' (k + 1) (intRow (evenP (k + 1))) := by
        rw [evenP_succ, intRow_snoc]; exact hown
      clear hown hgrow
      go_wp2
      go_roundw
      case rel => exact ⟨k + 1, by omega, by go_num, R, F3⟩
      case measure => simp [intOf]; omega
    · obtain rfl : k = n := by omega
      have a1 : ¬ (k : Int) < (k : Int) := by omega
      go_wp2_with fail
      refine (HC.out wr).mono ?_
      rintro e w2 ⟨rfl, rfl⟩
      go_wp2
      go_ret
      exact ⟨_, rfl, h1, f1⟩

theorem empty_ownI (w : World) (base : Nat) (hb : base ≤ w.heap.size) : (w.alloc (.cells #[] 3)).ownsRow base 3 1 (.slice (some ⟨w.heap.size, 0, none⟩) 0 0) 0 [] :=
  World.ownsRow_made w #[] 0 hb (by unfold maxLen; omega) rfl

/-- set. -/
theorem rset_any (w : World) (base : Nat) (v : Value) (n : Nat) (P : List Int) (k : Nat) (x : Int) (h : w.ownsRow base 3 1 v n (intRow P)) (hP : P.length = n) (hk : k < n) (hn : n ≤ 64) :
    Calls Try.prog 65 #[v, .int .i64 (k : Int), .int .i64 x] w fun e w' => ∃ v', e = .returned v' ∧ w'.ownsRow w.heap.size 3 1 v' n (intRow (P.set k x)) ∧ Fr (fun _ => False) w w' := by
  obtain ⟨a, cap, rfl, hf⟩ := ownsRow_form h
  obtain ⟨g, rfl, _⟩ := hf (by omega)
  obtain ⟨i0, hi, hz0, hz1, hz2⟩ := info_parts Try.info_int
  have HN : Hid (∀ (j : Nat) (u : Value), (intRow P)[j]? = some u → (w.alloc (.cells #[] 3)).cell? ((⟨g, 0, none⟩ : Addr).add j) = some u) := by
    show ∀ (j : Nat) (u : Value), _
    intro j u hu
    have h1 := h.cells (g := g) rfl j u hu
    rw [World.cell?_of_block (w := w) (Below.heap_alloc _ _ _ (cell_lt h1))]
    exact h1
  have hki : (k : Int) < (n : Int) := by omega
  go_enter Try.func65, Try.ntmps65
  go_wp2_with (at_builtin; refine wpList_append_lies _ rfl _ _ 22 rfl w.heap.size 3 i0 (.int .i64 0) 1 8 Try.underlying22 hi hz0 hz1 hz2 rfl (by decide) _ _ _ rfl (empty_ownI w w.heap.size (Nat.le_refl _)) ⟨g, 0, none⟩ n cap (intRow P) rfl ?c1 HN.out (intRow_one P) ?c2 ?c3 ?c4 ?c5 (w.heap.size + 1) (by simp) ?_)
  case c1 => rw [intRow_length]; omega
  case c2 => omega
  case c3 => unfold maxLen; omega
  case c4 => omega
  case c5 => simp
  intro g2 cap2 w2 hown hgrow hat hlt
  have F2 : Fr (fun _ => False) w w2 := ((Fr.refl (fun _ => False) w).alloc _).grown hgrow (fun j hj hl => by simp [Value.ownBlock] at hj; omega)
  have hg2 : w.heap.size ≤ g2 := (hown.lt g2 rfl).1
  have hc := ownsRow_cell hown k _ (intRow_get P k (by omega))
  have hfz := ownsRow_thaw hown
  have HO := hid hown
  clear hown hgrow hat
  go_wp2
  go_ret
  refine ⟨_, rfl, ?_, F2.setCell (fun hl => by simp at hl; omega) _⟩
  have := ownsRow_set HO.out k (.int .i64 x)
  rwa [intRow_set] at this

/-- Same. -/
theorem rsame_any (w : World) (v1 v2 : Value) (A B : List Int) (h1 : Reads w v1 (intRow A)) (h2 : Reads w v2 (intRow B)) (hA : A.length ≤ 1000000) (_hB : B.length ≤ 1000000) :
    Calls Try.prog 20 #[v1, v2] w fun e w' => e = .returned (.bool (decide (A = B))) ∧ Fr (fun _ => False) w w' := by
  obtain ⟨a1, c1, rfl, hc1⟩ := h1
  obtain ⟨a2, c2, rfl, hc2⟩ := h2
  rw [intRow_length] at hc1 hc2 ⊢
  rw [intRow_length]
  by_cases hl : A.length = B.length
  · have hle : ((A.length : Int) != (B.length : Int)) = false := by simp; omega
    go_enter Try.func20, Try.ntmps20
    go_wp2
    go_loopw [13] (fun i wr => ∃ j : Nat, j ≤ A.length ∧ i = .int .i64 (j : Int) ∧ A.take j = B.take j ∧ Fr (fun _ => False) w wr) (fun i _ => A.length - (intOf i).toNat)
    case atStart => exact ⟨0, Nat.zero_le _, rfl, by simp, Fr.refl _ _⟩
    case round =>
      obtain ⟨j, hj, rfl, ht, f1⟩ := hrel
      by_cases hlt : j < A.length
      · have hji : (j : Int) < (A.length : Int) := by omega
        have hjb : (j : Int) < (B.length : Int) := by omega
        obtain ⟨ad1, rfl, k1⟩ := hc1 (by omega)
        obtain ⟨ad2, rfl, k2⟩ := hc2 (by omega)
        have d1 := k1 j _ (intRow_get A j hlt)
        have d2 := k2 j _ (intRow_get B j (by omega))
        have e1 := (f1.cell (p := ad1.add j) (cell_lt d1) (fun h => h)).trans d1
        have e2 := (f1.cell (p := ad2.add j) (cell_lt d2) (fun h => h)).trans d2
        have HT := hid ht
        have gA : A.take (j + 1) = A.take j ++ [A.getD j 0] := by rw [List.take_succ_eq_append_getElem hlt]; simp [List.getD, hlt]
        have gB : B.take (j + 1) = B.take j ++ [B.getD j 0] := by rw [List.take_succ_eq_append_getElem (by omega)]; simp [List.getD, show j < B.length by omega]
        have HA := hid gA
        have HB := hid gB
        have HG : Hid (A.getD j 0 ≠ B.getD j 0 → ¬ A = B) := fun h e => h (by rw [e])
        clear gA gB d1 d2 k1 k2 hc1 hc2 ht
        generalize A.getD j 0 = x at *
        generalize B.getD j 0 = y at *
        by_cases hxy : x = y
        · subst hxy
          go_wp2
          go_quiet (fail)
          go_wp2
          go_roundw
          case rel => exact ⟨j + 1, by omega, by go_num, by rw [HA.out, HB.out, HT.out], f1.drewN _⟩
          case measure => simp [intOf]; omega
        · have hne : (x != y) = true := by simpa using hxy
          have HD : Hid (decide (A = B) = false) := by show _ = _; simpa using HG.out hxy
          go_wp2
          go_quiet (fail)
          go_wp2
          go_ret
          rw [HD.out]
          exact ⟨rfl, f1.drewN _⟩
      · have hji : ¬ (j : Int) < (A.length : Int) := by omega
        have HD : Hid (decide (A = B) = true) := by
          show _ = _
          rw [List.take_of_length_le (by omega), List.take_of_length_le (by omega)] at ht
          simpa using ht
        go_wp2
        go_ret
        rw [HD.out]
        exact ⟨rfl, f1⟩
  · have hle : ((A.length : Int) != (B.length : Int)) = true := by simp; omega
    have HD : Hid (decide (A = B) = false) := by show _ = _; simp; intro e; rw [e] at hl; exact hl rfl
    go_enter Try.func20, Try.ntmps20
    go_wp2
    go_ret
    rw [HD.out]
    exact ⟨rfl, Fr.refl _ _⟩
end Go.Proofs.Ythabklgeopdlhaa
