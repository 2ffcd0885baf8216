/-
  Package plane: are two planes alike (slices.Equal, Same); the document's Same.
-/
import Derived.Test.YtgmainbgliejhaaPlaneA
namespace Go.Proofs.Ytgmainbgliejhaa
open Go.RowKit

theorem likeP_len {X Y : Int} {n : Nat} {X' Y' : Int} {n' : Nat} (h : likeP X Y n X' Y' n' = true) : n = n' ∧ X = X' ∧ Y = Y' ∧ rightP X Y n = true := by
  simp [likeP] at h
  obtain ⟨⟨⟨h1, h2⟩, h3⟩, h4⟩ := h
  have e1 := (rightP_iff.1 h1).2.2
  have e2 := (rightP_iff.1 h2).2.2
  rw [h3, h4, ← e2] at e1
  exact ⟨by omega, h3, h4, h1⟩

theorem rsame_any (X Y : Int) (a : Option Addr) (n cap : Nat) (V : Nat → Int) (b : Nat) (X' Y' : Int) (a' : Option Addr) (n' cap' : Nat) (V' : Nat → Int) (b' : Nat) (w : World) (h : Nums w a n cap V b) (h' : Nums w a' n' cap' V' b') :
    Calls Try.prog 17 #[.agg #[.int .i64 X, .int .i64 Y, .slice a n cap], .agg #[.int .i64 X', .int .i64 Y', .slice a' n' cap']] w fun e w' => e = .returned (.bool (sameV X Y n V X' Y' n' V')) ∧ Fr (fun _ => False) w w' := by
  have hl := h.len
  have hl' := h'.len
  by_cases hX : X = X'
  · have hXd : (X != X') = false := by simpa using hX
    by_cases hY : Y = Y'
    · have hYd : (Y != Y') = false := by simpa using hY
      by_cases hn : n = n'
      · subst hn
        have HR : Hid (sameV X Y n V X' Y' n V' = eqV n V V') := by show _ = _; simp [sameV, hX, hY]
        have hnd : ((n : Int) != (n : Int)) = false := by simp
        clear hX hY
        obtain ⟨W, hW⟩ : ∃ W, W = (w.alloc (.cells #[.int .i64 X, .int .i64 Y, .slice a n cap] 38)).alloc (.cells #[.int .i64 X', .int .i64 Y', .slice a' n cap'] 38) := ⟨_, rfl⟩
        have F0 : Fr (fun _ => False) w W := by rw [hW]; exact ((Fr.refl _ w).alloc _).alloc _
        have O0 : Blk W w.heap.size #[.int .i64 X, .int .i64 Y, .slice a n cap] 38 := by rw [hW]; exact (Blk.new _ _ _).alloc _
        have O1 : Blk W (w.heap.size + 1) #[.int .i64 X', .int .i64 Y', .slice a' n cap'] 38 := by
          rw [hW]; simpa using Blk.new (w.alloc (.cells #[.int .i64 X, .int .i64 Y, .slice a n cap] 38)) #[.int .i64 X', .int .i64 Y', .slice a' n cap'] 38
        have HW := hid hW
        clear hW
        have HC : Hid (∀ wr k, Fr (fun _ => False) W wr → k < n → ∃ o o', a = some ⟨b, o, none⟩ ∧ a' = some ⟨b', o', none⟩ ∧ wr.cell? ⟨b, o + k, none⟩ = some (.int .i64 (V k)) ∧ wr.cell? ⟨b', o' + k, none⟩ = some (.int .i64 (V' k))) := by
          intro wr k f hk
          obtain ⟨o, e, hc⟩ := (h.quiet (F0.trans' f)).at' (by omega)
          obtain ⟨o', e', hc'⟩ := (h'.quiet (F0.trans' f)).at' (by omega)
          exact ⟨o, o', e, e', hc k hk, hc' k hk⟩
        have HD : Hid (∀ wr, Fr (fun _ => False) W wr → wr.cell? ⟨w.heap.size, 2, none⟩ = some (.slice a n cap) ∧ wr.cell? ⟨w.heap.size + 1, 2, none⟩ = some (.slice a' n cap')) := by
          intro wr f
          exact ⟨by rw [(O0.fr f (fun h => h)).cell]; rfl, by rw [(O1.fr f (fun h => h)).cell]; rfl⟩
        clear h h' O0 O1
        go_enter Try.func17, Try.ntmps17
        go_wp2
        rw [← HW.out]
        go_loopw [30] (fun i wr => ∃ k : Nat, k ≤ n ∧ i = .int .i64 (k : Int) ∧ eqV k V V' = true ∧ Fr (fun _ => False) W wr) (fun i _ => n - (intOf i).toNat)
        case atStart => exact ⟨0, Nat.zero_le _, rfl, rfl, Fr.refl _ _⟩
        case round =>
          obtain ⟨k, hk, rfl, he, F⟩ := hrel
          have HE := hid he
          clear he
          by_cases hlt : k < n
          · have hki : (k : Int) < (n : Int) := by omega
            obtain ⟨d1, d2⟩ := HD.out wr F
            obtain ⟨o, o', rfl, rfl, c1, c2⟩ := HC.out wr k F hlt
            obtain ⟨x, hx⟩ : ∃ x, V k = x := ⟨_, rfl⟩
            obtain ⟨y, hy⟩ : ∃ y, V' k = y := ⟨_, rfl⟩
            rw [hx] at c1
            rw [hy] at c2
            have HX := hid hx
            have HY := hid hy
            clear hx hy
            by_cases hv : x = y
            · have hvd : (x != y) = false := by simpa using hv
              have HV := hid hv
              clear hv
              go_wp2
              go_quiet (fail)
              go_wp2
              go_roundw
              case rel => exact ⟨k + 1, by omega, by go_num, by rw [eqV_succ, HE.out, HX.out, HY.out, HV.out]; simp, F.drewN _⟩
              case measure => simp [intOf]; omega
            · have hvd : (x != y) = true := by simpa using hv
              have HV := hid hv
              clear hv
              go_wp2
              go_quiet (fail)
              go_wp2
              go_ret
              exact ⟨ret_bool (by rw [HR.out, eqV_not hlt (by rw [HX.out, HY.out]; exact HV.out)]), F0.trans' (F.drewN _)⟩
          · have hki : ¬ (k : Int) < (n : Int) := by omega
            obtain rfl : k = n := by omega
            go_wp2
            go_ret
            exact ⟨ret_bool (by rw [HR.out, HE.out]), F0.trans' F⟩
      · have hnd : ((n : Int) != (n' : Int)) = true := by simp; omega
        have HR : Hid (sameV X Y n V X' Y' n' V' = false) := by show _ = _; simp [sameV, hn]
        clear hX hY hn
        go_enter Try.func17, Try.ntmps17
        go_wp2
        go_ret
        exact ⟨ret_bool (by rw [HR.out]), ((Fr.refl _ w).alloc _).alloc _⟩
    · have hYd : (Y != Y') = true := by simpa using hY
      have HR : Hid (sameV X Y n V X' Y' n' V' = false) := by show _ = _; simp [sameV, hY]
      clear hX hY
      go_enter Try.func17, Try.ntmps17
      go_wp2
      go_ret
      exact ⟨ret_bool (by rw [HR.out]), ((Fr.refl _ w).alloc _).alloc _⟩
  · have hXd : (X != X') = true := by simpa using hX
    have HR : Hid (sameV X Y n V X' Y' n' V' = false) := by show _ = _; simp [sameV, hX]
    clear hX
    go_enter Try.func17, Try.ntmps17
    go_wp2
    go_ret
    exact ⟨ret_bool (by rw [HR.out]), ((Fr.refl _ w).alloc _).alloc _⟩
end Go.Proofs.Ytgmainbgliejhaa
