/-
  The document's answer for layer 13: the contexts of a number; two sets that are alike.
-/
import Derived.BigQuiet
import Derived.Test.YtkndnibmgohcaaaNearM
import Derived.Test.YtkndnibmgohcaaaNearN
namespace Go.Proofs.Ytkndnibmgohcaaa
open Go.RowKit

theorem Blk.new2 (w : World) (o o' : Obj) (cs : Array Value) (t : TypeId) : Blk (((w.alloc o).alloc o').alloc (.cells cs t)) (w.heap.size + 1 + 1) cs t := by
  have := Blk.new ((w.alloc o).alloc o') cs t
  simpa using this

set_option maxHeartbeats 2000000 in
theorem rcontexts_any (pa be : Bool) (s : Int) (w : World) :
    Calls Try.prog 8 #[.bool pa, .bool be, .int .i64 s] w fun e w' => SetMade w w' e (followL pa be) 17 (signC s : Nat) := by
  by_cases h0 : 0 < s
  · have H : signC s = 15 := by unfold signC; rw [if_pos h0]
    rw [H]
    cases pa
    · cases be
      · go_enter Try.func8, Try.ntmps8
        go_wp2
        refine bodyPost_ret (v := .agg #[.slice (some ⟨w.heap.size + 1 + 1, 0, none⟩) 6 6, .int .i64 17, .int .i64 15]) ?_ rfl ⟨w.heap.size + 1 + 1, rfl, ?_, ⟨by omega, ?_⟩, ?_⟩
        · exact results_cell_row rfl _ _ w.heap.size 26 _ (0, 0) _ rfl (show Blk _ _ _ _ from ((Blk.new _ _ _).alloc _).alloc _) Try.underlying26 rfl Try.size_set
        · exact Nums.listN _ _ [0, 2, 3, 4, 5, 6] (by decide) (Blk.new2 _ _ _ _ _)
        · exact ⟨_, Blk.new2 _ _ _ _ _⟩
        · exact (((Fr.refl _ w).alloc _).alloc _).alloc _
      · go_enter Try.func8, Try.ntmps8
        go_wp2
        refine bodyPost_ret (v := .agg #[.slice (some ⟨w.heap.size + 1 + 1, 0, none⟩) 6 6, .int .i64 17, .int .i64 15]) ?_ rfl ⟨w.heap.size + 1 + 1, rfl, ?_, ⟨by omega, ?_⟩, ?_⟩
        · exact results_cell_row rfl _ _ w.heap.size 26 _ (0, 0) _ rfl (show Blk _ _ _ _ from ((Blk.new _ _ _).alloc _).alloc _) Try.underlying26 rfl Try.size_set
        · exact Nums.listN _ _ [1, 2, 3, 4, 5, 6] (by decide) (Blk.new2 _ _ _ _ _)
        · exact ⟨_, Blk.new2 _ _ _ _ _⟩
        · exact (((Fr.refl _ w).alloc _).alloc _).alloc _
    · cases be
      · go_enter Try.func8, Try.ntmps8
        go_wp2
        refine bodyPost_ret (v := .agg #[.slice (some ⟨w.heap.size + 1 + 1, 0, none⟩) 6 6, .int .i64 17, .int .i64 15]) ?_ rfl ⟨w.heap.size + 1 + 1, rfl, ?_, ⟨by omega, ?_⟩, ?_⟩
        · exact results_cell_row rfl _ _ w.heap.size 26 _ (0, 0) _ rfl (show Blk _ _ _ _ from ((Blk.new _ _ _).alloc _).alloc _) Try.underlying26 rfl Try.size_set
        · exact Nums.listN _ _ [7, 9, 10, 11, 12, 13] (by decide) (Blk.new2 _ _ _ _ _)
        · exact ⟨_, Blk.new2 _ _ _ _ _⟩
        · exact (((Fr.refl _ w).alloc _).alloc _).alloc _
      · go_enter Try.func8, Try.ntmps8
        go_wp2
        refine bodyPost_ret (v := .agg #[.slice (some ⟨w.heap.size + 1 + 1, 0, none⟩) 6 6, .int .i64 17, .int .i64 15]) ?_ rfl ⟨w.heap.size + 1 + 1, rfl, ?_, ⟨by omega, ?_⟩, ?_⟩
        · exact results_cell_row rfl _ _ w.heap.size 26 _ (0, 0) _ rfl (show Blk _ _ _ _ from ((Blk.new _ _ _).alloc _).alloc _) Try.underlying26 rfl Try.size_set
        · exact Nums.listN _ _ [8, 9, 10, 11, 12, 13] (by decide) (Blk.new2 _ _ _ _ _)
        · exact ⟨_, Blk.new2 _ _ _ _ _⟩
        · exact (((Fr.refl _ w).alloc _).alloc _).alloc _
  by_cases h1 : s < 0
  · have H : signC s = 16 := by unfold signC; rw [if_neg h0, if_pos h1]
    rw [H]
    cases pa
    · cases be
      · go_enter Try.func8, Try.ntmps8
        go_wp2
        refine bodyPost_ret (v := .agg #[.slice (some ⟨w.heap.size + 1 + 1, 0, none⟩) 6 6, .int .i64 17, .int .i64 16]) ?_ rfl ⟨w.heap.size + 1 + 1, rfl, ?_, ⟨by omega, ?_⟩, ?_⟩
        · exact results_cell_row rfl _ _ w.heap.size 26 _ (0, 0) _ rfl (show Blk _ _ _ _ from ((Blk.new _ _ _).alloc _).alloc _) Try.underlying26 rfl Try.size_set
        · exact Nums.listN _ _ [0, 2, 3, 4, 5, 6] (by decide) (Blk.new2 _ _ _ _ _)
        · exact ⟨_, Blk.new2 _ _ _ _ _⟩
        · exact (((Fr.refl _ w).alloc _).alloc _).alloc _
      · go_enter Try.func8, Try.ntmps8
        go_wp2
        refine bodyPost_ret (v := .agg #[.slice (some ⟨w.heap.size + 1 + 1, 0, none⟩) 6 6, .int .i64 17, .int .i64 16]) ?_ rfl ⟨w.heap.size + 1 + 1, rfl, ?_, ⟨by omega, ?_⟩, ?_⟩
        · exact results_cell_row rfl _ _ w.heap.size 26 _ (0, 0) _ rfl (show Blk _ _ _ _ from ((Blk.new _ _ _).alloc _).alloc _) Try.underlying26 rfl Try.size_set
        · exact Nums.listN _ _ [1, 2, 3, 4, 5, 6] (by decide) (Blk.new2 _ _ _ _ _)
        · exact ⟨_, Blk.new2 _ _ _ _ _⟩
        · exact (((Fr.refl _ w).alloc _).alloc _).alloc _
    · cases be
      · go_enter Try.func8, Try.ntmps8
        go_wp2
        refine bodyPost_ret (v := .agg #[.slice (some ⟨w.heap.size + 1 + 1, 0, none⟩) 6 6, .int .i64 17, .int .i64 16]) ?_ rfl ⟨w.heap.size + 1 + 1, rfl, ?_, ⟨by omega, ?_⟩, ?_⟩
        · exact results_cell_row rfl _ _ w.heap.size 26 _ (0, 0) _ rfl (show Blk _ _ _ _ from ((Blk.new _ _ _).alloc _).alloc _) Try.underlying26 rfl Try.size_set
        · exact Nums.listN _ _ [7, 9, 10, 11, 12, 13] (by decide) (Blk.new2 _ _ _ _ _)
        · exact ⟨_, Blk.new2 _ _ _ _ _⟩
        · exact (((Fr.refl _ w).alloc _).alloc _).alloc _
      · go_enter Try.func8, Try.ntmps8
        go_wp2
        refine bodyPost_ret (v := .agg #[.slice (some ⟨w.heap.size + 1 + 1, 0, none⟩) 6 6, .int .i64 17, .int .i64 16]) ?_ rfl ⟨w.heap.size + 1 + 1, rfl, ?_, ⟨by omega, ?_⟩, ?_⟩
        · exact results_cell_row rfl _ _ w.heap.size 26 _ (0, 0) _ rfl (show Blk _ _ _ _ from ((Blk.new _ _ _).alloc _).alloc _) Try.underlying26 rfl Try.size_set
        · exact Nums.listN _ _ [8, 9, 10, 11, 12, 13] (by decide) (Blk.new2 _ _ _ _ _)
        · exact ⟨_, Blk.new2 _ _ _ _ _⟩
        · exact (((Fr.refl _ w).alloc _).alloc _).alloc _
  have H : signC s = 14 := by unfold signC; rw [if_neg h0, if_neg h1]
  rw [H]
  cases pa
  · cases be
    · go_enter Try.func8, Try.ntmps8
      go_wp2
      refine bodyPost_ret (v := .agg #[.slice (some ⟨w.heap.size + 1 + 1, 0, none⟩) 6 6, .int .i64 17, .int .i64 14]) ?_ rfl ⟨w.heap.size + 1 + 1, rfl, ?_, ⟨by omega, ?_⟩, ?_⟩
      · exact results_cell_row rfl _ _ w.heap.size 26 _ (0, 0) _ rfl (show Blk _ _ _ _ from ((Blk.new _ _ _).alloc _).alloc _) Try.underlying26 rfl Try.size_set
      · exact Nums.listN _ _ [0, 2, 3, 4, 5, 6] (by decide) (Blk.new2 _ _ _ _ _)
      · exact ⟨_, Blk.new2 _ _ _ _ _⟩
      · exact (((Fr.refl _ w).alloc _).alloc _).alloc _
    · go_enter Try.func8, Try.ntmps8
      go_wp2
      refine bodyPost_ret (v := .agg #[.slice (some ⟨w.heap.size + 1 + 1, 0, none⟩) 6 6, .int .i64 17, .int .i64 14]) ?_ rfl ⟨w.heap.size + 1 + 1, rfl, ?_, ⟨by omega, ?_⟩, ?_⟩
      · exact results_cell_row rfl _ _ w.heap.size 26 _ (0, 0) _ rfl (show Blk _ _ _ _ from ((Blk.new _ _ _).alloc _).alloc _) Try.underlying26 rfl Try.size_set
      · exact Nums.listN _ _ [1, 2, 3, 4, 5, 6] (by decide) (Blk.new2 _ _ _ _ _)
      · exact ⟨_, Blk.new2 _ _ _ _ _⟩
      · exact (((Fr.refl _ w).alloc _).alloc _).alloc _
  · cases be
    · go_enter Try.func8, Try.ntmps8
      go_wp2
      refine bodyPost_ret (v := .agg #[.slice (some ⟨w.heap.size + 1 + 1, 0, none⟩) 6 6, .int .i64 17, .int .i64 14]) ?_ rfl ⟨w.heap.size + 1 + 1, rfl, ?_, ⟨by omega, ?_⟩, ?_⟩
      · exact results_cell_row rfl _ _ w.heap.size 26 _ (0, 0) _ rfl (show Blk _ _ _ _ from ((Blk.new _ _ _).alloc _).alloc _) Try.underlying26 rfl Try.size_set
      · exact Nums.listN _ _ [7, 9, 10, 11, 12, 13] (by decide) (Blk.new2 _ _ _ _ _)
      · exact ⟨_, Blk.new2 _ _ _ _ _⟩
      · exact (((Fr.refl _ w).alloc _).alloc _).alloc _
    · go_enter Try.func8, Try.ntmps8
      go_wp2
      refine bodyPost_ret (v := .agg #[.slice (some ⟨w.heap.size + 1 + 1, 0, none⟩) 6 6, .int .i64 17, .int .i64 14]) ?_ rfl ⟨w.heap.size + 1 + 1, rfl, ?_, ⟨by omega, ?_⟩, ?_⟩
      · exact results_cell_row rfl _ _ w.heap.size 26 _ (0, 0) _ rfl (show Blk _ _ _ _ from ((Blk.new _ _ _).alloc _).alloc _) Try.underlying26 rfl Try.size_set
      · exact Nums.listN _ _ [8, 9, 10, 11, 12, 13] (by decide) (Blk.new2 _ _ _ _ _)
      · exact ⟨_, Blk.new2 _ _ _ _ _⟩
      · exact (((Fr.refl _ w).alloc _).alloc _).alloc _

set_option maxHeartbeats 1000000 in
/-- Two sets that are alike. -/
theorem rsame13_self (b b' : Nat) (L : List Nat) (D S : Int) (w : World) (h : Nums w (some ⟨b, 0, none⟩) L.length L.length (listN L) b) (h' : Nums w (some ⟨b', 0, none⟩) L.length L.length (listN L) b') (hL : L.length ≤ 1000) :
    Calls Try.prog 6 #[.agg #[.slice (some ⟨b, 0, none⟩) L.length L.length, .int .i64 D, .int .i64 S], .agg #[.slice (some ⟨b', 0, none⟩) L.length L.length, .int .i64 D, .int .i64 S]] w fun e w' => e = .returned (.bool true) ∧ Fr (fun _ => False) w w' := by
  obtain ⟨n, hn⟩ : ∃ n, L.length = n := ⟨_, rfl⟩
  obtain ⟨V, hV⟩ : ∃ V, listN L = V := ⟨_, rfl⟩
  rw [hn, hV] at h h'
  rw [hn] at hL ⊢
  clear hn hV
  have hnI : (n : Int) ≤ 1000 := by omega
  obtain ⟨W, hW⟩ : ∃ W, W = (w.alloc (.cells #[.slice (some ⟨b, 0, none⟩) n n, .int .i64 D, .int .i64 S] 26)).alloc (.cells #[.slice (some ⟨b', 0, none⟩) n n, .int .i64 D, .int .i64 S] 26) := ⟨_, rfl⟩
  have F0 : Fr (fun _ => False) w W := by rw [hW]; exact ((Fr.refl _ w).alloc _).alloc _
  have O0 : Blk W w.heap.size #[.slice (some ⟨b, 0, none⟩) n n, .int .i64 D, .int .i64 S] 26 := by rw [hW]; exact (Blk.new _ _ _).alloc _
  have O1 : Blk W (w.heap.size + 1) #[.slice (some ⟨b', 0, none⟩) n n, .int .i64 D, .int .i64 S] 26 := by
    rw [hW]; simpa using Blk.new (w.alloc (.cells #[.slice (some ⟨b, 0, none⟩) n n, .int .i64 D, .int .i64 S] 26)) #[.slice (some ⟨b', 0, none⟩) n n, .int .i64 D, .int .i64 S] 26
  have HQ : Hid (∀ W1, Fr (fun _ => False) W W1 → W1.cell? ⟨w.heap.size, 0, none⟩ = some (.slice (some ⟨b, 0, none⟩) n n) ∧ W1.cell? ⟨w.heap.size + 1, 0, none⟩ = some (.slice (some ⟨b', 0, none⟩) n n)) := fun W1 f => by
    have a1 := O0.fr f (fun h => h)
    have a2 := O1.fr f (fun h => h)
    exact ⟨by rw [a1.cell]; rfl, by rw [a2.cell]; rfl⟩
  have HC : Hid (∀ W1, Fr (fun _ => False) W W1 → ∀ k, k < n → W1.cell? ⟨b, k, none⟩ = some (.int .i64 (V k)) ∧ W1.cell? ⟨b', k, none⟩ = some (.int .i64 (V k))) := fun W1 f k hk => by
    obtain ⟨o1, e1, c1⟩ := (h.quiet (F0.trans' f)).at' (by omega)
    obtain ⟨o2, e2, c2⟩ := (h'.quiet (F0.trans' f)).at' (by omega)
    simp at e1 e2
    subst e1 e2
    have x := c1 k hk
    have y := c2 k hk
    rw [Nat.zero_add] at x y
    exact ⟨x, y⟩
  have HW := hid hW
  have HF0 := hid F0
  have x0 : W.cell? ⟨w.heap.size, 0, none⟩ = some (.slice (some ⟨b, 0, none⟩) n n) := by rw [O0.cell]; rfl
  have x1 : W.cell? ⟨w.heap.size, 1, none⟩ = some (.int .i64 D) := by rw [O0.cell]; rfl
  have x2 : W.cell? ⟨w.heap.size, 2, none⟩ = some (.int .i64 S) := by rw [O0.cell]; rfl
  have y0 : W.cell? ⟨w.heap.size + 1, 0, none⟩ = some (.slice (some ⟨b', 0, none⟩) n n) := by rw [O1.cell]; rfl
  have y1 : W.cell? ⟨w.heap.size + 1, 1, none⟩ = some (.int .i64 D) := by rw [O1.cell]; rfl
  have y2 : W.cell? ⟨w.heap.size + 1, 2, none⟩ = some (.int .i64 S) := by rw [O1.cell]; rfl
  rw [hW] at x0 x1 x2 y0 y1 y2
  clear hW O0 O1 F0 h h'
  go_enter Try.func6, Try.ntmps6
  go_wp2
  rw [← HW.out]
  clear x0 x1 x2 y0 y1 y2
  go_loopw [30] (fun i wr => ∃ k : Nat, k ≤ n ∧ i = .int .i64 (k : Int) ∧ Fr (fun _ => False) W wr) (fun i _ => n - (intOf i).toNat)
  case atStart => exact ⟨0, Nat.zero_le _, rfl, Fr.refl _ _⟩
  case round =>
    obtain ⟨k, hk, rfl, F⟩ := hrel
    by_cases hlt : k < n
    · have hki : (k : Int) < (n : Int) := by omega
      obtain ⟨q1, q2⟩ := HQ.out wr F
      obtain ⟨v1, v2⟩ := HC.out wr F k hlt
      generalize V k = z at v1 v2
      have HF := hid F
      clear F
      go_wp2
      go_quiet (fail)
      go_wp2
      go_roundw
      case rel => exact ⟨k + 1, by omega, by go_num, HF.out.drewN _⟩
      case measure => simp [intOf]; omega
    · have hki : ¬ (k : Int) < (n : Int) := by omega
      have HF := hid F
      clear F
      go_wp2
      go_ret
      exact ⟨rfl, HF0.out.trans' HF.out⟩
end Go.Proofs.Ytkndnibmgohcaaa
