/-
  NearAhead: the walk.
-/
import Derived.BigQuiet
import Derived.Test.YtkndnibmgohcaaaFirst13
import Derived.Test.YtkndnibmgohcaaaRef13
import Derived.Test.YtkndnibmgohcaaaRef7A
import Derived.Test.YtkndnibmgohcaaaCopyE
namespace Go.Proofs.Ytkndnibmgohcaaa
open Go.RowKit

theorem umod13 (k : Int) (x : Nat) (hx : 1 ≤ x) : ∃ i : Nat, i < x ∧ (IntKind.u64.wrap k).tmod (x : Int) = (i : Int) := by
  rw [IntKind.wrap_u64, Int.tmod_eq_emod_of_nonneg (Int.emod_nonneg _ (by decide))]
  have h0 := Int.emod_nonneg (k % 18446744073709551616) (show (x : Int) ≠ 0 by omega)
  have h1 := Int.emod_lt_of_pos (k % 18446744073709551616) (show (0 : Int) < x by omega)
  exact ⟨(k % 18446744073709551616 % (x : Int)).toNat, by omega, by omega⟩

set_option maxHeartbeats 1000000 in
theorem ahead13_long (X Y : Int) (a : Option Addr) (n cap : Nat) (X' Y' : Int) (a' : Option Addr) (n' cap' : Nat) (k0 k1 k2 k3 : Int) (w : World) (hn : 2000 < n) :
    Calls Try.prog 4 #[.agg #[.int .i64 X, .int .i64 Y, .slice a n cap], .agg #[.int .i64 X', .int .i64 Y', .slice a' n' cap'], .agg #[.int .i64 k0, .int .i64 k1, .int .i64 k2, .int .i64 k3]] w fun e w' => e = .returned (.bool true) ∧ Below w.heap.size w w' := by
  obtain ⟨W, hW⟩ : ∃ W, W = ((w.alloc (.cells #[.int .i64 X, .int .i64 Y, .slice a n cap] 31)).alloc (.cells #[.int .i64 X', .int .i64 Y', .slice a' n' cap'] 31)).alloc (.cells #[.int .i64 k0, .int .i64 k1, .int .i64 k2, .int .i64 k3] 32) := ⟨_, rfl⟩
  have F0 : Fr (fun _ => False) w W := by rw [hW]; exact (((Fr.refl _ w).alloc _).alloc _).alloc _
  have P0 : Blk W w.heap.size #[.int .i64 X, .int .i64 Y, .slice a n cap] 31 := by rw [hW]; exact ((Blk.new _ _ _).alloc _).alloc _
  have Q0 : Blk W (w.heap.size + 1) #[.int .i64 X', .int .i64 Y', .slice a' n' cap'] 31 := by
    rw [hW]
    have := (Blk.new (w.alloc (.cells #[.int .i64 X, .int .i64 Y, .slice a n cap] 31)) #[.int .i64 X', .int .i64 Y', .slice a' n' cap'] 31).alloc (.cells #[.int .i64 k0, .int .i64 k1, .int .i64 k2, .int .i64 k3] 32)
    simpa using this
  have H0 : Blk W (w.heap.size + 2) #[.int .i64 k0, .int .i64 k1, .int .i64 k2, .int .i64 k3] 32 := by
    rw [hW]
    have := Blk.new ((w.alloc (.cells #[.int .i64 X, .int .i64 Y, .slice a n cap] 31)).alloc (.cells #[.int .i64 X', .int .i64 Y', .slice a' n' cap'] 31)) #[.int .i64 k0, .int .i64 k1, .int .i64 k2, .int .i64 k3] 32
    simpa using this
  have HP : Hid (∀ W1, Fr (fun _ => False) W W1 → W1.cell? ⟨w.heap.size, 0, none⟩ = some (.int .i64 X) ∧ W1.cell? ⟨w.heap.size, 1, none⟩ = some (.int .i64 Y) ∧ W1.cell? ⟨w.heap.size, 2, none⟩ = some (.slice a n cap)) := fun W1 f => by
    have h2 := P0.fr f (fun h => h)
    exact ⟨by rw [h2.cell]; rfl, by rw [h2.cell]; rfl, by rw [h2.cell]; rfl⟩
  have HQ : Hid (∀ W1, Fr (fun _ => False) W W1 → W1.cell? ⟨w.heap.size + 1, 0, none⟩ = some (.int .i64 X') ∧ W1.cell? ⟨w.heap.size + 1, 1, none⟩ = some (.int .i64 Y') ∧ W1.cell? ⟨w.heap.size + 1, 2, none⟩ = some (.slice a' n' cap')) := fun W1 f => by
    have h2 := Q0.fr f (fun h => h)
    exact ⟨by rw [h2.cell]; rfl, by rw [h2.cell]; rfl, by rw [h2.cell]; rfl⟩
  have HK : Hid (∀ W1, Fr (fun _ => False) W W1 → W1.cell? ⟨w.heap.size + 2, 0, none⟩ = some (.int .i64 k0) ∧ W1.cell? ⟨w.heap.size + 2, 1, none⟩ = some (.int .i64 k1) ∧ W1.cell? ⟨w.heap.size + 2, 2, none⟩ = some (.int .i64 k2) ∧ W1.cell? ⟨w.heap.size + 2, 3, none⟩ = some (.int .i64 k3)) := fun W1 f => by
    have h2 := H0.fr f (fun h => h)
    exact ⟨by rw [h2.cell]; rfl, by rw [h2.cell]; rfl, by rw [h2.cell]; rfl, by rw [h2.cell]; rfl⟩
  have HW := hid hW
  have HF0 := hid F0
  clear hW P0 Q0 H0 F0
  have hnI : (2000 : Int) < (n : Int) := by omega
  go_enter Try.func4, Try.ntmps4
  go_wp2_with fail
  rw [← HW.out]
  refine (first13_any W).mono ?_
  rintro e w1 ⟨rfl, f1⟩
  obtain ⟨p0, p1, p2⟩ := HP.out w1 f1
  go_wp2
  go_ret
  exact ⟨rfl, (HF0.out.trans' f1).below (Nat.le_refl _) (fun _ _ h => h)⟩

set_option maxHeartbeats 1000000 in
theorem ahead13_bad (X Y : Int) (a : Option Addr) (n cap : Nat) (X' Y' : Int) (a' : Option Addr) (n' cap' : Nat) (k0 k1 k2 k3 : Int) (w : World) (hn : n ≤ 2000) (hR : rightP X Y n = false) :
    Calls Try.prog 4 #[.agg #[.int .i64 X, .int .i64 Y, .slice a n cap], .agg #[.int .i64 X', .int .i64 Y', .slice a' n' cap'], .agg #[.int .i64 k0, .int .i64 k1, .int .i64 k2, .int .i64 k3]] w fun e w' => e = .returned (.bool true) ∧ Below w.heap.size w w' := by
  obtain ⟨W, hW⟩ : ∃ W, W = ((w.alloc (.cells #[.int .i64 X, .int .i64 Y, .slice a n cap] 31)).alloc (.cells #[.int .i64 X', .int .i64 Y', .slice a' n' cap'] 31)).alloc (.cells #[.int .i64 k0, .int .i64 k1, .int .i64 k2, .int .i64 k3] 32) := ⟨_, rfl⟩
  have F0 : Fr (fun _ => False) w W := by rw [hW]; exact (((Fr.refl _ w).alloc _).alloc _).alloc _
  have P0 : Blk W w.heap.size #[.int .i64 X, .int .i64 Y, .slice a n cap] 31 := by rw [hW]; exact ((Blk.new _ _ _).alloc _).alloc _
  have Q0 : Blk W (w.heap.size + 1) #[.int .i64 X', .int .i64 Y', .slice a' n' cap'] 31 := by
    rw [hW]
    have := (Blk.new (w.alloc (.cells #[.int .i64 X, .int .i64 Y, .slice a n cap] 31)) #[.int .i64 X', .int .i64 Y', .slice a' n' cap'] 31).alloc (.cells #[.int .i64 k0, .int .i64 k1, .int .i64 k2, .int .i64 k3] 32)
    simpa using this
  have H0 : Blk W (w.heap.size + 2) #[.int .i64 k0, .int .i64 k1, .int .i64 k2, .int .i64 k3] 32 := by
    rw [hW]
    have := Blk.new ((w.alloc (.cells #[.int .i64 X, .int .i64 Y, .slice a n cap] 31)).alloc (.cells #[.int .i64 X', .int .i64 Y', .slice a' n' cap'] 31)) #[.int .i64 k0, .int .i64 k1, .int .i64 k2, .int .i64 k3] 32
    simpa using this
  have HP : Hid (∀ W1, Fr (fun _ => False) W W1 → W1.cell? ⟨w.heap.size, 0, none⟩ = some (.int .i64 X) ∧ W1.cell? ⟨w.heap.size, 1, none⟩ = some (.int .i64 Y) ∧ W1.cell? ⟨w.heap.size, 2, none⟩ = some (.slice a n cap)) := fun W1 f => by
    have h2 := P0.fr f (fun h => h)
    exact ⟨by rw [h2.cell]; rfl, by rw [h2.cell]; rfl, by rw [h2.cell]; rfl⟩
  have HQ : Hid (∀ W1, Fr (fun _ => False) W W1 → W1.cell? ⟨w.heap.size + 1, 0, none⟩ = some (.int .i64 X') ∧ W1.cell? ⟨w.heap.size + 1, 1, none⟩ = some (.int .i64 Y') ∧ W1.cell? ⟨w.heap.size + 1, 2, none⟩ = some (.slice a' n' cap')) := fun W1 f => by
    have h2 := Q0.fr f (fun h => h)
    exact ⟨by rw [h2.cell]; rfl, by rw [h2.cell]; rfl, by rw [h2.cell]; rfl⟩
  have HK : Hid (∀ W1, Fr (fun _ => False) W W1 → W1.cell? ⟨w.heap.size + 2, 0, none⟩ = some (.int .i64 k0) ∧ W1.cell? ⟨w.heap.size + 2, 1, none⟩ = some (.int .i64 k1) ∧ W1.cell? ⟨w.heap.size + 2, 2, none⟩ = some (.int .i64 k2) ∧ W1.cell? ⟨w.heap.size + 2, 3, none⟩ = some (.int .i64 k3)) := fun W1 f => by
    have h2 := H0.fr f (fun h => h)
    exact ⟨by rw [h2.cell]; rfl, by rw [h2.cell]; rfl, by rw [h2.cell]; rfl, by rw [h2.cell]; rfl⟩
  have HW := hid hW
  have HF0 := hid F0
  clear hW P0 Q0 H0 F0
  have hnI : ¬ (2000 : Int) < (n : Int) := by omega
  have hnI' : decide ((2000 : Int) < (n : Int)) = false := decide_eq_false hnI
  have HR := hid (rright_any X Y a n cap)
  rw [hR] at HR
  clear hn hR
  go_enter Try.func4, Try.ntmps4
  go_wp2_with fail
  rw [← HW.out]
  refine (first13_any W).mono ?_
  rintro e w1 ⟨rfl, f1⟩
  obtain ⟨p0, p1, p2⟩ := HP.out w1 f1
  go_wp2_with fail
  refine (HR.out _).mono ?_
  rintro e w2 ⟨rfl, f2⟩
  go_wp2
  go_ret
  exact ⟨rfl, (HF0.out.trans' (f1.trans' f2)).below (Nat.le_refl _) (fun _ _ h => h)⟩

/-- The numbers from place s up to k laid over. -/
def laidV (V : Nat → Int) (s k : Nat) (z : Int) : Nat → Int := fun j => if s ≤ j ∧ j < k then z else V j
theorem laidV_none (V : Nat → Int) (s : Nat) (z : Int) : laidV V s s z = V := by
  funext j
  exact if_neg (by omega)
theorem laidV_set (V : Nat → Int) {s k : Nat} (h : s ≤ k) (z : Int) : (fun j => if j = k then z else laidV V s k z j) = laidV V s (k + 1) z := by
  funext j
  unfold laidV
  by_cases e : j = k
  · rw [if_pos e, if_pos (by omega)]
  · rw [if_neg e]
    by_cases e2 : s ≤ j ∧ j < k
    · rw [if_pos e2, if_pos (by omega)]
    · rw [if_neg e2, if_neg (by omega)]
theorem laidV_ahead (V : Nat → Int) (s k : Nat) (z : Int) : ∀ j, j < s → V j = laidV V s k z j := fun j hj => (if_neg (by omega)).symm

set_option maxHeartbeats 4000000 in
set_option maxRecDepth 100000 in
theorem ahead13_go (x y : Nat) (a : Option Addr) (n cap : Nat) (V : Nat → Int) (b : Nat) (X' Y' : Int) (a' : Option Addr) (n' cap' : Nat) (V' : Nat → Int) (b' : Nat) (k0 k1 k2 k3 : Int) (w : World) (h : Nums w a n cap V b) (h' : Nums w a' n' cap' V' b') (hn : n ≤ 2000) (hx : 1 ≤ x) (hx' : x ≤ 1024) (hy : 1 ≤ y) (hy' : y ≤ 1024) (hxy : n = x * y) :
    Calls Try.prog 4 #[.agg #[.int .i64 (x : Int), .int .i64 (y : Int), .slice a n cap], .agg #[.int .i64 X', .int .i64 Y', .slice a' n' cap'], .agg #[.int .i64 k0, .int .i64 k1, .int .i64 k2, .int .i64 k3]] w fun e w' => e = .returned (.bool true) ∧ Below w.heap.size w w' := by
  obtain ⟨X, hX⟩ : ∃ X : Int, X = (x : Int) := ⟨_, rfl⟩
  obtain ⟨Y, hY⟩ : ∃ Y : Int, Y = (y : Int) := ⟨_, rfl⟩
  rw [← hX, ← hY]
  obtain ⟨W, hW⟩ : ∃ W, W = ((w.alloc (.cells #[.int .i64 X, .int .i64 Y, .slice a n cap] 31)).alloc (.cells #[.int .i64 X', .int .i64 Y', .slice a' n' cap'] 31)).alloc (.cells #[.int .i64 k0, .int .i64 k1, .int .i64 k2, .int .i64 k3] 32) := ⟨_, rfl⟩
  have F0 : Fr (fun _ => False) w W := by rw [hW]; exact (((Fr.refl _ w).alloc _).alloc _).alloc _
  have P0 : Blk W w.heap.size #[.int .i64 X, .int .i64 Y, .slice a n cap] 31 := by rw [hW]; exact ((Blk.new _ _ _).alloc _).alloc _
  have Q0 : Blk W (w.heap.size + 1) #[.int .i64 X', .int .i64 Y', .slice a' n' cap'] 31 := by
    rw [hW]
    have := (Blk.new (w.alloc (.cells #[.int .i64 X, .int .i64 Y, .slice a n cap] 31)) #[.int .i64 X', .int .i64 Y', .slice a' n' cap'] 31).alloc (.cells #[.int .i64 k0, .int .i64 k1, .int .i64 k2, .int .i64 k3] 32)
    simpa using this
  have H0 : Blk W (w.heap.size + 2) #[.int .i64 k0, .int .i64 k1, .int .i64 k2, .int .i64 k3] 32 := by
    rw [hW]
    have := Blk.new ((w.alloc (.cells #[.int .i64 X, .int .i64 Y, .slice a n cap] 31)).alloc (.cells #[.int .i64 X', .int .i64 Y', .slice a' n' cap'] 31)) #[.int .i64 k0, .int .i64 k1, .int .i64 k2, .int .i64 k3] 32
    simpa using this
  have HP : Hid (∀ W1, Fr (fun _ => False) W W1 → W1.cell? ⟨w.heap.size, 0, none⟩ = some (.int .i64 X) ∧ W1.cell? ⟨w.heap.size, 1, none⟩ = some (.int .i64 Y) ∧ W1.cell? ⟨w.heap.size, 2, none⟩ = some (.slice a n cap)) := fun W1 f => by
    have h2 := P0.fr f (fun h => h)
    exact ⟨by rw [h2.cell]; rfl, by rw [h2.cell]; rfl, by rw [h2.cell]; rfl⟩
  have HQ : Hid (∀ W1, Fr (fun _ => False) W W1 → W1.cell? ⟨w.heap.size + 1, 0, none⟩ = some (.int .i64 X') ∧ W1.cell? ⟨w.heap.size + 1, 1, none⟩ = some (.int .i64 Y') ∧ W1.cell? ⟨w.heap.size + 1, 2, none⟩ = some (.slice a' n' cap')) := fun W1 f => by
    have h2 := Q0.fr f (fun h => h)
    exact ⟨by rw [h2.cell]; rfl, by rw [h2.cell]; rfl, by rw [h2.cell]; rfl⟩
  have HK : Hid (∀ W1, Fr (fun _ => False) W W1 → W1.cell? ⟨w.heap.size + 2, 0, none⟩ = some (.int .i64 k0) ∧ W1.cell? ⟨w.heap.size + 2, 1, none⟩ = some (.int .i64 k1) ∧ W1.cell? ⟨w.heap.size + 2, 2, none⟩ = some (.int .i64 k2) ∧ W1.cell? ⟨w.heap.size + 2, 3, none⟩ = some (.int .i64 k3)) := fun W1 f => by
    have h2 := H0.fr f (fun h => h)
    exact ⟨by rw [h2.cell]; rfl, by rw [h2.cell]; rfl, by rw [h2.cell]; rfl, by rw [h2.cell]; rfl⟩
  have HW := hid hW
  have HF0 := hid F0
  clear hW P0 Q0 H0 F0
  have hnI : ¬ (2000 : Int) < (n : Int) := by omega
  have hnI' : decide ((2000 : Int) < (n : Int)) = false := decide_eq_false hnI
  have hf : a = none → n = 0 ∧ cap = 0 := fun e => by
    obtain ⟨off, e2, _⟩ := h.at' (by have := Nat.mul_pos (show 0 < x by omega) (show 0 < y by omega); omega)
    rw [e] at e2; cases e2
  have HR := hid (rright_any X Y a n cap)
  rw [show rightP X Y n = true by rw [hX, hY, hxy]; exact rightP_of hx hx' hy hy'] at HR
  obtain ⟨i, hi, hiI⟩ := umod13 k0 x hx
  obtain ⟨j, hj, hjI⟩ := umod13 k1 y hy
  obtain ⟨o, ho, hoI'⟩ := umod13 k2 4 (by omega)
  have hoI : (IntKind.u64.wrap k2).tmod 4 = (o : Int) := hoI'
  clear hoI'
  obtain ⟨L, hL⟩ : ∃ L, followL (aboveZ X' Y' n' V' i j) (besideZ X Y n V i j) = L := ⟨_, rfl⟩
  obtain ⟨S, hS⟩ : ∃ S : Int, (signC (signZ X Y n V o i j) : Int) = S := ⟨_, rfl⟩
  have HLl : Hid (L.length = 6) := by show _ = _; rw [← hL]; exact followL_length _ _
  have HLs : Hid (∀ k, k < 6 → L.getD k 0 ≤ 13) := fun k hk => followL_small (aboveZ X' Y' n' V' i j) (besideZ X Y n V i j) _ (by rw [hL, List.getD, List.getElem?_eq_getElem (by rw [HLl.out]; exact hk)]; exact List.getElem_mem _)
  have HOf : Hid (∀ W1, Fr (fun _ => False) W W1 → Calls Try.prog 11 #[.agg #[.int .i64 X, .int .i64 Y, .slice a n cap], .agg #[.int .i64 X', .int .i64 Y', .slice a' n' cap'], .int .i64 (o : Int), .int .i64 (i : Int), .int .i64 (j : Int)] W1 fun e w' => SetMade W1 w' e L 17 S) := fun W1 f => by
    have := nof_any X Y a n cap V b X' Y' a' n' cap' V' b' (o : Int) i j W1 (h.quiet (HF0.out.trans' f)) (h'.quiet (HF0.out.trans' f)) (by omega) (by omega)
    rw [hL, hS] at this
    exact this
  obtain ⟨s, hs⟩ : ∃ s, j * x = s := ⟨_, rfl⟩
  have hsn : s + i < n := by rw [hxy, ← hs]; exact flat_lt hi hj
  have HOf2 : Hid (∀ (W1 : World) (a2 : Option Addr) (cap2 b2 k : Nat), Fr (fun _ => False) W W1 → Nums W1 a2 n cap2 (laidV V (s + i) k k3) b2 → Calls Try.prog 11 #[.agg #[.int .i64 X, .int .i64 Y, .slice a2 n cap2], .agg #[.int .i64 X', .int .i64 Y', .slice a' n' cap'], .int .i64 (o : Int), .int .i64 (i : Int), .int .i64 (j : Int)] W1 fun e w' => SetMade W1 w' e L 17 S) := fun W1 a2 cap2 b2 k f h2 => by
    have := nof_any X Y a2 n cap2 _ b2 X' Y' a' n' cap' V' b' (o : Int) i j W1 h2 (h'.quiet (HF0.out.trans' f)) (by omega) (by omega)
    have e1 : besideZ X Y n (laidV V (s + i) k k3) i j = besideZ X Y n V i j := by rw [hX, hY]; exact (besideZ_ahead hj (by rw [hs]; exact laidV_ahead V (s + i) k k3)).symm
    have e2 : signZ X Y n (laidV V (s + i) k k3) o i j = signZ X Y n V o i j := by rw [hX, hY]; exact (signZ_ahead (o : Int) hj (by rw [hs]; exact laidV_ahead V (s + i) k k3)).symm
    rw [e1, e2, hL, hS] at this
    exact this
  have hsI : (j : Int) * X = (s : Int) := by rw [hX, ← hs, Int.natCast_mul]
  have HNm := hid h
  have HNf := hid hf
  rw [← hX] at hiI
  rw [← hY] at hjI
  have hX0 : (X == 0) = false := by simp; omega
  have hY0 : (Y == 0) = false := by simp; omega
  have bX : 1 ≤ X := by omega
  have bX' : X ≤ 1024 := by omega
  have bY : 1 ≤ Y := by omega
  have bY' : Y ≤ 1024 := by omega
  have bi : (i : Int) < 1024 := by omega
  have bj : (j : Int) < 1024 := by omega
  obtain ⟨t, ht⟩ : ∃ t, s + i = t := ⟨_, rfl⟩
  have htI : (s : Int) + (i : Int) = (t : Int) := by omega
  rw [ht] at HOf2 hsn
  have bs : (s : Int) ≤ 1048576 := by omega
  have hnp : 0 < n := by omega
  have boI : (o : Int) < 4 := by omega
  clear h h' ht hX hY hL hS hs hf hxy hx hx' hy hy' hi hj
  go_enter Try.func4, Try.ntmps4
  go_wp2_with fail
  rw [← HW.out]
  refine (first13_any W).mono ?_
  rintro e w1 ⟨rfl, f1⟩
  obtain ⟨p0, p1, p2⟩ := HP.out w1 f1
  go_wp2_with fail
  refine (HR.out _).mono ?_
  rintro e w2 ⟨rfl, f2'⟩
  have f2 := f1.trans' f2'
  clear p0 p1 p2 f1 f2' HR
  obtain ⟨p0, p1, p2⟩ := HP.out w2 f2
  obtain ⟨u0, u1, u2, u3⟩ := HK.out w2 f2
  go_wp2
  go_quiet (fail)
  obtain ⟨w3, hw3⟩ : ∃ w3, w3 = w2.drewN nq := ⟨_, rfl⟩
  have f3 : Fr (fun _ => False) W w3 := by rw [hw3]; exact f2.drewN _
  rw [← hw3]
  clear p0 p1 p2 u0 u1 u2 u3 f2 hw3 HK hiI hjI hoI
  obtain ⟨p0, p1, p2⟩ := HP.out w3 f3
  obtain ⟨q0, q1, q2⟩ := HQ.out w3 f3
  go_wp2_with fail
  refine (HOf.out w3 f3).mono ?_
  rintro e w4 ⟨bw, rfl, nw, ⟨lw, iw⟩, f4'⟩
  rw [HLl.out] at nw ⊢
  have f4 := f3.trans' f4'
  clear p0 p1 p2 q0 q1 q2 f3 f4' HOf
  obtain ⟨W5, hW5⟩ : ∃ W5, W5 = w4.alloc (.cells #[.slice (some ⟨bw, 0, none⟩) 6 6, .int .i64 17, .int .i64 S] 26) := ⟨_, rfl⟩
  obtain ⟨bt, hbt⟩ : ∃ bt, bt = w4.heap.size := ⟨_, rfl⟩
  have f5 : Fr (fun _ => False) W W5 := by rw [hW5]; exact f4.alloc _
  have S5 : Blk W5 bt #[.slice (some ⟨bw, 0, none⟩) 6 6, .int .i64 17, .int .i64 S] 26 := by rw [hW5, hbt]; exact Blk.new _ _ _
  have N5 : Nums W5 (some ⟨bw, 0, none⟩) 6 6 (listN L) bw := by rw [hW5]; exact nw.quiet ((Fr.refl _ w4).alloc _)
  have HS5 := hid S5
  have HN5 := hid N5
  have lw5 : bw < W5.heap.size := N5.lt (by omega)
  have lt5 : bt < W5.heap.size := S5.lt
  have HF5 := hid f5
  have HQ8 : Hid (∀ wq, Fr (fun _ => False) W5.drew wq → (wq.cell? ⟨w.heap.size, 0, none⟩ = some (.int .i64 X) ∧ wq.cell? ⟨w.heap.size, 1, none⟩ = some (.int .i64 Y) ∧ wq.cell? ⟨w.heap.size, 2, none⟩ = some (.slice a n cap)) ∧ Nums wq a n cap V b) := fun wq f => ⟨HP.out wq (HF5.out.trans' ((Fr.refl _ W5).drew.trans' f)), HNm.out.quiet (HF0.out.trans' (HF5.out.trans' ((Fr.refl _ W5).drew.trans' f)))⟩
  have HW5 := hid hW5
  have HBT := hid hbt
  clear hW5 hbt f4 f5 S5 N5 nw iw lw HNm
  go_wp2
  rw [← HBT.out, ← HW5.out]
  refine weaveST 10 [.eq (Value.pointer (some ⟨w.heap.size, 0, none⟩)), .eq (Value.int .i64 X), .eq (Value.pointer (some ⟨w.heap.size, 1, none⟩)), .eq (Value.int .i64 Y), .emp W5.heap.size, .eq (Value.pointer (some ⟨w.heap.size, 2, none⟩)), .eq (Value.slice a n cap), .own W5.heap.size n V, .ownP X Y W5.heap.size n V, .box W5.heap.size #[.int .i64 0, .int .i64 0, .slice none 0 0] 31] (by kernel_rfl) (by kernel_rfl) ?obls ?tail
  case obls =>
    simp only [List.take_succ_cons, List.take_zero]
    refine ⟨?_, ?_, ?_, ?_, ?_, ?_, ?_, ?_, ?_, ?_, trivial⟩
    · intro vals wq f h
      simp only [fillA, fillT, List.setIfInBounds_toArray, List.set_cons_succ, List.set_cons_zero, Option.getD_some, Nat.zero_add, Nat.reduceAdd]
      obtain ⟨⟨p0, p1, p2⟩, nP'⟩ := HQ8.out wq f
      have nP := hid nP'
      clear nP'
      clear h
      go_wp2
      exact ⟨rfl, rfl, _, rfl, Fr.refl _ _, rfl⟩
    · intro vals wq f h
      simp only [fillA, fillT, List.setIfInBounds_toArray, List.set_cons_succ, List.set_cons_zero, Option.getD_some, Nat.zero_add, Nat.reduceAdd]
      have h0 : vals 0 = Value.pointer (some ⟨w.heap.size, 0, none⟩) := h 0 (by kernel_rfl)
      rw [h0]
      obtain ⟨⟨p0, p1, p2⟩, nP'⟩ := HQ8.out wq f
      have nP := hid nP'
      clear nP'
      clear h
      go_wp2
      exact ⟨rfl, rfl, _, rfl, Fr.refl _ _, rfl⟩
    · intro vals wq f h
      simp only [fillA, fillT, List.setIfInBounds_toArray, List.set_cons_succ, List.set_cons_zero, Option.getD_some, Nat.zero_add, Nat.reduceAdd]
      obtain ⟨⟨p0, p1, p2⟩, nP'⟩ := HQ8.out wq f
      have nP := hid nP'
      clear nP'
      clear h
      go_wp2
      exact ⟨rfl, rfl, _, rfl, Fr.refl _ _, rfl⟩
    · intro vals wq f h
      simp only [fillA, fillT, List.setIfInBounds_toArray, List.set_cons_succ, List.set_cons_zero, Option.getD_some, Nat.zero_add, Nat.reduceAdd]
      have h2 : vals 2 = Value.pointer (some ⟨w.heap.size, 1, none⟩) := h 2 (by kernel_rfl)
      rw [h2]
      obtain ⟨⟨p0, p1, p2⟩, nP'⟩ := HQ8.out wq f
      have nP := hid nP'
      clear nP'
      clear h
      go_wp2
      exact ⟨rfl, rfl, _, rfl, Fr.refl _ _, rfl⟩
    · intro vals wq f h
      simp only [fillA, fillT, List.setIfInBounds_toArray, List.set_cons_succ, List.set_cons_zero, Option.getD_some, Nat.zero_add, Nat.reduceAdd]
      obtain ⟨⟨p0, p1, p2⟩, nP'⟩ := HQ8.out wq f
      have nP := hid nP'
      clear nP'
      clear h
      have hsz := f.size
      go_wp2
      exact ⟨rfl, rfl, _, rfl, (Fr.refl _ wq).alloc _, _, rfl, Blk.new _ _ _, hsz⟩
    · intro vals wq f h
      simp only [fillA, fillT, List.setIfInBounds_toArray, List.set_cons_succ, List.set_cons_zero, Option.getD_some, Nat.zero_add, Nat.reduceAdd]
      obtain ⟨⟨p0, p1, p2⟩, nP'⟩ := HQ8.out wq f
      have nP := hid nP'
      clear nP'
      clear h
      go_wp2
      exact ⟨rfl, rfl, _, rfl, Fr.refl _ _, rfl⟩
    · intro vals wq f h
      simp only [fillA, fillT, List.setIfInBounds_toArray, List.set_cons_succ, List.set_cons_zero, Option.getD_some, Nat.zero_add, Nat.reduceAdd]
      have h5 : vals 5 = Value.pointer (some ⟨w.heap.size, 2, none⟩) := h 5 (by kernel_rfl)
      rw [h5]
      obtain ⟨⟨p0, p1, p2⟩, nP'⟩ := HQ8.out wq f
      have nP := hid nP'
      clear nP'
      clear h
      go_wp2
      exact ⟨rfl, rfl, _, rfl, Fr.refl _ _, rfl⟩
    · intro vals wq f h
      simp only [fillA, fillT, List.setIfInBounds_toArray, List.set_cons_succ, List.set_cons_zero, Option.getD_some, Nat.zero_add, Nat.reduceAdd]
      obtain ⟨z4, h4, n4, g4⟩ : EmpAt wq (vals 4) W5.heap.size := h 4 (by kernel_rfl)
      rw [h4]
      have h6 : vals 6 = Value.slice a n cap := h 6 (by kernel_rfl)
      rw [h6]
      obtain ⟨⟨p0, p1, p2⟩, nP'⟩ := HQ8.out wq f
      have nP := hid nP'
      clear nP'
      clear h
      have HN4 := hid n4
      clear n4
      go_wp2_with (at_builtin; refine wpList_copyE rfl _ _ rfl z4 W5.heap.size rfl HN4.out g4 a n cap V b rfl nP.out HNf.out (by omega) ?_)
      intro a7 c7 b7 w7 ol f7
      have HOL := hid ol
      clear ol
      go_wp2
      exact ⟨rfl, rfl, _, rfl, f7, _, _, _, rfl, HOL.out⟩
    · intro vals wq f h
      simp only [fillA, fillT, List.setIfInBounds_toArray, List.set_cons_succ, List.set_cons_zero, Option.getD_some, Nat.zero_add, Nat.reduceAdd]
      have h1 : vals 1 = Value.int .i64 X := h 1 (by kernel_rfl)
      rw [h1]
      have h3 : vals 3 = Value.int .i64 Y := h 3 (by kernel_rfl)
      rw [h3]
      obtain ⟨a7, c7, b7, h7, n7⟩ : OwnAt wq (vals 7) W5.heap.size n V := h 7 (by kernel_rfl)
      rw [h7]
      obtain ⟨⟨p0, p1, p2⟩, nP'⟩ := HQ8.out wq f
      have nP := hid nP'
      clear nP'
      clear h
      have HOL := hid n7
      clear n7
      go_wp2
      exact ⟨rfl, rfl, _, rfl, Fr.refl _ _, _, _, _, rfl, HOL.out⟩
    · intro vals wq f h
      simp only [fillA, fillT, List.setIfInBounds_toArray, List.set_cons_succ, List.set_cons_zero, Option.getD_some, Nat.zero_add, Nat.reduceAdd]
      obtain ⟨⟨p0, p1, p2⟩, nP'⟩ := HQ8.out wq f
      have nP := hid nP'
      clear nP'
      clear h
      have hsz := f.size
      go_wp2
      exact ⟨rfl, rfl, _, rfl, (Fr.refl _ wq).alloc _, _, rfl, Blk.new _ _ _, hsz⟩
  case tail =>
    intro vals wq f h
    simp only [List.take_succ_cons, List.take_zero, fillA, fillT, List.setIfInBounds_toArray, List.set_cons_succ, List.set_cons_zero, List.drop_succ_cons, List.drop_zero, Nat.zero_add, Nat.reduceAdd]
    obtain ⟨a8, c8, b8, h8, n8⟩ : OwnP wq (vals 8) X Y W5.heap.size n V := h 8 (by omega)
    rw [h8]
    obtain ⟨b9, h9, n9, g9⟩ : BoxAt wq (vals 9) W5.heap.size #[.int .i64 0, .int .i64 0, .slice none 0 0] 31 := h 9 (by omega)
    rw [h9]
    have f57 := (Fr.refl _ W5).drew.trans' f
    have z0 : wq.cell? ⟨b9, 0, none⟩ = some (.int .i64 0) := by rw [n9.cell]; rfl
    have z1 : wq.cell? ⟨b9, 1, none⟩ = some (.int .i64 0) := by rw [n9.cell]; rfl
    have z2 : wq.cell? ⟨b9, 2, none⟩ = some (.slice none 0 0) := by rw [n9.cell]; rfl
    have zf := n9.thaw
    obtain ⟨ea8, r8, l8⟩ := n8.row hnp
    subst ea8
    have hne : ¬ b8 = b9 := fun e => by
      obtain ⟨cs, hb, _⟩ := r8
      rw [e] at hb
      have hb9 := n9
      unfold Blk at hb hb9
      rw [hb] at hb9
      simp at hb9
    obtain ⟨W7, hW7⟩ : ∃ W7, W7 = stored3 wq b9 (.int .i64 X) (.int .i64 Y) (.slice (some ⟨b8, 0, none⟩) n c8) := ⟨_, rfl⟩
    have F57 : Fr (fun _ => False) W5 W7 := by rw [hW7]; exact f57.put3New g9 _ _ _
    have B9 : Blk W7 b9 #[.int .i64 X, .int .i64 Y, .slice (some ⟨b8, 0, none⟩) n c8] 31 := by rw [hW7]; exact n9.put3 _ _ _
    have R7 : RowC W7 b8 n V := by rw [hW7]; exact r8.fr (fr_put3 _ _ _ _ _) hne
    have hle8 : n ≤ c8 := n8.nums.le
    have hmx8 : c8 ≤ maxLen := n8.nums.most
    have HW7 : Hid (W7 = ((wq.setCell ⟨b9, 0, none⟩ (.int .i64 X)).setCell ⟨b9, 1, none⟩ (.int .i64 Y)).setCell ⟨b9, 2, none⟩ (.slice (some ⟨b8, 0, none⟩) n c8)) := hW7
    clear h h8 h9 n8 n9 r8 hW7 f f57 HQ8
    gi_wp2
    have S7 := HS5.out.fr F57 (fun h => h)
    have N7 := HN5.out.quiet F57
    have f7 := HF5.out.trans' F57
    have HS7 := hid S7
    have HN7 := hid N7
    have HF7 := hid f7
    have HB9 := hid B9
    have HMx := hid hmx8
    obtain ⟨p0, p1, p2⟩ := HP.out W7 f7
    have r2 : W7.cell? ⟨b9, 2, none⟩ = some (.slice (some ⟨b8, 0, none⟩) n c8) := by rw [B9.cell]; rfl
    have hsz7 := F57.size
    rw [← HW7.out]
    clear z0 z1 z2 zf S7 N7 f7 B9 hmx8 F57
    go_wp2
    go_loopw [13] (fun i wr => ∃ k : Nat, t ≤ k ∧ k ≤ n ∧ i = .int .i64 (k : Int) ∧ RowC wr b8 n (laidV V t k k3) ∧ Fr (fun j => j = b8) W7 wr) (fun i _ => n - (intOf i).toNat)
    case atStart => exact ⟨t, Nat.le_refl _, by omega, rfl, by rw [laidV_none]; exact R7, Fr.refl _ _⟩
    case round =>
      obtain ⟨k, hk0, hk, rfl, R, F⟩ := hrel
      clear p0 p1 p2 r2
      have B9 := HB9.out.fr F (fun e => hne e.symm)
      have r0 : wr.cell? ⟨b9, 0, none⟩ = some (.int .i64 X) := by rw [B9.cell]; rfl
      have r1 : wr.cell? ⟨b9, 1, none⟩ = some (.int .i64 Y) := by rw [B9.cell]; rfl
      have r2 : wr.cell? ⟨b9, 2, none⟩ = some (.slice (some ⟨b8, 0, none⟩) n c8) := by rw [B9.cell]; rfl
      by_cases hlt : k < n
      · have hki : (k : Int) < (n : Int) := by omega
        have ck := R.cell hlt
        have ct := R.thaw
        generalize hz : laidV V t k k3 k = z at ck
        have HR' := hid (R.set k k3)
        have HF := hid F
        clear R F B9 hz
        go_wp2
        go_roundw
        case rel =>
          refine ⟨k + 1, by omega, by omega, by go_num, ?_, HF.out.setCell (fun _ => rfl) _⟩
          have := HR'.out
          rw [laidV_set V hk0 k3] at this
          exact this
        case measure => simp [intOf]; omega
      · have hki : ¬ (k : Int) < (n : Int) := by omega
        obtain rfl : k = n := by omega
        have lt7 : bt ≠ b8 := by omega
        have lw7 : bw ≠ b8 := by omega
        have SB := HS7.out.fr F lt7
        have HN8 := hid (HN7.out.fr F (fun _ => lw7))
        have hs0 := HF0.out.size
        have hs5 := HF5.out.size
        have hsF := F.size
        have HF8 : Hid (Fr (fun _ => False) w wr) := (HF0.out.trans' HF7.out).trans F (fun i hi e => by omega)
        have HFW8 : Hid (Fr (fun _ => False) W wr) := HF7.out.trans F (fun i hi e => by omega)
        have s0 : wr.cell? ⟨bt, 0, none⟩ = some (.slice (some ⟨bw, 0, none⟩) 6 6) := by rw [SB.cell]; rfl
        have s1 : wr.cell? ⟨bt, 1, none⟩ = some (.int .i64 17) := by rw [SB.cell]; rfl
        have s2 : wr.cell? ⟨bt, 2, none⟩ = some (.int .i64 S) := by rw [SB.cell]; rfl
        have NR := R.nums hle8 HMx.out
        have HNR := hid NR
        have HSB := hid SB
        have HB9' := hid B9
        have HCL : Hid (∀ wv, Fr (fun _ => False) wr wv → ∀ k, k < 6 → wv.cell? ⟨bw, k, none⟩ = some (.int .i64 (listN L k))) := fun wv f k hk => by
          obtain ⟨o1, e1, c1⟩ := (HN8.out.quiet f).at' (by omega)
          simp at e1
          subst e1
          have x := c1 k hk
          rw [Nat.zero_add] at x
          exact x
        clear R F B9 SB NR R7
        obtain ⟨W8, rfl⟩ : ∃ W8, W8 = wr := ⟨_, rfl⟩
        go_wp2
        go_loopw [86] (fun i wv => ∃ m : Nat, m ≤ 6 ∧ i = .int .i64 (m : Int) ∧ Fr (fun _ => False) W8 wv) (fun i _ => 6 - (intOf i).toNat)
        case atStart => exact ⟨0, Nat.zero_le _, rfl, Fr.refl _ _⟩
        case round =>
          obtain ⟨m, hm, rfl, F⟩ := hrel
          clear s0 s1 s2 r0 r1 r2
          by_cases hlt2 : m < 6
          · have hmi : (m : Int) < 6 := by omega
            have cm := HCL.out wr F m hlt2
            obtain ⟨z, hz⟩ : ∃ z, listN L m = z := ⟨_, rfl⟩
            have hz0 : 0 ≤ z := by rw [← hz]; unfold listN; omega
            have hz1 : z ≤ 13 := by
              have := HLs.out m hlt2
              rw [← hz]; unfold listN; omega
            rw [hz] at cm
            have g0 : decide (z < 0) = false := decide_eq_false (by omega)
            have g1 : decide (13 < z) = false := decide_eq_false (by omega)
            have HF := hid F
            clear F hz
            go_wp2
            go_roundw
            case rel => exact ⟨m + 1, by omega, by go_num, HF.out⟩
            case measure => simp [intOf]; omega
          · have hmi : ¬ (m : Int) < 6 := by omega
            have HA18 : Hid (∀ wq, Fr (fun _ => False) wr.drew wq → (wq.cell? ⟨b9, 0, none⟩ = some (.int .i64 X) ∧ wq.cell? ⟨b9, 1, none⟩ = some (.int .i64 Y) ∧ wq.cell? ⟨b9, 2, none⟩ = some (.slice (some ⟨b8, 0, none⟩) k c8)) ∧ (wq.cell? ⟨w.heap.size + 1, 0, none⟩ = some (.int .i64 X') ∧ wq.cell? ⟨w.heap.size + 1, 1, none⟩ = some (.int .i64 Y') ∧ wq.cell? ⟨w.heap.size + 1, 2, none⟩ = some (.slice a' n' cap')) ∧ (wq.cell? ⟨bt, 0, none⟩ = some (.slice (some ⟨bw, 0, none⟩) 6 6) ∧ wq.cell? ⟨bt, 1, none⟩ = some (.int .i64 17) ∧ wq.cell? ⟨bt, 2, none⟩ = some (.int .i64 S)) ∧ Nums wq (some ⟨b8, 0, none⟩) k c8 (laidV V t k k3) b8 ∧ Nums wq (some ⟨bw, 0, none⟩) 6 6 (listN L) bw ∧ Fr (fun _ => False) W wq) := fun wq f => by
              have g := F.trans' ((Fr.refl (fun _ => False) wr).drew.trans' f)
              have x1 := HB9'.out.fr g (fun h => h)
              have x2 := HSB.out.fr g (fun h => h)
              exact ⟨⟨by rw [x1.cell]; rfl, by rw [x1.cell]; rfl, by rw [x1.cell]; rfl⟩, HQ.out wq (HFW8.out.trans' g), ⟨by rw [x2.cell]; rfl, by rw [x2.cell]; rfl, by rw [x2.cell]; rfl⟩, HNR.out.quiet g, HN8.out.quiet g, HFW8.out.trans' g⟩
            have HFe := hid (HF8.out.trans' F)
            clear F
            go_wp2
            refine weaveST 8 [.eq (Value.agg #[.int .i64 X, .int .i64 Y, .slice (some ⟨b8, 0, none⟩) k c8]), .eq (Value.agg #[.int .i64 X', .int .i64 Y', .slice a' n' cap']), .eq (Value.int .i64 (o : Int)), .eq (Value.int .i64 (i : Int)), .eq (Value.int .i64 (j : Int)), .set 0 L 17 S, .eq (Value.agg #[.slice (some ⟨bw, 0, none⟩) 6 6, .int .i64 17, .int .i64 S]), .eq (Value.bool true)] (by kernel_rfl) (by kernel_rfl) ?obls ?tail
            case obls =>
              simp only [List.take_succ_cons, List.take_zero]
              refine ⟨?_, ?_, ?_, ?_, ?_, ?_, ?_, ?_, trivial⟩
              · intro vals wq f h
                simp only [fillA, fillT, List.setIfInBounds_toArray, List.set_cons_succ, List.set_cons_zero, Option.getD_some, Nat.zero_add, Nat.reduceAdd]
                obtain ⟨⟨r0, r1, r2⟩, ⟨q0, q1, q2⟩, ⟨s0, s1, s2⟩, nr, ns, fW⟩ := HA18.out wq f
                clear h
                go_wp2
                exact ⟨rfl, rfl, _, rfl, Fr.refl _ _, rfl⟩
              · intro vals wq f h
                simp only [fillA, fillT, List.setIfInBounds_toArray, List.set_cons_succ, List.set_cons_zero, Option.getD_some, Nat.zero_add, Nat.reduceAdd]
                obtain ⟨⟨r0, r1, r2⟩, ⟨q0, q1, q2⟩, ⟨s0, s1, s2⟩, nr, ns, fW⟩ := HA18.out wq f
                clear h
                go_wp2
                exact ⟨rfl, rfl, _, rfl, Fr.refl _ _, rfl⟩
              · intro vals wq f h
                simp only [fillA, fillT, List.setIfInBounds_toArray, List.set_cons_succ, List.set_cons_zero, Option.getD_some, Nat.zero_add, Nat.reduceAdd]
                obtain ⟨⟨r0, r1, r2⟩, ⟨q0, q1, q2⟩, ⟨s0, s1, s2⟩, nr, ns, fW⟩ := HA18.out wq f
                clear h
                go_wp2
                exact ⟨rfl, rfl, _, rfl, Fr.refl _ _, rfl⟩
              · intro vals wq f h
                simp only [fillA, fillT, List.setIfInBounds_toArray, List.set_cons_succ, List.set_cons_zero, Option.getD_some, Nat.zero_add, Nat.reduceAdd]
                obtain ⟨⟨r0, r1, r2⟩, ⟨q0, q1, q2⟩, ⟨s0, s1, s2⟩, nr, ns, fW⟩ := HA18.out wq f
                clear h
                go_wp2
                exact ⟨rfl, rfl, _, rfl, Fr.refl _ _, rfl⟩
              · intro vals wq f h
                simp only [fillA, fillT, List.setIfInBounds_toArray, List.set_cons_succ, List.set_cons_zero, Option.getD_some, Nat.zero_add, Nat.reduceAdd]
                obtain ⟨⟨r0, r1, r2⟩, ⟨q0, q1, q2⟩, ⟨s0, s1, s2⟩, nr, ns, fW⟩ := HA18.out wq f
                clear h
                go_wp2
                exact ⟨rfl, rfl, _, rfl, Fr.refl _ _, rfl⟩
              · intro vals wq f h
                simp only [fillA, fillT, List.setIfInBounds_toArray, List.set_cons_succ, List.set_cons_zero, Option.getD_some, Nat.zero_add, Nat.reduceAdd]
                have h0 : vals 0 = Value.agg #[.int .i64 X, .int .i64 Y, .slice (some ⟨b8, 0, none⟩) k c8] := h 0 (by kernel_rfl)
                rw [h0]
                have h1 : vals 1 = Value.agg #[.int .i64 X', .int .i64 Y', .slice a' n' cap'] := h 1 (by kernel_rfl)
                rw [h1]
                have h2 : vals 2 = Value.int .i64 (o : Int) := h 2 (by kernel_rfl)
                rw [h2]
                have h3 : vals 3 = Value.int .i64 (i : Int) := h 3 (by kernel_rfl)
                rw [h3]
                have h4 : vals 4 = Value.int .i64 (j : Int) := h 4 (by kernel_rfl)
                rw [h4]
                obtain ⟨⟨r0, r1, r2⟩, ⟨q0, q1, q2⟩, ⟨s0, s1, s2⟩, nr, ns, fW⟩ := HA18.out wq f
                clear h
                go_wp2_with fail
                refine (HOf2.out wq _ _ _ _ fW nr).mono ?_
                rintro e w6 hS
                obtain ⟨v6, rfl, s6, f6⟩ := hS.at' (B := 0) (Nat.zero_le _)
                clear hS
                go_wp2
                exact ⟨rfl, rfl, _, rfl, f6, s6⟩
              · intro vals wq f h
                simp only [fillA, fillT, List.setIfInBounds_toArray, List.set_cons_succ, List.set_cons_zero, Option.getD_some, Nat.zero_add, Nat.reduceAdd]
                obtain ⟨⟨r0, r1, r2⟩, ⟨q0, q1, q2⟩, ⟨s0, s1, s2⟩, nr, ns, fW⟩ := HA18.out wq f
                clear h
                go_wp2
                exact ⟨rfl, rfl, _, rfl, Fr.refl _ _, rfl⟩
              · intro vals wq f h
                simp only [fillA, fillT, List.setIfInBounds_toArray, List.set_cons_succ, List.set_cons_zero, Option.getD_some, Nat.zero_add, Nat.reduceAdd]
                obtain ⟨b5, h5, n5, l5, i5⟩ : SetAt wq (vals 5) 0 L 17 S := h 5 (by kernel_rfl)
                rw [h5, HLl.out]
                have h6 : vals 6 = Value.agg #[.slice (some ⟨bw, 0, none⟩) 6 6, .int .i64 17, .int .i64 S] := h 6 (by kernel_rfl)
                rw [h6]
                obtain ⟨⟨r0, r1, r2⟩, ⟨q0, q1, q2⟩, ⟨s0, s1, s2⟩, nr, ns, fW⟩ := HA18.out wq f
                clear h
                have HS := hid (rsame13_self b5 bw L 17 S wq n5 (by rw [HLl.out]; exact ns) (by rw [HLl.out]; omega))
                rw [HLl.out] at HS
                clear n5 i5
                go_wp2_with fail
                refine HS.out.mono ?_
                rintro e w6 ⟨rfl, f6⟩
                go_wp2
                exact ⟨rfl, rfl, _, rfl, f6, rfl⟩
            case tail =>
              intro vals wq f h
              simp only [List.take_succ_cons, List.take_zero, fillA, fillT, List.setIfInBounds_toArray, List.set_cons_succ, List.set_cons_zero, List.drop_succ_cons, List.drop_zero, Nat.zero_add, Nat.reduceAdd]
              have h7 : vals 7 = Value.bool true := h 7 (by omega)
              rw [h7]
              have HFx := hid (HFe.out.trans' ((Fr.refl (fun _ => False) wr).drew.trans' f))
              clear h h7 f
              gi_wp2
              go_wp2
              go_ret
              exact ⟨rfl, HFx.out.below (Nat.le_refl _) (fun _ _ h => h)⟩
end Go.Proofs.Ytkndnibmgohcaaa
