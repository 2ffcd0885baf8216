/-
  Package wave: depths that fit, sides that are padded, a fresh copy.
-/
import Derived.Test.YtonalomagfekaaaWaveE
import Derived.Test.YtonalomagfekaaaPlaneP
namespace Go.Proofs.Ytonalomagfekaaa
open Go.RowKit

/-- A struct of three cells, stored. -/
def stored3 (w : World) (r : Nat) (x y z : Value) : World := ((w.setCell ⟨r, 0, none⟩ x).setCell ⟨r, 1, none⟩ y).setCell ⟨r, 2, none⟩ z
theorem Blk.put3 {w : World} {r : Nat} {a b c : Value} {t : TypeId} (h : Blk w r #[a, b, c] t) (x y z : Value) : Blk (stored3 w r x y z) r #[x, y, z] t := by
  unfold stored3
  simpa using ((h.set 0 x).set 1 y).set 2 z
theorem Fr.put3 {S : Nat → Prop} {a w : World} (h : Fr S a w) {r : Nat} (hr : r < a.heap.size → S r) (x y z : Value) : Fr S a (stored3 w r x y z) :=
  ((h.setCell (p := ⟨r, 0, none⟩) hr _).setCell (p := ⟨r, 1, none⟩) hr _).setCell (p := ⟨r, 2, none⟩) hr _
theorem Fr.put3New {a w : World} (h : Fr (fun _ => False) a w) {r : Nat} (hr : a.heap.size ≤ r) (x y z : Value) : Fr (fun _ => False) a (stored3 w r x y z) := h.put3 (fun hl => absurd (show r < a.heap.size from hl) (by omega)) x y z
theorem fr_put3 (w : World) (r : Nat) (x y z : Value) : Fr (fun j => j = r) w (stored3 w r x y z) := (Fr.refl (fun j => j = r) w).put3 (fun _ => rfl) x y z

/-- A fresh copy of a plane. -/
theorem wfresh_any (x y : Nat) (a : Option Addr) (m cap : Nat) (V : Nat → Int) (b : Nat) (w : World) (hx : 1 ≤ x) (hx' : x ≤ 1024) (hy : 1 ≤ y) (hy' : y ≤ 1024) (hm : x * y = m) (h : Nums w a m cap V b) :
    Calls Try.prog 27 #[.agg #[.int .i64 (x : Int), .int .i64 (y : Int), .slice a m cap]] w fun e w' => ∃ g, e = .returned (.agg #[.int .i64 (x : Int), .int .i64 (y : Int), .slice (some ⟨g, 0, none⟩) m m]) ∧ Row w' g m V ∧ w.heap.size ≤ g ∧ Fr (fun _ => False) w w' := by
  have hmm := mul_most hx' hy'
  have hpos : 0 < x * y := Nat.mul_pos (by omega) (by omega)
  have HNew := hid (fun w => pnew_go x y hx hx' hy hy' w)
  rw [hm] at HNew hmm hpos
  have HN := hid h
  obtain ⟨W, hW⟩ : ∃ W, W = (w.alloc (.cells #[.int .i64 (x : Int), .int .i64 (y : Int), .slice a m cap] 25)).alloc (.cells #[.int .i64 0, .int .i64 0, .slice none 0 0] 25) := ⟨_, rfl⟩
  have F0 : Fr (fun _ => False) w W := by rw [hW]; exact ((Fr.refl _ w).alloc _).alloc _
  have O0 : Blk W w.heap.size #[.int .i64 (x : Int), .int .i64 (y : Int), .slice a m cap] 25 := by rw [hW]; exact (Blk.new _ _ _).alloc _
  have O1 : Blk W (w.heap.size + 1) #[.int .i64 0, .int .i64 0, .slice none 0 0] 25 := by
    rw [hW]
    have := Blk.new (w.alloc (.cells #[.int .i64 (x : Int), .int .i64 (y : Int), .slice a m cap] 25)) #[.int .i64 0, .int .i64 0, .slice none 0 0] 25
    simpa using this
  have HW := hid hW
  clear hW h
  go_enter Try.func27, Try.ntmps27
  go_wp2_with fail
  rw [← HW.out]
  refine (HNew.out W).mono ?_
  rintro e w1 ⟨g, rfl, r1, lg, f1⟩
  have P0 := O0.fr f1 (fun h => h)
  have P1 := O1.fr f1 (fun h => h)
  have F1 := F0.trans' f1
  have hgl := r1.lt
  have s0 := O1.lt
  obtain ⟨W3, hW3⟩ : ∃ W3, W3 = w1.alloc (.cells #[.int .i64 (x : Int), .int .i64 (y : Int), .slice (some ⟨g, 0, none⟩) m m] 25) := ⟨_, rfl⟩
  have Q0 : Blk W3 w.heap.size #[.int .i64 (x : Int), .int .i64 (y : Int), .slice a m cap] 25 := by rw [hW3]; exact P0.alloc _
  have Q1 : Blk W3 (w.heap.size + 1) #[.int .i64 0, .int .i64 0, .slice none 0 0] 25 := by rw [hW3]; exact P1.alloc _
  have Q3 : Blk W3 w1.heap.size #[.int .i64 (x : Int), .int .i64 (y : Int), .slice (some ⟨g, 0, none⟩) m m] 25 := by rw [hW3]; exact Blk.new _ _ _
  have F3 : Fr (fun _ => False) w W3 := by rw [hW3]; exact F1.alloc _
  have R3 : Row W3 g m (fun _ => 0) := by rw [hW3]; exact r1.quiet ((Fr.refl _ w1).alloc _)
  obtain ⟨w4, hrun, R4, f4⟩ := copy_into R3 0 m m (by omega) (HN.out.quiet F3) hpos 3
  have hs1 := f1.size
  have S1 := Q1.fr f4 (by omega)
  have S3 := Q3.fr f4 (by omega)
  have d0 : W3.cell? ⟨w.heap.size, 2, none⟩ = some (.slice a m cap) := by rw [Q0.cell]; rfl
  have HW3 := hid hW3
  have e0 : w4.cell? ⟨w1.heap.size, 0, none⟩ = some (.int .i64 (x : Int)) := by rw [S3.cell]; rfl
  have e1 : w4.cell? ⟨w1.heap.size, 1, none⟩ = some (.int .i64 (y : Int)) := by rw [S3.cell]; rfl
  have e2 : w4.cell? ⟨w1.heap.size, 2, none⟩ = some (.slice (some ⟨g, 0, none⟩) m m) := by rw [S3.cell]; rfl
  have z0 : w4.cell? ⟨w.heap.size + 1, 0, none⟩ = some (.int .i64 0) := by rw [S1.cell]; rfl
  have z1 : w4.cell? ⟨w.heap.size + 1, 1, none⟩ = some (.int .i64 0) := by rw [S1.cell]; rfl
  have z2 : w4.cell? ⟨w.heap.size + 1, 2, none⟩ = some (.slice none 0 0) := by rw [S1.cell]; rfl
  have zf := S1.thaw
  have HR4 := hid (R4.congr (V' := V) fun j hj => by rw [if_pos (by omega)]; congr 1)
  have HF4 := hid (F3.trans f4 (fun i hi e => by have := F0.size; omega))
  have HS1 := hid S1
  have hne : ¬ g = w.heap.size + 1 := by omega
  have hlg : w.heap.size ≤ g := by have := F0.size; omega
  clear O0 O1 F0 HW HNew r1 f1 P0 P1 F1 Q0 Q1 Q3 F3 R3 R4 f4 S1 S3 hW3 HN
  rw [HW3.out] at hrun d0
  go_wp2
  refine bodyPost_ret (v := .agg #[.int .i64 (x : Int), .int .i64 (y : Int), .slice (some ⟨g, 0, none⟩) m m]) ?_ rfl ⟨g, rfl, ?_, hlg, ?_⟩
  · exact results_cell_row rfl _ _ (w.heap.size + 1) 25 _ (0, 0) _ rfl (show Blk _ _ _ _ from HS1.out.put3 (.int .i64 (x : Int)) (.int .i64 (y : Int)) (.slice (some ⟨g, 0, none⟩) m m)) Try.underlying25 rfl Try.info_plane
  · exact HR4.out.fr (fr_put3 _ _ _ _ _) hne
  · exact HF4.out.put3New (by omega) _ _ _

theorem nat_beq0 (c : Nat) : ((c : Int) == 0) = decide (c = 0) := by rw [Bool.eq_iff_iff]; simp
/-- Is there such a depth? -/
def deepB (d : Int) : Bool := decide (0 ≤ d) && decide (d ≤ 6)
theorem deepB_iff {d : Int} : deepB d = true ↔ 0 ≤ d ∧ d ≤ 6 := by simp [deepB]
theorem deepB_nat {d : Int} (h : deepB d = true) : ∃ k : Nat, d = (k : Int) ∧ k ≤ 6 := by
  have := deepB_iff.1 h
  exact ⟨d.toNat, by omega, by omega⟩
theorem wdeep_any (d : Int) (w : World) :
    Calls Try.prog 23 #[.int .i64 d] w fun e w' => e = .returned (.bool (deepB d)) ∧ w' = w := by
  have HC : Hid (deepB d = (decide (0 ≤ d) && decide (d ≤ 6))) := (Eq.refl (deepB d))
  by_cases h0 : 0 ≤ d
  · go_enter Try.func23, Try.ntmps23
    go_wp2
    go_ret
    exact ⟨ret_bool (by rw [HC.out]; simp; omega), rfl⟩
  · have h0' : decide (0 ≤ d) = false := by simp; omega
    go_enter Try.func23, Try.ntmps23
    go_wp2
    go_ret
    exact ⟨ret_bool (by rw [HC.out]; simp; omega), rfl⟩

/-- Does a plane fit a depth? -/
def fitsP (X Y : Int) (n : Nat) (d : Int) : Bool := deepB d && rightP X Y n && decide (X % 2 ^ d.toNat = 0) && decide (Y % 2 ^ d.toNat = 0)
theorem pow_small {k : Nat} (h : k ≤ 6) : 1 ≤ 2 ^ k ∧ 2 ^ k ≤ 64 := by
  have : k = 0 ∨ k = 1 ∨ k = 2 ∨ k = 3 ∨ k = 4 ∨ k = 5 ∨ k = 6 := by omega
  rcases this with rfl | rfl | rfl | rfl | rfl | rfl | rfl <;> decide
theorem wfits_any (X Y : Int) (a : Option Addr) (n cap : Nat) (d : Int) (w : World) :
    Calls Try.prog 9 #[.agg #[.int .i64 X, .int .i64 Y, .slice a n cap], .int .i64 d] w fun e w' => e = .returned (.bool (fitsP X Y n d)) ∧ Fr (fun _ => False) w w' := by
  obtain ⟨W, hW⟩ : ∃ W, W = w.alloc (.cells #[.int .i64 X, .int .i64 Y, .slice a n cap] 25) := ⟨_, rfl⟩
  have F0 : Fr (fun _ => False) w W := by rw [hW]; exact (Fr.refl _ w).alloc _
  have O0 : Blk W w.heap.size #[.int .i64 X, .int .i64 Y, .slice a n cap] 25 := by rw [hW]; exact Blk.new _ _ _
  have HW := hid hW
  cases hd : deepB d with
  | false =>
    have HR : Hid (fitsP X Y n d = false) := by show _ = _; simp [fitsP, hd]
    clear O0 hW
    go_enter Try.func9, Try.ntmps9
    go_wp2_with fail
    rw [← HW.out]
    refine (wdeep_any d _).mono ?_
    rintro e w1 ⟨rfl, rfl⟩
    rw [hd]
    go_wp2
    go_ret
    exact ⟨ret_bool HR.out.symm, F0⟩
  | true =>
    have c0 : W.cell? ⟨w.heap.size, 0, none⟩ = some (.int .i64 X) := by rw [O0.cell]; rfl
    have c1 : W.cell? ⟨w.heap.size, 1, none⟩ = some (.int .i64 Y) := by rw [O0.cell]; rfl
    have c2 : W.cell? ⟨w.heap.size, 2, none⟩ = some (.slice a n cap) := by rw [O0.cell]; rfl
    cases hr : rightP X Y n with
    | false =>
      have HR : Hid (fitsP X Y n d = false) := by show _ = _; simp [fitsP, hd, hr]
      clear O0 hW
      go_enter Try.func9, Try.ntmps9
      go_wp2_with fail
      rw [← HW.out]
      refine (wdeep_any d _).mono ?_
      rintro e w1 ⟨rfl, hw1⟩
      obtain rfl : w1 = W := hw1
      rw [hd]
      go_wp2_with fail
      refine (pright_any X Y a n cap _).mono ?_
      rintro e w2 ⟨rfl, f2⟩
      rw [hr]
      go_wp2
      go_ret
      exact ⟨ret_bool HR.out.symm, F0.trans' f2⟩
    | true =>
      obtain ⟨k, rfl, hk⟩ := deepB_nat hd
      obtain ⟨x, y, rfl, rfl, hx1, hx2, hy1, hy2, hn⟩ := rightP_nat hr
      obtain ⟨hu1, hu2⟩ := pow_small hk
      have HR : Hid (fitsP x y n k = (decide (x % 2 ^ k = 0) && decide (y % 2 ^ k = 0))) := by
        show _ = _
        rw [fitsP, hd, hr, Int.toNat_natCast]
        have e2 : ((2 : Int) ^ k) = ((2 ^ k : Nat) : Int) := by simp
        rw [e2, ← Int.natCast_emod, ← Int.natCast_emod]
        simp only [Bool.true_and]
        congr 1 <;> (apply decide_eq_decide.2; omega)
      have hp : (2 : Int) ^ k = ((2 ^ k : Nat) : Int) := by simp
      obtain ⟨u, hu⟩ : ∃ u, u = 2 ^ k := ⟨_, rfl⟩
      rw [← hu] at hu1 hu2 HR hp
      obtain ⟨cx, hcx⟩ : ∃ cx, cx = x % u := ⟨_, rfl⟩
      obtain ⟨cy, hcy⟩ : ∃ cy, cy = y % u := ⟨_, rfl⟩
      have hX : (x : Int) % (u : Int) = (cx : Int) := by rw [hcx, Int.natCast_emod]
      have hY : (y : Int) % (u : Int) = (cy : Int) := by rw [hcy, Int.natCast_emod]
      rw [← hcx, ← hcy] at HR
      have hu0 : ¬ (u : Int) = 0 := by omega
      clear hcx hcy hu hn O0 hW
      by_cases h0 : cx = 0
      · subst h0
        have HB := hid (nat_beq0 cy)
        go_enter Try.func9, Try.ntmps9
        go_wp2_with fail
        rw [← HW.out]
        refine (wdeep_any _ _).mono ?_
        rintro e w1 ⟨rfl, hw1⟩
        obtain rfl : w1 = W := hw1
        rw [hd]
        go_wp2_with fail
        refine (pright_any x y a n cap _).mono ?_
        rintro e w2 ⟨rfl, f2⟩
        rw [hr]
        have e0 := (f2.cell (p := ⟨w.heap.size, 0, none⟩) (cell_lt c0) (fun h => h)).trans c0
        have e1 := (f2.cell (p := ⟨w.heap.size, 1, none⟩) (cell_lt c1) (fun h => h)).trans c1
        go_wp2
        go_ret
        exact ⟨ret_bool (by rw [HR.out]; simp; exact HB.out), F0.trans' f2⟩
      · have hb : ((cx : Int) == 0) = false := by rw [nat_beq0]; simpa using h0
        have HH0 := hid h0
        clear h0
        go_enter Try.func9, Try.ntmps9
        go_wp2_with fail
        rw [← HW.out]
        refine (wdeep_any _ _).mono ?_
        rintro e w1 ⟨rfl, hw1⟩
        obtain rfl : w1 = W := hw1
        rw [hd]
        go_wp2_with fail
        refine (pright_any x y a n cap _).mono ?_
        rintro e w2 ⟨rfl, f2⟩
        rw [hr]
        have e0 := (f2.cell (p := ⟨w.heap.size, 0, none⟩) (cell_lt c0) (fun h => h)).trans c0
        have e1 := (f2.cell (p := ⟨w.heap.size, 1, none⟩) (cell_lt c1) (fun h => h)).trans c1
        go_wp2
        go_ret
        exact ⟨ret_bool (by rw [HR.out]; simp [HH0.out]), F0.trans' f2⟩

/-- The least multiple of a power of two that isn't below a side. -/
def padN (z d : Int) : Int := if 1 ≤ z ∧ z ≤ 1024 ∧ 0 ≤ d ∧ d ≤ 6 then (z + 2 ^ d.toNat - 1) / 2 ^ d.toNat * 2 ^ d.toNat else 0
/-- The same of naturals. -/
def padU (n u : Nat) : Nat := (n + u - 1) / u * u
theorem padN_in {n k : Nat} (h1 : 1 ≤ n) (h2 : n ≤ 1024) (hk : k ≤ 6) : padN n k = (padU n (2 ^ k) : Int) := by
  obtain ⟨hu1, hu2⟩ := pow_small hk
  unfold padN padU
  rw [if_pos (by omega), Int.toNat_natCast]
  have e : (2 : Int) ^ k = ((2 ^ k : Nat) : Int) := by simp
  rw [e]
  generalize 2 ^ k = u at *
  have e1 : (n : Int) + (u : Int) - 1 = ((n + u - 1 : Nat) : Int) := by omega
  rw [e1, ← Int.natCast_ediv, ← Int.natCast_mul]
theorem padN_out {z d : Int} (h : ¬ (1 ≤ z ∧ z ≤ 1024 ∧ 0 ≤ d ∧ d ≤ 6)) : padN z d = 0 := if_neg h
theorem wpadded_any (z d : Int) (w : World) :
    Calls Try.prog 18 #[.int .i64 z, .int .i64 d] w fun e w' => e = .returned (.int .i64 (padN z d)) ∧ w' = w := by
  by_cases h1 : z < 1
  · have HR := hid (padN_out (z := z) (d := d) (by omega))
    go_enter Try.func18, Try.ntmps18
    go_wp2
    go_ret
    exact ⟨ret_int HR.out.symm, rfl⟩
  · by_cases h2 : 1024 < z
    · have HR := hid (padN_out (z := z) (d := d) (by omega))
      go_enter Try.func18, Try.ntmps18
      go_wp2
      go_ret
      exact ⟨ret_int HR.out.symm, rfl⟩
    · cases hd : deepB d with
      | false =>
        have HR := hid (padN_out (z := z) (d := d) (fun h => by have := deepB_iff.2 h.2.2; rw [hd] at this; cases this))
        go_enter Try.func18, Try.ntmps18
        go_wp2_with fail
        refine (wdeep_any _ _).mono ?_
        rintro e w1 ⟨rfl, rfl⟩
        rw [hd]
        go_wp2
        go_ret
        exact ⟨ret_int HR.out.symm, rfl⟩
      | true =>
        obtain ⟨k, rfl, hk⟩ := deepB_nat hd
        obtain ⟨n, rfl⟩ := Int.eq_ofNat_of_zero_le (show 0 ≤ z by omega)
        have HR := hid (padN_in (n := n) (k := k) (by omega) (by omega) hk)
        obtain ⟨hu1, hu2⟩ := pow_small hk
        have hp : (2 : Int) ^ k = ((2 ^ k : Nat) : Int) := by simp
        obtain ⟨u, hu⟩ : ∃ u, u = 2 ^ k := ⟨_, rfl⟩
        rw [← hu] at hu1 hu2 HR hp
        obtain ⟨s, hs⟩ : ∃ s, s = n + u - 1 := ⟨_, rfl⟩
        obtain ⟨c, hc⟩ : ∃ c, c = s / u := ⟨_, rfl⟩
        obtain ⟨r, hr⟩ : ∃ r, r = c * u := ⟨_, rfl⟩
        have hS : (n : Int) + (u : Int) - 1 = (s : Int) := by omega
        have hC : (s : Int) / (u : Int) = (c : Int) := by rw [hc, Int.natCast_ediv]
        have hC' : (s : Int).tdiv (u : Int) = (c : Int) := by rw [Int.tdiv_eq_ediv_of_nonneg (by omega), hC]
        have hR : (c : Int) * (u : Int) = (r : Int) := by rw [hr, Int.natCast_mul]
        have hcs : c ≤ s := by rw [hc]; exact Nat.div_le_self _ _
        have hrs : r ≤ s := by rw [hr, hc]; exact Nat.div_mul_le_self _ _
        have hsm : s ≤ 2000 := by omega
        have HV : Hid (padU n u = r) := by show _ = _; rw [hr, hc, hs]; rfl
        have hu0 : ¬ (u : Int) = 0 := by omega
        clear hs hc hr hu
        go_enter Try.func18, Try.ntmps18
        go_wp2_with fail
        refine (wdeep_any _ _).mono ?_
        rintro e w1 ⟨rfl, rfl⟩
        rw [hd]
        go_wp2
        go_ret
        exact ⟨ret_int (by rw [HR.out, HV.out]), rfl⟩
end Go.Proofs.Ytonalomagfekaaa
