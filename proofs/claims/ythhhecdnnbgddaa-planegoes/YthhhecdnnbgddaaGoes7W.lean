/-
  Law 7, PlaneGoes: in which order places and rows are told.
-/
import Derived.Test.YthhhecdnnbgddaaGoes7R
import Derived.Test.YthhhecdnnbgddaaFirst7
import Derived.Test.YthhhecdnnbgddaaBig7
import Derived.Test.YthhhecdnnbgddaaRef7
namespace Go.Proofs.Ythhhecdnnbgddaa
open Go.RowKit

/-- Points(p), and what it gives called with the law's closure. -/
def PtsOk (X Y : Int) (a : Option Addr) (n cap all : Nat) (stop : Int) (bp bs : Nat) : Prop :=
  ∀ w3, Calls Try.prog 17 #[.agg #[.int .i64 X, .int .i64 Y, .slice a n cap]] w3 fun e w' => ∃ bh bw, e = .returned (.func (.func 34) #[] #[.pointer (some ⟨bh, 0, none⟩), .pointer (some ⟨bw, 0, none⟩)]) ∧ Fr (fun _ => False) w3 w' ∧
    ∀ bo bn, bo < w3.heap.size → bn < w3.heap.size → Blk w' bo #[.bool true] 4 → Blk w' bn #[.int .i64 0] 3 → Blk w' bp #[.int .i64 X, .int .i64 Y, .slice a n cap] 24 → Blk w' bs #[.int .i64 stop] 3 → bo ≠ bn → bo ≠ bp → bo ≠ bs → bn ≠ bp → bn ≠ bs →
      Calls Try.prog 34 #[.func (.func 18) #[] #[.pointer (some ⟨bo, 0, none⟩), .pointer (some ⟨bn, 0, none⟩), .pointer (some ⟨bp, 0, none⟩), .pointer (some ⟨bs, 0, none⟩)], .pointer (some ⟨bh, 0, none⟩), .pointer (some ⟨bw, 0, none⟩)] w' fun e w'' =>
        e = .returned (.tuple #[]) ∧ (∃ N : Nat, (N = all ∨ ((N : Int) = stop ∧ N ≤ all)) ∧ Blk w'' bn #[.int .i64 (N : Int)] 3) ∧ Blk w'' bo #[.bool true] 4 ∧ Fr (fun j => j = bo ∨ j = bn) w' w''
/-- Rows(p), and what it gives called with the law's closure. -/
def RwsOk (X Y : Int) (a : Option Addr) (n cap : Nat) (V : Nat → Int) (b all : Nat) (stop : Int) (bp bs : Nat) : Prop :=
  ∀ w3, Nums w3 a n cap V b → Calls Try.prog 19 #[.agg #[.int .i64 X, .int .i64 Y, .slice a n cap]] w3 fun e w' => ∃ bh bv bw, e = .returned (.func (.func 36) #[] #[.pointer (some ⟨bh, 0, none⟩), .pointer (some ⟨bv, 0, none⟩), .pointer (some ⟨bw, 0, none⟩)]) ∧ Fr (fun _ => False) w3 w' ∧
    ∀ bo bk, bo < w3.heap.size → bk < w3.heap.size → Blk w' bo #[.bool true] 4 → Blk w' bk #[.int .i64 0] 3 → Blk w' bp #[.int .i64 X, .int .i64 Y, .slice a n cap] 24 → Blk w' bs #[.int .i64 stop] 3 → bo ≠ bk → bo ≠ bp → bo ≠ bs → bk ≠ bp → bk ≠ bs → (0 < n → b ≠ bo ∧ b ≠ bk) →
      Calls Try.prog 36 #[.func (.func 20) #[] #[.pointer (some ⟨bo, 0, none⟩), .pointer (some ⟨bk, 0, none⟩), .pointer (some ⟨bp, 0, none⟩), .pointer (some ⟨bs, 0, none⟩)], .pointer (some ⟨bh, 0, none⟩), .pointer (some ⟨bv, 0, none⟩), .pointer (some ⟨bw, 0, none⟩)] w' fun e w'' =>
        e = .returned (.tuple #[]) ∧ (∃ N : Nat, (N = all ∨ ((N : Int) = stop ∧ N ≤ all)) ∧ Blk w'' bk #[.int .i64 (N : Int)] 3) ∧ Blk w'' bo #[.bool true] 4 ∧ Fr (fun j => j = bo ∨ j = bk) w' w''

theorem ptsOk_bad {X Y : Int} {a : Option Addr} {n cap : Nat} {stop : Int} {bp bs : Nat} (hR : rightP X Y n = false) : PtsOk X Y a n cap 0 stop bp bs := by
  intro w3
  refine (ppoints_bad X Y a n cap w3 hR).mono ?_
  rintro e w' ⟨bh, bw, rfl, h1, h2, h3, h4, f⟩
  refine ⟨bh, bw, rfl, f, fun bo bn _ _ b1 b2 _ _ _ _ _ _ _ => (gpoints_none _ bh bw w' h1).mono ?_⟩
  rintro e w'' ⟨rfl, rfl⟩
  exact ⟨rfl, ⟨0, .inl rfl, b2⟩, b1, Fr.refl _ _⟩
theorem ptsOk_go {x y : Nat} {a : Option Addr} {n cap : Nat} {stop : Int} {bp bs : Nat} (hx : 1 ≤ x) (hx' : x ≤ 1024) (hy : 1 ≤ y) (hy' : y ≤ 1024) (hm : x * y = n) : PtsOk x y a n cap n stop bp bs := by
  intro w3
  refine (ppoints_go x y a n cap w3 (by rw [← hm]; exact rightP_of hx hx' hy hy')).mono ?_
  rintro e w' ⟨bh, bw, rfl, h1, h2, h3, h4, f⟩
  refine ⟨bh, bw, rfl, f, fun bo bn l1 l2 b1 b2 b3 b4 q1 q2 q3 q4 q5 => ?_⟩
  have := gpoints_go x y y a n cap stop bh bw bo bn bp bs w' hx hx' hy' h1 h2 b1 b2 b3 b4 q1 q2 q3 q4 q5 (by omega) (by omega)
  rwa [hm] at this
theorem rwsOk_bad {X Y : Int} {a : Option Addr} {n cap : Nat} {V : Nat → Int} {b : Nat} {stop : Int} {bp bs : Nat} (hR : rightP X Y n = false) : RwsOk X Y a n cap V b 0 stop bp bs := by
  intro w3 _
  refine (prows_bad X Y a n cap w3 hR).mono ?_
  rintro e w' ⟨bh, bv, bw, g, rfl, h1, h2, h3, h4, _, _, _, _, _, _, _, _, _, _, f⟩
  refine ⟨bh, bv, bw, rfl, f, fun bo bk _ _ b1 b2 _ _ _ _ _ _ _ _ => (grows_none _ bh bv bw w' h1).mono ?_⟩
  rintro e w'' ⟨rfl, rfl⟩
  exact ⟨rfl, ⟨0, .inl rfl, b2⟩, b1, Fr.refl _ _⟩
theorem rwsOk_go {x y : Nat} {a : Option Addr} {n cap : Nat} {V : Nat → Int} {b : Nat} {stop : Int} {bp bs : Nat} (hx : 1 ≤ x) (hx' : x ≤ 1024) (hy : 1 ≤ y) (hy' : y ≤ 1024) (hm : x * y = n) : RwsOk x y a n cap V b y stop bp bs := by
  intro w3 hN
  have hmm := mul_most hx' hy'
  refine (prows_go x y a n cap V b w3 (by rw [← hm]; exact rightP_of hx hx' hy hy') hN (by omega)).mono ?_
  rintro e w' ⟨bh, bv, bw, g, rfl, h1, h2, h3, h4, g1, g2, g3, g4, _, _, _, _, _, _, f⟩
  exact ⟨bh, bv, bw, rfl, f, fun bo bk l1 l2 b1 b2 b3 b4 q1 q2 q3 q4 q5 q6 => grows_go x y a n cap V b stop bh bv bw g bo bk bp bs w' hx hx' hy' hm h1 h2 h3 h4 (hN.quiet f) b1 b2 b3 b4 q1 q2 q3 q4 q5 (by omega) (by omega) (by omega) (by omega) (by omega) (by omega) q6⟩

set_option maxRecDepth 100000 in
set_option maxHeartbeats 4000000 in
theorem goes7_go (X Y : Int) (a : Option Addr) (n cap : Nat) (V : Nat → Int) (b : Nat) (stop : Int) (w : World) (hn : Nums w a n cap V b) (hb1 : ¬ 2000 < n) (all rows : Nat) (hR : rightP X Y n = true) (hxy : X * Y = (all : Int)) (hyr : Y = (rows : Int)) (hal : all ≤ 1048576)  (hP : PtsOk X Y a n cap all stop w.heap.size (w.heap.size + 1)) (hRw : RwsOk X Y a n cap V b rows stop w.heap.size (w.heap.size + 1)) :
    Calls Try.prog 4 #[.agg #[.int .i64 X, .int .i64 Y, .slice a n cap], .int .i64 stop] w fun e w' => e = .returned (.bool true) ∧ Fr (fun _ => False) w w' := by
  have HP := hid hP
  have HRw := hid hRw
  have HR := hid hR
  clear hP hRw hR
  have HYR := hid hyr
  clear hyr
  obtain ⟨W, hW⟩ : ∃ W, W = (w.alloc (.cells #[.int .i64 X, .int .i64 Y, .slice a n cap] 24)).alloc (.cells #[.int .i64 stop] 3) := ⟨_, rfl⟩
  have F0 : Fr (fun _ => False) w W := by rw [hW]; exact ((Fr.refl _ w).alloc _).alloc _
  have hWs1 : W.heap.size ≤ w.heap.size + 2 := by rw [hW]; simp
  have hWs2 : w.heap.size + 2 ≤ W.heap.size := by rw [hW]; simp
  have O0 : Blk W w.heap.size #[.int .i64 X, .int .i64 Y, .slice a n cap] 24 := by rw [hW]; exact (Blk.new _ _ _).alloc _
  have O1 : Blk W (w.heap.size + 1) #[.int .i64 stop] 3 := by
    rw [hW]
    have := Blk.new (w.alloc (.cells #[.int .i64 X, .int .i64 Y, .slice a n cap] 24)) #[.int .i64 stop] 3
    simpa using this
  have HW := hid hW
  clear hW
  have HC : Hid (∀ S wq, Fr S W wq → (∀ j, j < w.heap.size + 2 → ¬ S j) → (wq.cell? ⟨w.heap.size, 0, none⟩ = some (.int .i64 X) ∧ wq.cell? ⟨w.heap.size, 1, none⟩ = some (.int .i64 Y) ∧ wq.cell? ⟨w.heap.size, 2, none⟩ = some (.slice a n cap)) ∧ wq.cell? ⟨w.heap.size + 1, 0, none⟩ = some (.int .i64 stop) ∧ Hid (Blk wq w.heap.size #[.int .i64 X, .int .i64 Y, .slice a n cap] 24 ∧ Blk wq (w.heap.size + 1) #[.int .i64 stop] 3 ∧ Nums wq a n cap V b)) := by
    intro S wq f hS
    have S0 := O0.fr f (hS _ (by omega))
    have S1 := O1.fr f (hS _ (by omega))
    exact ⟨⟨by rw [S0.cell]; rfl, by rw [S0.cell]; rfl, by rw [S0.cell]; rfl⟩, by rw [S1.cell]; rfl, S0, S1, (hn.quiet F0).fr f (fun h => hS _ (by have := hn.lt h; omega))⟩
  have HLT := hid (fun h => hn.lt h)
  clear O0 O1 hn
  go_enter Try.func4, Try.ntmps4
  have HB1 := hid hb1
  clear hb1
  go_wp2_with fail
  rw [← HW.out]
  refine (first7_any W).mono ?_
  rintro e w1 ⟨rfl, f1⟩
  obtain ⟨⟨k0, k1, k2⟩, l0, HQ⟩ := HC.out _ w1 f1 (fun _ _ h => h)
  go_wp2_with fail
  refine (big7_any X Y a n cap w1 HQ.out.2.2.len).mono ?_
  rintro e w2 ⟨rfl, f2⟩
  rw [decide_eq_false HB1.out]
  have g2 := f1.trans' f2
  clear k0 k1 k2 l0 HQ f1 f2
  obtain ⟨bn, hbn⟩ : ∃ bn, bn = w2.heap.size := ⟨_, rfl⟩
  obtain ⟨W3, hW3⟩ : ∃ W3, W3 = (w2.alloc (.cells #[.int .i64 0] 3)).alloc (.cells #[.bool true] 4) := ⟨_, rfl⟩
  have hs2 := g2.size
  have hs3 : w2.heap.size + 2 ≤ W3.heap.size := by rw [hW3]; simp
  have hbn1 : bn ≤ w2.heap.size := by omega
  have hbn2 : w2.heap.size ≤ bn := by omega
  have F3 : Fr (fun _ => False) W W3 := by rw [hW3]; exact (g2.alloc _).alloc _
  have N0 : Blk W3 bn #[.int .i64 0] 3 := by rw [hW3, hbn]; exact (Blk.new _ _ _).alloc _
  have N1 : Blk W3 (bn + 1) #[.bool true] 4 := by
    rw [hW3, hbn]
    have := Blk.new (w2.alloc (.cells #[.int .i64 0] 3)) #[.bool true] 4
    simpa using this
  have HW3 := hid hW3
  have HBN := hid hbn
  obtain ⟨⟨k0, k1, k2⟩, l0, HQ⟩ := HC.out _ W3 F3 (fun _ _ h => h)
  have K0 : ((w2.alloc (.cells #[.int .i64 0] 3)).alloc (.cells #[.bool true] 4)).cell? ⟨w.heap.size, 0, none⟩ = some (.int .i64 X) := by rw [← hW3]; exact k0
  have K1 : ((w2.alloc (.cells #[.int .i64 0] 3)).alloc (.cells #[.bool true] 4)).cell? ⟨w.heap.size, 1, none⟩ = some (.int .i64 Y) := by rw [← hW3]; exact k1
  have K2 : ((w2.alloc (.cells #[.int .i64 0] 3)).alloc (.cells #[.bool true] 4)).cell? ⟨w.heap.size, 2, none⟩ = some (.slice a n cap) := by rw [← hW3]; exact k2
  have HN0 := hid N0
  have HN1 := hid N1
  have HF3 := hid F3
  clear hW3 N0 N1 F3 g2 k0 k1 k2 hbn
  go_wp2_with fail
  rw [← HW3.out, ← HBN.out]
  refine (HP.out W3).mono ?_
  rintro e w4 ⟨bh, bw, rfl, f4, hcall⟩
  have HG4 := hid (HF3.out.trans' f4)
  obtain ⟨⟨j0, j1, j2⟩, m0, HQ4⟩ := HC.out _ w4 HG4.out (fun _ _ h => h)
  have HCl := hid (hcall (bn + 1) bn (by omega) (by omega) (HN1.out.fr f4 (fun h => h)) (HN0.out.fr f4 (fun h => h)) HQ4.out.1 HQ4.out.2.1 (by omega) (by omega) (by omega) (by omega) (by omega))
  clear hcall f4 K0 K1 K2 l0 HQ j0 j1 j2 m0 HQ4 HN0 HN1 HP
  go_wp2_with fail
  refine HCl.out.mono ?_
  rintro e w5 ⟨rfl, ⟨N, hNN, c1⟩, c2, f5⟩
  have HG5 := hid ((HG4.out.mono (S' := fun j => j = bn + 1 ∨ j = bn) (fun _ _ h => h.elim)).trans' f5)
  have hs5 := HG5.out.size
  obtain ⟨⟨j0, j1, j2⟩, m0, HQ5⟩ := HC.out _ w5 HG5.out (fun j h => by omega)
  have HC1 := hid c1
  have HC2 := hid c2
  have hN1 : N ≤ all := by omega
  have HNN := hid hNN
  have hl1 := c1.lt
  have hl2 := c2.lt
  clear c1 c2 f5 hNN HCl HG4
  go_wp2_with fail
  refine (rright_any X Y a n cap w5).mono ?_
  rintro e w6 ⟨rfl, f6⟩
  rw [HR.out]
  have HG6 := hid (HG5.out.trans f6 (fun _ _ h => h.elim))
  have hs6 := f6.size
  clear j0 j1 j2 m0 HQ5
  obtain ⟨⟨j0, j1, j2⟩, m0, HQ6⟩ := HC.out _ w6 HG6.out (fun j h => by omega)
  have D1 := HC1.out.fr f6 (fun h => h)
  have D2 := HC2.out.fr f6 (fun h => h)
  have n0 : w6.cell? ⟨bn, 0, none⟩ = some (.int .i64 (N : Int)) := by rw [D1.cell]; rfl
  have n1 : w6.cell? ⟨bn + 1, 0, none⟩ = some (.bool true) := by rw [D2.cell]; rfl
  have HD2 := hid D2
  obtain ⟨W7, hW7⟩ : ∃ W7, W7 = w6.alloc (.cells #[.int .i64 0] 3) := ⟨_, rfl⟩
  obtain ⟨bk, hbk⟩ : ∃ bk, bk = w6.heap.size := ⟨_, rfl⟩
  have hs7 : w6.heap.size + 1 ≤ W7.heap.size := by rw [hW7]; simp
  have hbk1 : bk ≤ w6.heap.size := by omega
  have hbk2 : w6.heap.size ≤ bk := by omega
  have HG7 := hid (show Fr (fun j => j = bn + 1 ∨ j = bn) W W7 by rw [hW7]; exact HG6.out.alloc _)
  have HE2 := hid (show Blk W7 (bn + 1) #[.bool true] 4 by rw [hW7]; exact D2.alloc _)
  have HE1 := hid (show Blk W7 bk #[.int .i64 0] 3 by rw [hW7, hbk]; exact Blk.new _ _ _)
  obtain ⟨⟨k0, k1, k2⟩, l0, HQ7⟩ := HC.out _ W7 HG7.out (fun j h => by omega)
  have K0 : (w6.alloc (.cells #[.int .i64 0] 3)).cell? ⟨w.heap.size, 0, none⟩ = some (.int .i64 X) := by rw [← hW7]; exact k0
  have K1 : (w6.alloc (.cells #[.int .i64 0] 3)).cell? ⟨w.heap.size, 1, none⟩ = some (.int .i64 Y) := by rw [← hW7]; exact k1
  have K2 : (w6.alloc (.cells #[.int .i64 0] 3)).cell? ⟨w.heap.size, 2, none⟩ = some (.slice a n cap) := by rw [← hW7]; exact k2
  have HW7 := hid hW7
  have HBK := hid hbk
  clear hW7 D1 D2 HC1 HC2 f6 k0 k1 k2 l0 hbk
  by_cases hNa : N = all
  · subst hNa
    have hNd : ((N : Int) != (N : Int)) = false := by simp
    go_wp2_with fail
    rw [← HW7.out, ← HBK.out]
    refine (HRw.out W7 HQ7.out.2.2).mono ?_
    rintro e w8 ⟨bh2, bv2, bw2, rfl, f8, hcall⟩
    have HG8 := hid (HG7.out.trans f8 (fun _ _ h => h.elim))
    clear j0 j1 j2 m0 n0 n1 K0 K1 K2
    obtain ⟨⟨j0, j1, j2⟩, m0, HQ8⟩ := HC.out _ w8 HG8.out (fun j h => by omega)
    have HCl := hid (hcall (bn + 1) bk (by omega) (by omega) (HE2.out.fr f8 (fun h => h)) (HE1.out.fr f8 (fun h => h)) HQ8.out.1 HQ8.out.2.1 (by omega) (by omega) (by omega) (by omega) (by omega) (fun h => by have := HLT.out h; omega))
    have hs8 := f8.size
    clear hcall f8 j0 j1 j2 m0 HQ8 HQ7 HQ6 HE1 HE2 HRw HW7 HD2
    go_wp2_with fail
    refine HCl.out.mono ?_
    rintro e w9 ⟨rfl, ⟨K, hKK, c1⟩, c2, f9⟩
    have HG9 := hid ((HG8.out.mono (S' := fun j => j = bn + 1 ∨ j = bn ∨ j = bk) (fun _ _ h => by omega)).trans f9 (fun _ _ h => by omega))
    have hs9 := f9.size
    obtain ⟨⟨j0, j1, j2⟩, m0, HQ9⟩ := HC.out _ w9 HG9.out (fun j h => by omega)
    have HC1 := hid c1
    have HC2 := hid c2
    have hK1 : K ≤ rows := by omega
    have HKK := hid hKK
    clear c1 c2 f9 hKK HCl HG8
    go_wp2_with fail
    refine (rright_any X Y a n cap w9).mono ?_
    rintro e w10 ⟨rfl, f10⟩
    rw [HR.out]
    have HG10 := hid (HG9.out.trans f10 (fun _ _ h => h.elim))
    clear j0 j1 j2 m0 HQ9
    obtain ⟨⟨j0, j1, j2⟩, m0, HQ10⟩ := HC.out _ w10 HG10.out (fun j h => by omega)
    have p0 : w10.cell? ⟨bk, 0, none⟩ = some (.int .i64 (K : Int)) := by rw [(HC1.out.fr f10 (fun h => h)).cell]; rfl
    have p1 : w10.cell? ⟨bn + 1, 0, none⟩ = some (.bool true) := by rw [(HC2.out.fr f10 (fun h => h)).cell]; rfl
    have HFE := hid (F0.trans HG10.out (S := fun _ => False) (fun i hi h => by omega))
    clear HQ10 f10 HC1 HC2
    by_cases hKr : K = rows
    · have hKd : ((K : Int) == Y) = true := by rw [HYR.out, hKr]; simp
      clear hKr
      go_wp2
      go_ret
      exact ⟨rfl, HFE.out⟩
    · have hKs : (K : Int) = stop := by rcases HKK.out with h | h; exact absurd h hKr; exact h.1
      have hKd : ((K : Int) == Y) = false := by rw [HYR.out]; simp; omega
      have hKe : ((K : Int) == stop) = true := by simp [hKs]
      have hKl : (K : Int) < Y := by rw [HYR.out]; omega
      clear hKs hKr
      go_wp2
      go_ret
      exact ⟨rfl, HFE.out⟩
  · have hNs : (N : Int) = stop := by rcases HNN.out with h | h; exact absurd h hNa; exact h.1
    have hNd : ((N : Int) != (all : Int)) = true := by simp; omega
    have hNs2 : ((N : Int) != stop) = false := by rw [hNs]; simp
    have hNg : ¬ (all : Int) < (N : Int) := by omega
    have HNS := hid hNs
    clear hNs
    go_wp2_with fail
    rw [← HW7.out, ← HBK.out]
    refine (HRw.out W7 HQ7.out.2.2).mono ?_
    rintro e w8 ⟨bh2, bv2, bw2, rfl, f8, hcall⟩
    have HG8 := hid (HG7.out.trans f8 (fun _ _ h => h.elim))
    clear j0 j1 j2 m0 n0 n1 K0 K1 K2
    obtain ⟨⟨j0, j1, j2⟩, m0, HQ8⟩ := HC.out _ w8 HG8.out (fun j h => by omega)
    have HCl := hid (hcall (bn + 1) bk (by omega) (by omega) (HE2.out.fr f8 (fun h => h)) (HE1.out.fr f8 (fun h => h)) HQ8.out.1 HQ8.out.2.1 (by omega) (by omega) (by omega) (by omega) (by omega) (fun h => by have := HLT.out h; omega))
    have hs8 := f8.size
    clear hcall f8 j0 j1 j2 m0 HQ8 HQ7 HQ6 HE1 HE2 HRw HW7 HD2
    go_wp2_with fail
    refine HCl.out.mono ?_
    rintro e w9 ⟨rfl, ⟨K, hKK, c1⟩, c2, f9⟩
    have HG9 := hid ((HG8.out.mono (S' := fun j => j = bn + 1 ∨ j = bn ∨ j = bk) (fun _ _ h => by omega)).trans f9 (fun _ _ h => by omega))
    have hs9 := f9.size
    obtain ⟨⟨j0, j1, j2⟩, m0, HQ9⟩ := HC.out _ w9 HG9.out (fun j h => by omega)
    have HC1 := hid c1
    have HC2 := hid c2
    have hK1 : K ≤ rows := by omega
    have HKK := hid hKK
    clear c1 c2 f9 hKK HCl HG8
    go_wp2_with fail
    refine (rright_any X Y a n cap w9).mono ?_
    rintro e w10 ⟨rfl, f10⟩
    rw [HR.out]
    have HG10 := hid (HG9.out.trans f10 (fun _ _ h => h.elim))
    clear j0 j1 j2 m0 HQ9
    obtain ⟨⟨j0, j1, j2⟩, m0, HQ10⟩ := HC.out _ w10 HG10.out (fun j h => by omega)
    have p0 : w10.cell? ⟨bk, 0, none⟩ = some (.int .i64 (K : Int)) := by rw [(HC1.out.fr f10 (fun h => h)).cell]; rfl
    have p1 : w10.cell? ⟨bn + 1, 0, none⟩ = some (.bool true) := by rw [(HC2.out.fr f10 (fun h => h)).cell]; rfl
    have HFE := hid (F0.trans HG10.out (S := fun _ => False) (fun i hi h => by omega))
    clear HQ10 f10 HC1 HC2
    by_cases hKr : K = rows
    · have hKd : ((K : Int) == Y) = true := by rw [HYR.out, hKr]; simp
      clear hKr
      go_wp2
      go_ret
      exact ⟨rfl, HFE.out⟩
    · have hKs : (K : Int) = stop := by rcases HKK.out with h | h; exact absurd h hKr; exact h.1
      have hKd : ((K : Int) == Y) = false := by rw [HYR.out]; simp; omega
      have hKe : ((K : Int) == stop) = true := by simp [hKs]
      have hKl : (K : Int) < Y := by rw [HYR.out]; omega
      clear hKs hKr
      go_wp2
      go_ret
      exact ⟨rfl, HFE.out⟩

set_option maxRecDepth 100000 in
set_option maxHeartbeats 4000000 in
theorem goes7_bad (X Y : Int) (a : Option Addr) (n cap : Nat) (V : Nat → Int) (b : Nat) (stop : Int) (w : World) (hn : Nums w a n cap V b) (hb1 : ¬ 2000 < n) (all rows : Nat) (hR : rightP X Y n = false) (ha0 : all = 0) (hr0 : rows = 0) (hal : all ≤ 1048576)  (hP : PtsOk X Y a n cap all stop w.heap.size (w.heap.size + 1)) (hRw : RwsOk X Y a n cap V b rows stop w.heap.size (w.heap.size + 1)) :
    Calls Try.prog 4 #[.agg #[.int .i64 X, .int .i64 Y, .slice a n cap], .int .i64 stop] w fun e w' => e = .returned (.bool true) ∧ Fr (fun _ => False) w w' := by
  have HP := hid hP
  have HRw := hid hRw
  have HR := hid hR
  clear hP hRw hR
  subst ha0 hr0
  clear hal
  obtain ⟨W, hW⟩ : ∃ W, W = (w.alloc (.cells #[.int .i64 X, .int .i64 Y, .slice a n cap] 24)).alloc (.cells #[.int .i64 stop] 3) := ⟨_, rfl⟩
  have F0 : Fr (fun _ => False) w W := by rw [hW]; exact ((Fr.refl _ w).alloc _).alloc _
  have hWs1 : W.heap.size ≤ w.heap.size + 2 := by rw [hW]; simp
  have hWs2 : w.heap.size + 2 ≤ W.heap.size := by rw [hW]; simp
  have O0 : Blk W w.heap.size #[.int .i64 X, .int .i64 Y, .slice a n cap] 24 := by rw [hW]; exact (Blk.new _ _ _).alloc _
  have O1 : Blk W (w.heap.size + 1) #[.int .i64 stop] 3 := by
    rw [hW]
    have := Blk.new (w.alloc (.cells #[.int .i64 X, .int .i64 Y, .slice a n cap] 24)) #[.int .i64 stop] 3
    simpa using this
  have HW := hid hW
  clear hW
  have HC : Hid (∀ S wq, Fr S W wq → (∀ j, j < w.heap.size + 2 → ¬ S j) → (wq.cell? ⟨w.heap.size, 0, none⟩ = some (.int .i64 X) ∧ wq.cell? ⟨w.heap.size, 1, none⟩ = some (.int .i64 Y) ∧ wq.cell? ⟨w.heap.size, 2, none⟩ = some (.slice a n cap)) ∧ wq.cell? ⟨w.heap.size + 1, 0, none⟩ = some (.int .i64 stop) ∧ Hid (Blk wq w.heap.size #[.int .i64 X, .int .i64 Y, .slice a n cap] 24 ∧ Blk wq (w.heap.size + 1) #[.int .i64 stop] 3 ∧ Nums wq a n cap V b)) := by
    intro S wq f hS
    have S0 := O0.fr f (hS _ (by omega))
    have S1 := O1.fr f (hS _ (by omega))
    exact ⟨⟨by rw [S0.cell]; rfl, by rw [S0.cell]; rfl, by rw [S0.cell]; rfl⟩, by rw [S1.cell]; rfl, S0, S1, (hn.quiet F0).fr f (fun h => hS _ (by have := hn.lt h; omega))⟩
  have HLT := hid (fun h => hn.lt h)
  clear O0 O1 hn
  go_enter Try.func4, Try.ntmps4
  have HB1 := hid hb1
  clear hb1
  go_wp2_with fail
  rw [← HW.out]
  refine (first7_any W).mono ?_
  rintro e w1 ⟨rfl, f1⟩
  obtain ⟨⟨k0, k1, k2⟩, l0, HQ⟩ := HC.out _ w1 f1 (fun _ _ h => h)
  go_wp2_with fail
  refine (big7_any X Y a n cap w1 HQ.out.2.2.len).mono ?_
  rintro e w2 ⟨rfl, f2⟩
  rw [decide_eq_false HB1.out]
  have g2 := f1.trans' f2
  clear k0 k1 k2 l0 HQ f1 f2
  obtain ⟨bn, hbn⟩ : ∃ bn, bn = w2.heap.size := ⟨_, rfl⟩
  obtain ⟨W3, hW3⟩ : ∃ W3, W3 = (w2.alloc (.cells #[.int .i64 0] 3)).alloc (.cells #[.bool true] 4) := ⟨_, rfl⟩
  have hs2 := g2.size
  have hs3 : w2.heap.size + 2 ≤ W3.heap.size := by rw [hW3]; simp
  have hbn1 : bn ≤ w2.heap.size := by omega
  have hbn2 : w2.heap.size ≤ bn := by omega
  have F3 : Fr (fun _ => False) W W3 := by rw [hW3]; exact (g2.alloc _).alloc _
  have N0 : Blk W3 bn #[.int .i64 0] 3 := by rw [hW3, hbn]; exact (Blk.new _ _ _).alloc _
  have N1 : Blk W3 (bn + 1) #[.bool true] 4 := by
    rw [hW3, hbn]
    have := Blk.new (w2.alloc (.cells #[.int .i64 0] 3)) #[.bool true] 4
    simpa using this
  have HW3 := hid hW3
  have HBN := hid hbn
  obtain ⟨⟨k0, k1, k2⟩, l0, HQ⟩ := HC.out _ W3 F3 (fun _ _ h => h)
  have K0 : ((w2.alloc (.cells #[.int .i64 0] 3)).alloc (.cells #[.bool true] 4)).cell? ⟨w.heap.size, 0, none⟩ = some (.int .i64 X) := by rw [← hW3]; exact k0
  have K1 : ((w2.alloc (.cells #[.int .i64 0] 3)).alloc (.cells #[.bool true] 4)).cell? ⟨w.heap.size, 1, none⟩ = some (.int .i64 Y) := by rw [← hW3]; exact k1
  have K2 : ((w2.alloc (.cells #[.int .i64 0] 3)).alloc (.cells #[.bool true] 4)).cell? ⟨w.heap.size, 2, none⟩ = some (.slice a n cap) := by rw [← hW3]; exact k2
  have HN0 := hid N0
  have HN1 := hid N1
  have HF3 := hid F3
  clear hW3 N0 N1 F3 g2 k0 k1 k2 hbn
  go_wp2_with fail
  rw [← HW3.out, ← HBN.out]
  refine (HP.out W3).mono ?_
  rintro e w4 ⟨bh, bw, rfl, f4, hcall⟩
  have HG4 := hid (HF3.out.trans' f4)
  obtain ⟨⟨j0, j1, j2⟩, m0, HQ4⟩ := HC.out _ w4 HG4.out (fun _ _ h => h)
  have HCl := hid (hcall (bn + 1) bn (by omega) (by omega) (HN1.out.fr f4 (fun h => h)) (HN0.out.fr f4 (fun h => h)) HQ4.out.1 HQ4.out.2.1 (by omega) (by omega) (by omega) (by omega) (by omega))
  clear hcall f4 K0 K1 K2 l0 HQ j0 j1 j2 m0 HQ4 HN0 HN1 HP
  go_wp2_with fail
  refine HCl.out.mono ?_
  rintro e w5 ⟨rfl, ⟨N, hNN, c1⟩, c2, f5⟩
  obtain rfl : N = 0 := by omega
  have HG5 := hid ((HG4.out.mono (S' := fun j => j = bn + 1 ∨ j = bn) (fun _ _ h => h.elim)).trans' f5)
  have hs5 := HG5.out.size
  obtain ⟨⟨j0, j1, j2⟩, m0, HQ5⟩ := HC.out _ w5 HG5.out (fun j h => by omega)
  have HC1 := hid c1
  have HC2 := hid c2
  have hl1 := c1.lt
  have hl2 := c2.lt
  clear c1 c2 f5 hNN HCl HG4
  go_wp2_with fail
  refine (rright_any X Y a n cap w5).mono ?_
  rintro e w6 ⟨rfl, f6⟩
  rw [HR.out]
  have HG6 := hid (HG5.out.trans f6 (fun _ _ h => h.elim))
  have hs6 := f6.size
  clear j0 j1 j2 m0 HQ5
  obtain ⟨⟨j0, j1, j2⟩, m0, HQ6⟩ := HC.out _ w6 HG6.out (fun j h => by omega)
  have D1 := HC1.out.fr f6 (fun h => h)
  have D2 := HC2.out.fr f6 (fun h => h)
  have n0 : w6.cell? ⟨bn, 0, none⟩ = some (.int .i64 0) := by rw [D1.cell]; rfl
  have n1 : w6.cell? ⟨bn + 1, 0, none⟩ = some (.bool true) := by rw [D2.cell]; rfl
  have HD2 := hid D2
  obtain ⟨W7, hW7⟩ : ∃ W7, W7 = w6.alloc (.cells #[.int .i64 0] 3) := ⟨_, rfl⟩
  obtain ⟨bk, hbk⟩ : ∃ bk, bk = w6.heap.size := ⟨_, rfl⟩
  have hs7 : w6.heap.size + 1 ≤ W7.heap.size := by rw [hW7]; simp
  have hbk1 : bk ≤ w6.heap.size := by omega
  have hbk2 : w6.heap.size ≤ bk := by omega
  have HG7 := hid (show Fr (fun j => j = bn + 1 ∨ j = bn) W W7 by rw [hW7]; exact HG6.out.alloc _)
  have HE2 := hid (show Blk W7 (bn + 1) #[.bool true] 4 by rw [hW7]; exact D2.alloc _)
  have HE1 := hid (show Blk W7 bk #[.int .i64 0] 3 by rw [hW7, hbk]; exact Blk.new _ _ _)
  obtain ⟨⟨k0, k1, k2⟩, l0, HQ7⟩ := HC.out _ W7 HG7.out (fun j h => by omega)
  have K0 : (w6.alloc (.cells #[.int .i64 0] 3)).cell? ⟨w.heap.size, 0, none⟩ = some (.int .i64 X) := by rw [← hW7]; exact k0
  have K1 : (w6.alloc (.cells #[.int .i64 0] 3)).cell? ⟨w.heap.size, 1, none⟩ = some (.int .i64 Y) := by rw [← hW7]; exact k1
  have K2 : (w6.alloc (.cells #[.int .i64 0] 3)).cell? ⟨w.heap.size, 2, none⟩ = some (.slice a n cap) := by rw [← hW7]; exact k2
  have HW7 := hid hW7
  have HBK := hid hbk
  clear hW7 D1 D2 HC1 HC2 f6 k0 k1 k2 l0 hbk
  go_wp2_with fail
  rw [← HW7.out, ← HBK.out]
  refine (HRw.out W7 HQ7.out.2.2).mono ?_
  rintro e w8 ⟨bh2, bv2, bw2, rfl, f8, hcall⟩
  have HG8 := hid (HG7.out.trans f8 (fun _ _ h => h.elim))
  clear j0 j1 j2 m0 n0 n1 K0 K1 K2
  obtain ⟨⟨j0, j1, j2⟩, m0, HQ8⟩ := HC.out _ w8 HG8.out (fun j h => by omega)
  have HCl := hid (hcall (bn + 1) bk (by omega) (by omega) (HE2.out.fr f8 (fun h => h)) (HE1.out.fr f8 (fun h => h)) HQ8.out.1 HQ8.out.2.1 (by omega) (by omega) (by omega) (by omega) (by omega) (fun h => by have := HLT.out h; omega))
  have hs8 := f8.size
  clear hcall f8 j0 j1 j2 m0 HQ8 HQ7 HQ6 HE1 HE2 HRw HW7 HD2
  go_wp2_with fail
  refine HCl.out.mono ?_
  rintro e w9 ⟨rfl, ⟨K, hKK, c1⟩, c2, f9⟩
  obtain rfl : K = 0 := by omega
  have HG9 := hid ((HG8.out.mono (S' := fun j => j = bn + 1 ∨ j = bn ∨ j = bk) (fun _ _ h => by omega)).trans f9 (fun _ _ h => by omega))
  have hs9 := f9.size
  obtain ⟨⟨j0, j1, j2⟩, m0, HQ9⟩ := HC.out _ w9 HG9.out (fun j h => by omega)
  have HC1 := hid c1
  have HC2 := hid c2
  clear c1 c2 f9 hKK HCl HG8
  go_wp2_with fail
  refine (rright_any X Y a n cap w9).mono ?_
  rintro e w10 ⟨rfl, f10⟩
  rw [HR.out]
  have HG10 := hid (HG9.out.trans f10 (fun _ _ h => h.elim))
  clear j0 j1 j2 m0 HQ9
  obtain ⟨⟨j0, j1, j2⟩, m0, HQ10⟩ := HC.out _ w10 HG10.out (fun j h => by omega)
  have p0 : w10.cell? ⟨bk, 0, none⟩ = some (.int .i64 0) := by rw [(HC1.out.fr f10 (fun h => h)).cell]; rfl
  have p1 : w10.cell? ⟨bn + 1, 0, none⟩ = some (.bool true) := by rw [(HC2.out.fr f10 (fun h => h)).cell]; rfl
  have HFE := hid (F0.trans HG10.out (S := fun _ => False) (fun i hi h => by omega))
  clear HQ10 f10 HC1 HC2
  go_wp2
  go_ret
  exact ⟨rfl, HFE.out⟩

set_option maxRecDepth 100000 in
set_option maxHeartbeats 2000000 in
theorem goes7_any (X Y : Int) (a : Option Addr) (n cap : Nat) (V : Nat → Int) (b : Nat) (stop : Int) (w : World) (hn : Nums w a n cap V b) :
    Calls Try.prog 4 #[.agg #[.int .i64 X, .int .i64 Y, .slice a n cap], .int .i64 stop] w fun e w' => e = .returned (.bool true) ∧ Fr (fun _ => False) w w' := by
  by_cases hb1 : 2000 < n
  rotate_left
  · cases hR : rightP X Y n with
    | false => exact goes7_bad X Y a n cap V b stop w hn hb1 0 0 hR rfl rfl (by omega) (ptsOk_bad hR) (rwsOk_bad hR)
    | true =>
      obtain ⟨x, y, rfl, rfl, g1, g2, g3, g4, hm⟩ := rightP_nat hR
      have hmm := mul_most g2 g4
      exact goes7_go x y a n cap V b stop w hn hb1 n y hR (by rw [hm, Int.natCast_mul]) rfl (by omega) (ptsOk_go g1 g2 g3 g4 hm.symm) (rwsOk_go g1 g2 g3 g4 hm.symm)
  · skip
    obtain ⟨W, hW⟩ : ∃ W, W = (w.alloc (.cells #[.int .i64 X, .int .i64 Y, .slice a n cap] 24)).alloc (.cells #[.int .i64 stop] 3) := ⟨_, rfl⟩
    have F0 : Fr (fun _ => False) w W := by rw [hW]; exact ((Fr.refl _ w).alloc _).alloc _
    have hWs1 : W.heap.size ≤ w.heap.size + 2 := by rw [hW]; simp
    have hWs2 : w.heap.size + 2 ≤ W.heap.size := by rw [hW]; simp
    have O0 : Blk W w.heap.size #[.int .i64 X, .int .i64 Y, .slice a n cap] 24 := by rw [hW]; exact (Blk.new _ _ _).alloc _
    have O1 : Blk W (w.heap.size + 1) #[.int .i64 stop] 3 := by
      rw [hW]
      have := Blk.new (w.alloc (.cells #[.int .i64 X, .int .i64 Y, .slice a n cap] 24)) #[.int .i64 stop] 3
      simpa using this
    have HW := hid hW
    clear hW
    have HC : Hid (∀ S wq, Fr S W wq → (∀ j, j < w.heap.size + 2 → ¬ S j) → (wq.cell? ⟨w.heap.size, 0, none⟩ = some (.int .i64 X) ∧ wq.cell? ⟨w.heap.size, 1, none⟩ = some (.int .i64 Y) ∧ wq.cell? ⟨w.heap.size, 2, none⟩ = some (.slice a n cap)) ∧ wq.cell? ⟨w.heap.size + 1, 0, none⟩ = some (.int .i64 stop) ∧ Hid (Blk wq w.heap.size #[.int .i64 X, .int .i64 Y, .slice a n cap] 24 ∧ Blk wq (w.heap.size + 1) #[.int .i64 stop] 3 ∧ Nums wq a n cap V b)) := by
      intro S wq f hS
      have S0 := O0.fr f (hS _ (by omega))
      have S1 := O1.fr f (hS _ (by omega))
      exact ⟨⟨by rw [S0.cell]; rfl, by rw [S0.cell]; rfl, by rw [S0.cell]; rfl⟩, by rw [S1.cell]; rfl, S0, S1, (hn.quiet F0).fr f (fun h => hS _ (by have := hn.lt h; omega))⟩
    have HLT := hid (fun h => hn.lt h)
    clear O0 O1 hn
    go_enter Try.func4, Try.ntmps4
    have HB1 := hid hb1
    clear hb1
    go_wp2_with fail
    rw [← HW.out]
    refine (first7_any W).mono ?_
    rintro e w1 ⟨rfl, f1⟩
    obtain ⟨⟨k0, k1, k2⟩, l0, HQ⟩ := HC.out _ w1 f1 (fun _ _ h => h)
    go_wp2_with fail
    refine (big7_any X Y a n cap w1 HQ.out.2.2.len).mono ?_
    rintro e w2 ⟨rfl, f2⟩
    rw [decide_eq_true HB1.out]
    clear k0 k1 k2 l0 HQ
    go_wp2
    go_ret
    exact ⟨rfl, F0.trans' (f1.trans' f2)⟩

theorem goes7_walk (X Y : Int) (a : Option Addr) (n cap : Nat) (V : Nat → Int) (stop : Int) (w : World) (c : CellsIn w a n cap (fun i => .int .i64 (V i))) :
    Calls Try.prog 4 #[.agg #[.int .i64 X, .int .i64 Y, .slice a n cap], .int .i64 stop] w fun e w' => e = .returned (.bool true) ∧ Below w.heap.size w w' := by
  obtain ⟨b, hn, _⟩ := Nums.of_in c
  exact (goes7_any X Y a n cap V b stop w hn).mono (fun e w' h => ⟨h.1, h.2.below (Nat.le_refl _) (fun _ _ h => h)⟩)
end Go.Proofs.Ythhhecdnnbgddaa
