/-
  Law 7, PlaneGoes: Rows, as the law asks it.
-/
import Derived.Test.YthhhecdnnbgddaaGoes7
namespace Go.Proofs.Ythhhecdnnbgddaa
open Go.RowKit

set_option maxRecDepth 100000 in
set_option maxHeartbeats 2000000 in
/-- Rows, as the law asks it. -/
theorem grows_go (x y : Nat) (a : Option Addr) (m cap : Nat) (V : Nat → Int) (b : Nat) (stop : Int) (bh bv bw g bo bk bp bs : Nat) (w : World) (hx : 1 ≤ x) (hx' : x ≤ 1024) (hy' : y ≤ 1024) (hm : x * y = m)
    (hBh : Blk w bh #[.int .i64 (y : Int)] 3) (hBv : Blk w bv #[.slice (some ⟨g, 0, none⟩) m m] 22) (hBw : Blk w bw #[.int .i64 (x : Int)] 3) (hG : Row w g m V) (hN : Nums w a m cap V b)
    (hBo : Blk w bo #[.bool true] 4) (hBk : Blk w bk #[.int .i64 0] 3) (hBp : Blk w bp #[.int .i64 (x : Int), .int .i64 (y : Int), .slice a m cap] 24) (hBs : Blk w bs #[.int .i64 stop] 3)
    (h1 : bo ≠ bk) (h2 : bo ≠ bp) (h3 : bo ≠ bs) (h4 : bk ≠ bp) (h5 : bk ≠ bs) (h6 : bv ≠ bo) (h7 : bv ≠ bk) (h8 : bw ≠ bo) (h9 : bw ≠ bk) (h10 : g ≠ bo) (h11 : g ≠ bk) (h12 : 0 < m → b ≠ bo ∧ b ≠ bk) :
    Calls Try.prog 36 #[.func (.func 20) #[] #[.pointer (some ⟨bo, 0, none⟩), .pointer (some ⟨bk, 0, none⟩), .pointer (some ⟨bp, 0, none⟩), .pointer (some ⟨bs, 0, none⟩)], .pointer (some ⟨bh, 0, none⟩), .pointer (some ⟨bv, 0, none⟩), .pointer (some ⟨bw, 0, none⟩)] w fun e w' =>
      e = .returned (.tuple #[]) ∧ (∃ K : Nat, (K = y ∨ ((K : Int) = stop ∧ K ≤ y)) ∧ Blk w' bk #[.int .i64 (K : Int)] 3) ∧ Blk w' bo #[.bool true] 4 ∧ Fr (fun j => j = bo ∨ j = bk) w w' := by
  have hmm := mul_most hx' hy'
  rw [hm] at hmm
  have hc0 : w.cell? ⟨bh, 0, none⟩ = some (.int .i64 (y : Int)) := by rw [hBh.cell]; rfl
  have HW : Hid (∀ wr, Fr (fun j => j = bo ∨ j = bk) w wr → wr.cell? ⟨bw, 0, none⟩ = some (.int .i64 (x : Int)) ∧ wr.cell? ⟨bv, 0, none⟩ = some (.slice (some ⟨g, 0, none⟩) m m)) := fun wr f => ⟨by rw [(hBw.fr f (by omega)).cell]; rfl, by rw [(hBv.fr f (by omega)).cell]; rfl⟩
  have HFl : Hid (∀ k, k < y → k * x + x ≤ m) := fun k hk => by
    have : (k + 1) * x ≤ y * x := Nat.mul_le_mul_right x hk
    rw [Nat.add_mul, Nat.one_mul] at this
    rw [← hm, Nat.mul_comm x y]; exact this
  have HFr : Hid (∀ wr k, Fr (fun j => j = bo ∨ j = bk) w wr → k < y → Calls Try.prog 35 #[.slice (some ⟨g, k * x, none⟩) x (m - k * x)] wr fun e w' => ∃ r, e = .returned (.slice (some ⟨r, 0, none⟩) x x) ∧ Row w' r x (fun i => V (k * x + i)) ∧ wr.heap.size ≤ r ∧ Fr (fun _ => False) wr w') := by
    intro wr k f hk
    have hfl := HFl.out k hk
    have hg := hG.fr f (by omega)
    refine pfresh_any wr _ x (m - k * x) (fun i => V (k * x + i)) g ⟨by omega, by unfold maxLen; omega, fun _ => ⟨k * x, rfl, fun j hj => ?_⟩⟩ (by omega)
    exact hg.cell (by omega)
  have HK : Hid (∀ wr k r, k < y → Fr (fun j => j = bo ∨ j = bk) w wr → w.heap.size ≤ r → Blk wr bo #[.bool true] 4 → Blk wr bk #[.int .i64 ((k : Nat) : Int)] 3 → Row wr r x (fun i => V (k * x + i)) → Calls Try.prog 20 #[.int .i64 (k : Int), .slice (some ⟨r, 0, none⟩) x x, .pointer (some ⟨bo, 0, none⟩), .pointer (some ⟨bk, 0, none⟩), .pointer (some ⟨bp, 0, none⟩), .pointer (some ⟨bs, 0, none⟩)] wr fun e w' =>
      e = .returned (.bool (!decide (((k + 1 : Nat) : Int) = stop))) ∧ Blk w' bo #[.bool true] 4 ∧ Blk w' bk #[.int .i64 ((k + 1 : Nat) : Int)] 3 ∧ Fr (fun j => j = bo ∨ j = bk) w w') := by
    intro wr k r hk f hr b1 b2 b3
    have l1 := hBo.lt
    have l2 := hBk.lt
    have l3 := hBp.lt
    have l4 := hBs.lt
    refine (goes2_go x y k a m cap V b stop r bo bk bp bs wr hx' hy' hm hk (hN.fr f (fun h => by have := h12 h; omega)) b3 b1 b2 (hBp.fr f (by omega)) (hBs.fr f (by omega)) h1 h2 h3 h4 h5 (by omega) (by omega) (by omega) (by omega) (fun h => ⟨(h12 h).1, ?_⟩)).mono (fun e w' ⟨q1, q2, q3, q4⟩ => ⟨q1, q2, q3, f.trans q4 (fun i hi h => by omega)⟩)
    have := hN.lt h
    omega
  have HO := hid hBo
  have HN := hid hBk
  have HS := hid (Nat.le_refl w.heap.size)
  clear hBh hBw hBo hBk hBp hBs hBv hG hN h1 h2 h3 h4 h5 h6 h7 h8 h9 h10 h11 h12 hm
  go_enter Try.func36, Try.ntmps36
  go_wp2
  go_step3
  go_wp2
  go_step3
  go_wp2
  go_loopw [7] (fun i wr => ∃ k : Nat, k ≤ y ∧ i = .int .i64 (k : Int) ∧ Blk wr bo #[.bool true] 4 ∧ Blk wr bk #[.int .i64 (k : Int)] 3 ∧ Fr (fun j => j = bo ∨ j = bk) w wr) (fun i _ => y - (intOf i).toNat)
  case atStart => exact ⟨0, Nat.zero_le _, rfl, HO.out, HN.out, Fr.refl _ _⟩
  case round =>
    obtain ⟨k, hk, rfl, b1, b2, F⟩ := hrel
    have HB1 := hid b1
    have HB2 := hid b2
    have HF := hid F
    clear b1 b2 F
    by_cases hlt : k < y
    · have hki : (k : Int) < (y : Int) := by omega
      obtain ⟨e1, e2⟩ := HW.out wr HF.out
      have hfl := HFl.out k hlt
      have HC := hid (HFr.out wr k HF.out hlt)
      have HK2 := hid (fun wr r => HK.out wr k r hlt)
      obtain ⟨s, hs⟩ : ∃ s : Nat, k * x = s := ⟨_, rfl⟩
      rw [hs] at HC hfl HK2
      have hI1 : (k : Int) * (x : Int) = (s : Int) := by rw [← hs, Int.natCast_mul]
      have hI2 : ((k : Int) + 1) * (x : Int) = ((s + x : Nat) : Int) := by rw [Int.add_mul, Int.one_mul, hI1, Int.natCast_add]
      clear hs
      have hsz := HF.out.size
      go_wp2_with fail
      refine HC.out.mono ?_
      rintro e w5 ⟨r, rfl, b3, hr, f5⟩
      have HG5 := hid (HF.out.trans f5 (fun _ _ h => h.elim))
      have HCl := hid (HK2.out w5 r HG5.out (by omega) (HB1.out.fr f5 (fun h => h)) (HB2.out.fr f5 (fun h => h)) b3)
      clear b3 f5 HK2 HC
      by_cases hst : ((k + 1 : Nat) : Int) = stop
      · rw [decide_eq_true hst] at HCl
        have HST := hid hst
        clear hst
        go_wp2_with fail
        refine HCl.out.mono ?_
        rintro e w3 ⟨rfl, b1, b2, F⟩
        have HD1 := hid b1
        have HD2 := hid b2
        have HD := hid F
        clear b1 b2 F
        go_wp2
        rw [Exit.noGoto_normal]
        go_end0
        exact ⟨rfl, ⟨_, .inr ⟨HST.out, by omega⟩, HD2.out⟩, HD1.out, HD.out⟩
      · rw [decide_eq_false hst] at HCl
        clear hst
        go_wp2_with fail
        refine HCl.out.mono ?_
        rintro e w3 ⟨rfl, b1, b2, F⟩
        have HD1 := hid b1
        have HD2 := hid b2
        have HD := hid F
        clear b1 b2 F
        go_wp2
        go_roundw
        case rel => exact ⟨k + 1, by omega, by go_num, HD1.out, HD2.out, HD.out⟩
        case measure => simp [intOf]; omega
    · have hki : ¬ (k : Int) < (y : Int) := by omega
      obtain rfl : k = y := by omega
      go_wp2
      go_end0
      exact ⟨rfl, ⟨_, .inl rfl, HB2.out⟩, HB1.out, HF.out⟩

set_option maxHeartbeats 1000000 in
/-- Rows, of no rows. -/
theorem grows_none (f : Value) (bh bv bw : Nat) (w : World) (hBh : Blk w bh #[.int .i64 0] 3) :
    Calls Try.prog 36 #[f, .pointer (some ⟨bh, 0, none⟩), .pointer (some ⟨bv, 0, none⟩), .pointer (some ⟨bw, 0, none⟩)] w fun e w' => e = .returned (.tuple #[]) ∧ w' = w := by
  have hc0 : w.cell? ⟨bh, 0, none⟩ = some (.int .i64 0) := by rw [hBh.cell]; rfl
  clear hBh
  go_enter Try.func36, Try.ntmps36
  go_wp2
  go_step3
  go_wp2
  go_step3
  go_wp2
  go_loopw [7] (fun i wr => i = .int .i64 0 ∧ SameW wr w) (fun _ _ => 0)
  case atStart => exact ⟨rfl, SameW.rfl⟩
  case round =>
    obtain ⟨rfl, hs⟩ := hrel
    go_wp2
    rw [Exit.noGoto_normal]
    go_end0
    exact ⟨rfl, hs⟩
end Go.Proofs.Ythhhecdnnbgddaa
