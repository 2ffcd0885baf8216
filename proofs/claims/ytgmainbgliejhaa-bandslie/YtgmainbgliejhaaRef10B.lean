/-
  The document's answer for layer 10: List.
-/
import Derived.Test.YtgmainbgliejhaaBandsM
namespace Go.Proofs.Ytgmainbgliejhaa
open Go.RowKit

theorem half_int (x : Nat) : Int.tdiv (x : Int) 2 = ((x / 2 : Nat) : Int) := by
  rw [Int.tdiv_eq_ediv_of_nonneg (by omega)]; omega
theorem cells_new (w : World) (l : List Value) (t : TypeId) : ∀ j u, l[j]? = some u → (w.alloc (.cells l.toArray t)).cell? ((⟨w.heap.size, 0, none⟩ : Addr).add j) = some u := by
  intro j u hj
  have hadd : (⟨w.heap.size, 0, none⟩ : Addr).add j = ⟨w.heap.size, j, none⟩ := by unfold Addr.add; split <;> simp_all
  rw [hadd, (Blk.new w l.toArray t).cell j, List.getElem?_toArray, hj]

set_option maxRecDepth 100000 in
set_option maxHeartbeats 2000000 in
theorem rlist_go (d : Nat) : ∀ (x y : Nat) (w : World), FitsN d x → FitsN d y → x ≤ 1024 → y ≤ 1024 → d ≤ 6 →
    Calls Try.prog 8 #[.int .i64 (x : Int), .int .i64 (y : Int), .int .i64 (d : Int)] w fun e w' => ∃ v, e = .returned v ∧ w'.ownsRow w.heap.size 31 6 v (3 * d + 1) (bandRow (bandsR d x y)) ∧ Fr (fun _ => False) w w' := by
  induction d with
  | zero =>
    intro x y w fx fy hx hy hd
    have h1 := fx.1
    have h2 := fy.1
    have p1 : padN (x : Int) ((0 : Nat) : Int) = (x : Int) := (padN_self (by omega)).2 ⟨x, 0, rfl, rfl, hx, hd, fx⟩
    have p2 : padN (y : Int) ((0 : Nat) : Int) = (y : Int) := (padN_self (by omega)).2 ⟨y, 0, rfl, rfl, hy, hd, fy⟩
    have HP := hid (fun z w1 => rpadded_any z ((0 : Nat) : Int) w1)
    clear fx fy
    go_enter Try.func8, Try.ntmps8
    go_wp2_with fail
    refine (HP.out _ _).mono ?_
    rintro e w1 ⟨rfl, rfl⟩
    rw [p1]
    go_wp2_with fail
    refine (HP.out _ _).mono ?_
    rintro e w1 ⟨rfl, rfl⟩
    rw [p2]
    go_wp2
    go_ret
    refine ⟨_, rfl, ?_, (Fr.refl _ _).alloc _⟩
    refine ⟨by rw [bandRow_length, bandsR_length], .inr ⟨w1.heap.size, 1, _, rfl, Nat.le_refl _, Blk.new _ _ _, by omega, by unfold maxLen; omega, rfl, ?_⟩⟩
    simp [bandsR, bandRow, bandC]
  | succ d ih =>
    intro x y w fx fy hx hy hd
    have h1 := fx.1
    have h2 := fy.1
    have p1 : padN (x : Int) ((d + 1 : Nat) : Int) = (x : Int) := (padN_self (by omega)).2 ⟨x, d + 1, rfl, rfl, hx, hd, fx⟩
    have p2 : padN (y : Int) ((d + 1 : Nat) : Int) = (y : Int) := (padN_self (by omega)).2 ⟨y, d + 1, rfl, rfl, hy, hd, fy⟩
    obtain ⟨x2, hx2⟩ : ∃ x2, x / 2 = x2 := ⟨_, rfl⟩
    obtain ⟨y2, hy2⟩ : ∃ y2, y / 2 = y2 := ⟨_, rfl⟩
    have HI := hid (fun w1 => ih x2 y2 w1 (by rw [← hx2]; exact fx.half) (by rw [← hy2]; exact fy.half) (by omega) (by omega) (by omega))
    have HL : Hid (bandRow (bandsR d x2 y2) ++ bandRow (threeB (d + 1) x y) = bandRow (bandsR (d + 1) x y)) := by
      show _ = _
      rw [← bandRow_append, ← hx2, ← hy2]; rfl
    have H3 : Hid (bandRow (threeB (d + 1) x y) = [.int .i64 ((d + 1 : Nat) : Int), .int .i64 1, .int .i64 (x2 : Int), .int .i64 0, .int .i64 (x2 : Int), .int .i64 (y2 : Int), .int .i64 ((d + 1 : Nat) : Int), .int .i64 2, .int .i64 0, .int .i64 (y2 : Int), .int .i64 (x2 : Int), .int .i64 (y2 : Int), .int .i64 ((d + 1 : Nat) : Int), .int .i64 3, .int .i64 (x2 : Int), .int .i64 (y2 : Int), .int .i64 (x2 : Int), .int .i64 (y2 : Int)]) := by
      show _ = _
      rw [← hx2, ← hy2]; rfl
    have q1 : Int.tdiv (x : Int) 2 = (x2 : Int) := by rw [half_int, hx2]
    have q2 : Int.tdiv (y : Int) 2 = (y2 : Int) := by rw [half_int, hy2]
    have q1' : (x : Int) / 2 = (x2 : Int) := by omega
    have q2' : (y : Int) / 2 = (y2 : Int) := by omega
    have hx2' : x2 ≤ 1024 := by omega
    have hy2' : y2 ≤ 1024 := by omega
    obtain ⟨D, hD⟩ : ∃ D, d + 1 = D := ⟨_, rfl⟩
    have hDI : (D : Int) - 1 = (d : Int) := by omega
    have hD0 : ¬ (D : Int) = 0 := by omega
    rw [hD] at p1 p2 HL H3 hd ⊢
    have HP := hid (fun z w1 => rpadded_any z (D : Int) w1)
    have HN : Hid (3 * d + 1 + 3 = 3 * D + 1) := by show _ = _; omega
    have hd19 : d ≤ 6 := by omega
    clear fx fy hx2 hy2 ih hD
    go_enter Try.func8, Try.ntmps8
    go_wp2_with fail
    refine (HP.out _ _).mono ?_
    rintro e w1 ⟨rfl, rfl⟩
    rw [p1]
    go_wp2_with fail
    refine (HP.out _ _).mono ?_
    rintro e w1 ⟨rfl, rfl⟩
    rw [p2]
    go_wp2_with fail
    refine (HI.out _).mono ?_
    rintro e w2 ⟨v, rfl, ho, f2⟩
    have hs2 := f2.size
    obtain ⟨i0, hi, hz0, hz1, hz2⟩ := info_parts Try.info_band
    go_wp2_with (at_builtin; refine wpList_append_own _ rfl _ _ 24 rfl w1.heap.size 31 i0 (.agg #[.int .i64 0, .int .i64 0, .int .i64 0, .int .i64 0, .int .i64 0, .int .i64 0]) 6 48 Try.underlying24 hi hz0 hz1 hz2 rfl (by decide) v (3 * d + 1) _ rfl (ho.alloc _) ⟨w2.heap.size, 0, none⟩ 3 3 (bandRow (threeB D x y)) rfl (by rw [bandRow_length]; rfl) (by rw [H3.out]; exact cells_new _ _ _) (bandRow_one _) (by unfold maxLen; omega) (by omega) (by simp; omega) ?_)
    intro v' w3 ho' hg _
    rw [HL.out, HN.out] at ho'
    have HE : Hid (w3.ownsRow w1.heap.size 31 6 v' (3 * D + 1) (bandRow (bandsR D x y)) ∧ Fr (fun _ => False) w1 w3) := ⟨ho', (f2.alloc _).grown hg (fun k e hk => by have := (ho.lt k e).1; omega)⟩
    clear ho ho' hg f2
    go_wp2
    go_ret
    exact ⟨_, rfl, HE.out.1, HE.out.2⟩
end Go.Proofs.Ytgmainbgliejhaa
