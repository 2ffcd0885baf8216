/-
  Package wave: the rows and the columns of a part of a plane, each turned by a function.
-/
import Derived.Test.YtonalomagfekaaaWaveC
namespace Go.Proofs.Ytonalomagfekaaa
open Go.RowKit

theorem Row.part {w : World} {g n : Nat} {V : Nat → Int} (h : Row w g n V) (o m : Nat) (ho : o + m ≤ n) (hn : n ≤ maxLen) : Nums w (some ⟨g, o, none⟩) m (n - o) (fun j => V (o + j)) g :=
  ⟨by omega, by omega, fun _ => ⟨o, rfl, fun j hj => h.cell (by omega)⟩⟩

set_option maxHeartbeats 1000000 in
/-- Each row of a part, turned by a function. -/
theorem wrows_any (fn p : Nat) (T : (Nat → Int) → Nat → Int) (g n W H w h : Nat) (G : Grid) (hW : W * H = n) (hw1 : 1 ≤ w) (hw : w ≤ W) (hh : h ≤ H) (hW' : W ≤ 1024) (hH' : H ≤ 1024) (hn : n ≤ 1048576) (wd : World) (hr : Row wd g n (flatG W G)) (hI : AllG w h I64 G)
    (HFN : ∀ (x : Array Value) (w' : World), Sem.run Try.prog (callFunc fn x) w' = .ok (.enter fn x) w')
    (HT : ∀ (a : Option Addr) (cap : Nat) (U : Nat → Int) (b : Nat) (w' : World), Fr (fun k => k = g) wd w' → Nums w' a w cap U b → (∀ j, j < w → I64 (U j)) → Calls Try.prog fn #[.slice a w cap, .pointer (some ⟨p, 0, none⟩)] w' fun e w'' => MadeL w' w'' e w (T U)) :
    Calls Try.prog 47 #[.agg #[.slice (some ⟨g, 0, none⟩) n n, .int .i64 (W : Int), .int .i64 (w : Int), .int .i64 (h : Int)], .func (.func fn) #[] #[.pointer (some ⟨p, 0, none⟩)]] wd fun e w' => e = .returned (.tuple #[]) ∧ Row w' g n (flatG W (layG w h G fun y x => T (G y) x)) ∧ Fr (fun k => k = g) wd w' := by
  have hgl := hr.lt
  obtain ⟨W0, hW0⟩ : ∃ W0, W0 = wd.alloc (.cells #[.slice (some ⟨g, 0, none⟩) n n, .int .i64 (W : Int), .int .i64 (w : Int), .int .i64 (h : Int)] 48) := ⟨_, rfl⟩
  have B0 : Blk W0 wd.heap.size #[.slice (some ⟨g, 0, none⟩) n n, .int .i64 (W : Int), .int .i64 (w : Int), .int .i64 (h : Int)] 48 := by rw [hW0]; exact Blk.new _ _ _
  have R0 : Row W0 g n (flatG W G) := by rw [hW0]; exact hr.quiet ((Fr.refl _ wd).alloc _)
  have F0 : Fr (fun k => k = g) wd W0 := by rw [hW0]; exact (Fr.refl _ wd).alloc _
  have HB : Hid (∀ wr, Fr (fun k => k = g) W0 wr → wr.cell? ⟨wd.heap.size, 0, none⟩ = some (.slice (some ⟨g, 0, none⟩) n n) ∧ wr.cell? ⟨wd.heap.size, 1, none⟩ = some (.int .i64 (W : Int)) ∧ wr.cell? ⟨wd.heap.size, 2, none⟩ = some (.int .i64 (w : Int)) ∧ wr.cell? ⟨wd.heap.size, 3, none⟩ = some (.int .i64 (h : Int))) := by
    intro wr f
    have B1 := B0.fr f (by omega)
    exact ⟨by rw [B1.cell]; rfl, by rw [B1.cell]; rfl, by rw [B1.cell]; rfl, by rw [B1.cell]; rfl⟩
  have HW0 := hid hW0
  have HF0 := hid F0
  have HT' := hid HT
  have HFN' := hid HFN
  have HWH := hid hW
  have HI := hid hI
  clear hW0 B0 F0 HT HFN hr hW hI
  go_enter Try.func47, Try.ntmps47
  go_wp2
  rw [← HW0.out]
  go_loopw [8] (fun i wr => ∃ k : Nat, k ≤ h ∧ i = .int .i64 (k : Int) ∧ Row wr g n (flatG W (layG w k G fun y x => T (G y) x)) ∧ Fr (fun j => j = g) W0 wr) (fun i _ => h - (intOf i).toNat)
  case atStart => exact ⟨0, Nat.zero_le _, rfl, R0.congr (fun j _ => by unfold flatG; rw [layG_none]), Fr.refl _ _⟩
  case round =>
    obtain ⟨k, hk, rfl, hr, F⟩ := hrel
    by_cases hlt : k < h
    · have hki : (k : Int) < (h : Int) := by omega
      obtain ⟨c0, c1, c2, c3⟩ := HB.out wr F
      have hy : k * W + W ≤ n := row_end HWH.out (by omega)
      have HR := hid hr
      clear hr
      go_wp2_with fail
      refine (wrow_any g n W w h k hw1 hw hn hy wr).mono ?_
      rintro e w1 ⟨rfl, f1⟩
      have R1 := HR.out.quiet f1
      have F1 := F.trans f1 (fun _ _ h => False.elim h)
      have N1 := ((R1.part (k * W) w (by omega) (by unfold maxLen; omega)).congr (V' := G k) fun j hj => by rw [flatG_at (by omega), layG_out (by omega)])
      clear c0 c1 c2 c3 f1 HR F
      go_wp2_with fail
      rw [HFN'.out]
      refine (HT'.out _ _ (G k) g w1 (HF0.out.trans' F1) N1 (fun j hj => HI.out k j hlt hj)).mono ?_
      rintro e w2 ⟨a2, cap2, b2, rfl, N2, _, _, f2⟩
      have R2 := R1.quiet f2
      have F2 := F1.trans f2 (fun _ _ h => False.elim h)
      obtain ⟨w3, hrun, R3, f3⟩ := copy_into R2 (k * W) w (n - k * W) (by omega) N2 (by omega) 3
      have R3' := R3.congr (V' := flatG W (layG w (k + 1) G fun y x => T (G y) x)) fun j _ => rowN_band (B := fun y x => T (G y) x) hw (by omega) j
      have F3 := F2.trans' f3
      have HR3 := hid R3'
      obtain ⟨s, hs⟩ : ∃ s, s = k * W := ⟨_, rfl⟩
      rw [← hs] at hrun ⊢
      clear R1 R2 R3 R3' F1 F2 f2 f3 N1 N2 hs hy
      go_wp2
      go_roundw
      case rel => exact ⟨k + 1, by omega, by go_num, HR3.out, F3⟩
      case measure => simp [intOf]; omega
    · have hki : ¬ (k : Int) < (h : Int) := by omega
      obtain rfl : k = h := by omega
      have HR := hid hr
      clear hr
      go_wp2
      go_end0
      exact ⟨rfl, HR.out, HF0.out.trans' F⟩
end Go.Proofs.Ytonalomagfekaaa
