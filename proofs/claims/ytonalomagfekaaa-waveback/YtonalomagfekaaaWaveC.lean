/-
  Package wave: a part of a plane: its rows, its numbers.
-/
import Derived.Test.YtonalomagfekaaaWaveM
import Derived.BigQuiet
import Derived.StillTailTactics
namespace Go.Proofs.Ytonalomagfekaaa
open Go.RowKit

/-- A part of a plane, as a value. -/
def partA (g n W w h : Nat) : Array Value := #[.slice (some ⟨g, 0, none⟩) n n, .int .i64 (W : Int), .int .i64 (w : Int), .int .i64 (h : Int)]

theorem wrow_any (g n W w h y : Nat) (hw1 : 1 ≤ w) (hw : w ≤ W) (hn : n ≤ 1048576) (hy : y * W + W ≤ n) (wd : World) :
    Calls Try.prog 62 #[.agg #[.slice (some ⟨g, 0, none⟩) n n, .int .i64 (W : Int), .int .i64 (w : Int), .int .i64 (h : Int)], .int .i64 (y : Int)] wd fun e w' => e = .returned (.slice (some ⟨g, y * W, none⟩) w (n - y * W)) ∧ Fr (fun _ => False) wd w' := by
  obtain ⟨s, hs⟩ : ∃ s, s = y * W := ⟨_, rfl⟩
  rw [← hs] at hy ⊢
  have hI : (y : Int) * (W : Int) = (s : Int) := by rw [hs, Int.natCast_mul]
  clear hs
  obtain ⟨q, hq⟩ : ∃ q, q = s + w := ⟨_, rfl⟩
  have h1 : (s : Int) + (w : Int) = (q : Int) := by omega
  have h2 : q ≤ n := by omega
  have h3 : s ≤ q := by omega
  have HQ : Hid (q - s = w) := by show _ = _; omega
  have hne : ¬ n = s := by omega
  clear hq hy
  go_enter Try.func62, Try.ntmps62
  go_wp2
  go_ret
  exact ⟨by rw [HQ.out]; rfl, (Fr.refl _ wd).alloc _⟩

set_option maxHeartbeats 1000000 in
/-- Each number of a part, turned by a function. -/
theorem wnumbers_any (fn : Nat) (T : Int → Int) (g n W H w h : Nat) (G : Grid) (hW : W * H = n) (hw1 : 1 ≤ w) (hw : w ≤ W) (hh : h ≤ H) (hW' : W ≤ 1024) (hH' : H ≤ 1024) (hn : n ≤ 1048576) (wd : World) (hr : Row wd g n (flatG W G))
    (HFN : ∀ (x : Array Value) (w' : World), Sem.run Try.prog (callFunc fn x) w' = .ok (.enter fn x) w') (HT : ∀ (z : Int) (w' : World), Calls Try.prog fn #[.int .i64 z] w' fun e w'' => e = .returned (.int .i64 (T z)) ∧ w'' = w') :
    Calls Try.prog 45 #[.agg #[.slice (some ⟨g, 0, none⟩) n n, .int .i64 (W : Int), .int .i64 (w : Int), .int .i64 (h : Int)], .func (.func fn) #[] #[]] wd fun e w' => e = .returned (.tuple #[]) ∧ Row w' g n (flatG W (layG w h G fun y x => T (G y x))) ∧ Fr (fun k => k = g) wd w' := by
  have hgl := hr.lt
  obtain ⟨W0, hW0⟩ : ∃ W0, W0 = wd.alloc (.cells #[.slice (some ⟨g, 0, none⟩) n n, .int .i64 (W : Int), .int .i64 (w : Int), .int .i64 (h : Int)] 48) := ⟨_, rfl⟩
  have B0 : Blk W0 wd.heap.size #[.slice (some ⟨g, 0, none⟩) n n, .int .i64 (W : Int), .int .i64 (w : Int), .int .i64 (h : Int)] 48 := by rw [hW0]; exact Blk.new _ _ _
  have R0 : Row W0 g n (flatG W G) := by rw [hW0]; exact hr.quiet ((Fr.refl _ wd).alloc _)
  have F0 : Fr (fun k => k = g) wd W0 := by rw [hW0]; exact (Fr.refl _ wd).alloc _
  have HB : Hid (∀ wr, Fr (fun k => k = g) W0 wr → wr.cell? ⟨wd.heap.size, 0, none⟩ = some (.slice (some ⟨g, 0, none⟩) n n) ∧ wr.cell? ⟨wd.heap.size, 1, none⟩ = some (.int .i64 (W : Int)) ∧ wr.cell? ⟨wd.heap.size, 2, none⟩ = some (.int .i64 (w : Int)) ∧ wr.cell? ⟨wd.heap.size, 3, none⟩ = some (.int .i64 (h : Int))) := by
    intro wr f
    have B1 := B0.fr f (by omega)
    exact ⟨by rw [B1.cell]; rfl, by rw [B1.cell]; rfl, by rw [B1.cell]; rfl, by rw [B1.cell]; rfl⟩
  have HW0 := hid hW0
  have HF0 := hid F0
  have HT' := hid HT
  have HFN' := hid HFN
  have HWH := hid hW
  clear hW0 B0 F0 HT HFN hr hW
  go_enter Try.func45, Try.ntmps45
  go_wp2
  rw [← HW0.out]
  go_loopw [10] (fun i wr => ∃ k : Nat, k ≤ h ∧ i = .int .i64 (k : Int) ∧ Row wr g n (flatG W (layG w k G fun y x => T (G y x))) ∧ Fr (fun j => j = g) W0 wr) (fun i _ => h - (intOf i).toNat)
  case atStart => exact ⟨0, Nat.zero_le _, rfl, R0.congr (fun j _ => by unfold flatG; rw [layG_none]), Fr.refl _ _⟩
  case round =>
    obtain ⟨k, hk, rfl, hr, F⟩ := hrel
    by_cases hlt : k < h
    · have hki : (k : Int) < (h : Int) := by omega
      obtain ⟨c0, c1, c2, c3⟩ := HB.out wr F
      have hy : k * W + W ≤ n := row_end HWH.out (by omega)
      have HR := hid hr
      clear hr
      go_wp2_with fail
      refine (wrow_any g n W w h k hw1 hw hn hy wr).mono ?_
      rintro e w1 ⟨rfl, f1⟩
      have R1 := HR.out.quiet f1
      have F1 := F.trans f1 (fun _ _ h => False.elim h)
      obtain ⟨s, hs⟩ : ∃ s, s = k * W := ⟨_, rfl⟩
      rw [← hs] at hy ⊢
      have HS := hid hs
      clear hs c0 c1 c2 c3 f1 HR F
      go_wp2
      go_loopw [18] (fun i wr => ∃ q : Nat, q ≤ w ∧ i = .int .i64 (q : Int) ∧ Row wr g n (flatG W (rowN w k q G fun y x => T (G y x))) ∧ Fr (fun j => j = g) W0 wr) (fun i _ => w - (intOf i).toNat)
      case atStart => exact ⟨0, Nat.zero_le _, rfl, R1.congr (fun j _ => by unfold flatG; rw [rowN_zero]), F1⟩
      case round =>
        obtain ⟨q, hq, rfl, hr, F⟩ := hrel
        by_cases hlq : q < w
        · have hqi : (q : Int) < (w : Int) := by omega
          have ck := hr.cell (show s + q < n by omega)
          have cf := hr.thaw (s + q)
          have ev : flatG W (rowN w k q G fun y x => T (G y x)) (s + q) = G k q := by rw [HS.out, flatG_at (by omega), rowN_here]
          rw [ev] at ck
          have HSET : Hid (∀ j, (if j = s + q then T (G k q) else flatG W (rowN w k q G fun y x => T (G y x)) j) = flatG W (rowN w k (q + 1) G fun y x => T (G y x)) j) := fun j => by
            rw [HS.out]
            exact rowN_set (B := fun y x => T (G y x)) (by omega) j
          obtain ⟨z, hz⟩ : ∃ z, z = G k q := ⟨_, rfl⟩
          rw [← hz] at ck HSET
          have HR := hid hr
          clear hr ev hz
          go_wp2_with fail
          rw [HFN'.out]
          refine (HT'.out z _).mono ?_
          rintro e w2 ⟨rfl, rfl⟩
          go_wp2
          go_roundw
          case rel =>
            exact ⟨q + 1, by omega, by go_num, (HR.out.set (s + q) _).congr fun j _ => HSET.out j, F.setCell (p := ⟨g, s + q, none⟩) (fun _ => rfl) _⟩
          case measure => simp [intOf]; omega
        · have hqi : ¬ (q : Int) < (w : Int) := by omega
          obtain rfl : q = w := by omega
          have HR := hid hr
          clear hr
          go_wp2
          go_roundw
          case rel => exact ⟨k + 1, by omega, by go_num, HR.out.congr (fun j _ => by unfold flatG; rw [rowN_end]), F⟩
          case measure => simp [intOf]; omega
    · have hki : ¬ (k : Int) < (h : Int) := by omega
      obtain rfl : k = h := by omega
      have HR := hid hr
      clear hr
      go_wp2
      go_end0
      exact ⟨rfl, HR.out, HF0.out.trans' F⟩
end Go.Proofs.Ytonalomagfekaaa
