/-
  Law 8: what must be answered, ahead of everything else.
-/
import Derived.Test.YtpkjnnalpoimhaaRef8F
namespace Go.Proofs.Ytpkjnnalpoimhaa
open Go.RowKit

/-- Numbers that are written down. -/
def litV (l : List Int) : Nat → Int := fun j => l.getD j 0
theorem Nums.lit (w : World) (l : List Int) (h : l.length ≤ 1000) : Nums (w.alloc (.cells (l.map (Value.int .i64)).toArray 3)) (some ⟨w.heap.size, 0, none⟩) l.length l.length (litV l) w.heap.size := by
  refine ⟨Nat.le_refl _, by unfold maxLen; omega, fun _ => ⟨0, rfl, fun j hj => ?_⟩⟩
  have := (Blk.new w (l.map (Value.int .i64)).toArray 3).cell (0 + j)
  rw [this]
  simp [litV, hj, List.getD]

theorem f8_forward (w : World) : Calls Try.prog 9 #[.int .i64 3, .slice (some ⟨w.heap.size, 0, none⟩) 2 2] (w.alloc (.cells #[.int .i64 4, .int .i64 6] 3)) fun e w' => ∃ a cap b, e = .returned (.slice a 2 cap) ∧ Nums w' a 2 cap (litV [5, 2]) b ∧ Fr (fun _ => False) w w' := by
  refine (lforward_any _ _ 2 2 (litV [4, 6]) _ (Nums.lit w [4, 6] (by decide)) (by omega) (fun j hj => ?_) 3).mono ?_
  · match j, hj with
    | 0, _ => decide
    | 1, _ => decide
  · rintro e w' ⟨a, cap, b, he, hn, _, _, f⟩
    refine ⟨a, cap, b, he, hn.congr fun j hj => ?_, ((Fr.refl _ w).alloc _).trans' f⟩
    have hj2 : j < 2 := hj
    match j, hj2 with
    | 0, _ => decide +kernel
    | 1, _ => decide +kernel

theorem f8_inverse (w : World) (a : Option Addr) (cap b : Nat) (h : Nums w a 2 cap (litV [5, 2]) b) : Calls Try.prog 11 #[.int .i64 3, .slice a 2 cap] w fun e w' => ∃ a cap b, e = .returned (.slice a 2 cap) ∧ Nums w' a 2 cap (litV [4, 6]) b ∧ Fr (fun _ => False) w w' := by
  refine (linverse_any _ _ 2 cap (litV [5, 2]) _ h (by omega) (fun j hj => ?_) 3).mono ?_
  · match j, hj with
    | 0, _ => decide
    | 1, _ => decide
  · rintro e w' ⟨a, cap, b, he, hn, _, _, f⟩
    refine ⟨a, cap, b, he, hn.congr fun j hj => ?_, f⟩
    have hj2 : j < 2 := hj
    match j, hj2 with
    | 0, _ => decide +kernel
    | 1, _ => decide +kernel

theorem f8_part (w : World) : Calls Try.prog 15 #[.slice (some ⟨w.heap.size, 0, none⟩) 4 4] (w.alloc (.cells #[.int .i64 1, .int .i64 2, .int .i64 3, .int .i64 4] 3)) fun e w' => ∃ g g', e = .returned (.tuple #[.slice (some ⟨g, 0, none⟩) 2 2, .slice (some ⟨g', 0, none⟩) 2 2]) ∧ Row w' g 2 (litV [1, 3]) ∧ Row w' g' 2 (litV [2, 4]) ∧ Fr (fun _ => False) w w' := by
  refine (lpart_go _ _ 4 4 (litV [1, 2, 3, 4]) _ (Nums.lit w [1, 2, 3, 4] (by decide)) rfl (by omega)).mono ?_
  rintro e w' ⟨g, g', he, r, r', _, _, _, f⟩
  refine ⟨g, g', he, r.congr fun j hj => ?_, r'.congr fun j hj => ?_, ((Fr.refl _ w).alloc _).trans' f⟩
  · have hj2 : j < 2 := hj
    match j, hj2 with
    | 0, _ => rfl
    | 1, _ => rfl
  · have hj2 : j < 2 := hj
    match j, hj2 with
    | 0, _ => rfl
    | 1, _ => rfl

theorem f8_same (w : World) (a : Option Addr) (cap b : Nat) (x y : Int) (h : Nums w a 2 cap (litV [x, y]) b) : Calls Try.prog 8 #[.slice a 2 cap, .slice (some ⟨w.heap.size, 0, none⟩) 2 2] (w.alloc (.cells #[.int .i64 x, .int .i64 y] 3)) fun e w' => e = .returned (.bool true) ∧ Fr (fun _ => False) w w' := by
  have hs : (decide (2 = 2) && eqV 2 (litV [x, y]) (litV [x, y])) = true := by simp [eqV]
  have := rsame_any (w.alloc (.cells #[.int .i64 x, .int .i64 y] 3)) a 2 cap (litV [x, y]) b (some ⟨w.heap.size, 0, none⟩) 2 2 (litV [x, y]) w.heap.size (h.quiet ((Fr.refl _ w).alloc _)) (Nums.lit w [x, y] (by simp))
  rw [hs] at this
  exact this.mono fun e w' ⟨he, f⟩ => ⟨he, ((Fr.refl _ w).alloc _).trans' f⟩

set_option maxHeartbeats 1000000 in
theorem first8_any (w : World) : Calls Try.prog 7 #[] w fun e w' => e = .returned (.bool true) ∧ Fr (fun _ => False) w w' := by
  go_enter Try.func7, Try.ntmps7
  go_wp2_with fail
  refine (f8_forward w).mono ?_
  rintro e w1 ⟨a1, cap1, b1, rfl, n1, f1⟩
  have HN1 := hid n1
  clear n1
  go_wp2_with fail
  refine (f8_part w1).mono ?_
  rintro e w2 ⟨g, g', rfl, r, r', f2⟩
  have HN2 := hid (HN1.out.quiet f2)
  have HF2 := hid (f1.trans' f2)
  have HR := hid r
  have HR' := hid r'
  clear HN1 f1 f2 r r'
  go_wp2_with fail
  refine (f8_same w2 a1 cap1 b1 5 2 HN2.out).mono ?_
  rintro e w3 ⟨rfl, f3⟩
  have HN3 := hid (HN2.out.quiet f3)
  have HF3 := hid (HF2.out.trans' f3)
  have HS := hid (HR.out.quiet f3)
  have HS' := hid (HR'.out.quiet f3)
  clear HN2 HF2 HR HR' f3
  go_wp2_with fail
  refine (f8_inverse w3 a1 cap1 b1 HN3.out).mono ?_
  rintro e w4 ⟨a4, cap4, b4, rfl, n4, f4⟩
  have HN4 := hid n4
  have HF4 := hid (HF3.out.trans' f4)
  have HR := hid (HS.out.quiet f4)
  have HR' := hid (HS'.out.quiet f4)
  clear n4 HN3 HF3 HS HS' f4
  go_wp2_with fail
  refine (f8_same w4 a4 cap4 b4 4 6 HN4.out).mono ?_
  rintro e w5 ⟨rfl, f5⟩
  have HF5 := hid (HF4.out.trans' f5)
  have HS := hid (HR.out.quiet f5)
  have HS' := hid (HR'.out.quiet f5)
  clear HN4 HF4 HR HR' f5
  have c1 : w5.cell? ⟨g, 1, none⟩ = some (.int .i64 3) := HS.out.cell (by omega)
  have c2 : w5.cell? ⟨g', 1, none⟩ = some (.int .i64 4) := HS'.out.cell (by omega)
  go_wp2_with fail
  refine (lright_any 4 _).mono ?_
  rintro e w6 ⟨rfl, rfl⟩
  rw [show filtB 4 = true from rfl]
  go_wp2_with fail
  refine (lright_any 5 _).mono ?_
  rintro e w6 ⟨rfl, rfl⟩
  rw [show filtB 5 = false from rfl]
  go_wp2_with fail
  refine (lshift_any 1 _).mono ?_
  rintro e w6 ⟨rfl, rfl⟩
  rw [show shiftL 1 = 1 from rfl]
  go_wp2_with fail
  refine (lweave_go _ _ 2 2 _ _ _ 2 _ _ (HS.out.nums (by unfold maxLen; omega)) (HS'.out.nums (by unfold maxLen; omega)) (by omega) (by omega)).mono ?_
  rintro e w7 ⟨g7, rfl, _, _, f7⟩
  have HF7 := hid (HF5.out.trans' f7)
  clear f7
  go_wp2
  go_ret
  exact ⟨rfl, HF7.out⟩
end Go.Proofs.Ytpkjnnalpoimhaa
