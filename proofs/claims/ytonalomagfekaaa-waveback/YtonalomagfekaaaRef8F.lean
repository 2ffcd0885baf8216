/-
  The document's answer for layer 8: lines there and back, every other number.
-/
import Derived.Test.YtonalomagfekaaaRef8S
namespace Go.Proofs.Ytonalomagfekaaa
open Go.RowKit

theorem MadeL.before {w0 w w' : World} {e : Ending} {n : Nat} {V : Nat → Int} (h : MadeL w w' e n V) (f : Fr (fun _ => False) w0 w) : MadeL w0 w' e n V := by
  obtain ⟨a, cap, b, he, hn, hf, hb, g⟩ := h
  exact ⟨a, cap, b, he, hn, hf, fun h => ⟨Nat.le_trans f.size (hb h).1, (hb h).2⟩, f.trans' g⟩
theorem MadeL.congr {w w' : World} {e : Ending} {n : Nat} {V V' : Nat → Int} (h : MadeL w w' e n V) (hv : ∀ j, j < n → V j = V' j) : MadeL w w' e n V' := by
  obtain ⟨a, cap, b, he, hn, r⟩ := h
  exact ⟨a, cap, b, he, hn.congr hv, r⟩

theorem r8forward_any (w : World) (a : Option Addr) (n cap : Nat) (V : Nat → Int) (b : Nat) (h : Nums w a n cap V b) (hn : n ≤ 1048576) (z : Int) :
    Calls Try.prog 56 #[.int .i64 z, .slice a n cap] w fun e w' => MadeL w w' e (liftN z n) (forwardL z.toNat n V) := by
  cases hr : (filtB z && lineB n) with
  | false =>
    have e0 : liftN z n = 0 := liftN_out (Bool.and_eq_false_iff.1 hr)
    rw [e0]
    go_enter Try.func56, Try.ntmps56
    go_wp2_with fail
    refine (r8right_any a n cap z (by omega) _).mono ?_
    rintro e w0 ⟨rfl, rfl⟩
    rw [hr]
    go_wp2
    go_ret
    exact MadeL.nil (Fr.refl _ _) _
  | true =>
    obtain ⟨hz, hl⟩ : filtB z = true ∧ lineB n = true := by simpa using hr
    rw [liftN_in hz hl]
    obtain ⟨f, rfl⟩ := Int.eq_ofNat_of_zero_le (filtB_iff.1 hz).1
    have hf : f ≤ 4 := by have := (filtB_iff.1 hz).2; omega
    rw [Int.toNat_natCast]
    go_enter Try.func56, Try.ntmps56
    go_wp2_with fail
    refine (r8right_any a n cap (f : Int) (by omega) _).mono ?_
    rintro e w0 ⟨rfl, rfl⟩
    rw [hr]
    go_wp2_with fail
    refine (r8step_any w0 a n cap V b h hl hn f hf true (-1)).mono ?_
    rintro e w1 ⟨a1, cap1, b1, rfl, n1, _, _, f1⟩
    go_wp2_with fail
    refine (r8step_any w1 a1 n cap1 _ b1 n1 hl hn f hf false 1).mono ?_
    rintro e w2 hm
    have hm2 := hm.before f1
    obtain ⟨a2, cap2, b2, rfl, _⟩ := hm
    have HM := hid hm2
    clear hm2
    go_wp2
    go_ret
    exact HM.out

theorem r8inverse_any (w : World) (a : Option Addr) (n cap : Nat) (V : Nat → Int) (b : Nat) (h : Nums w a n cap V b) (hn : n ≤ 1048576) (z : Int) :
    Calls Try.prog 55 #[.int .i64 z, .slice a n cap] w fun e w' => MadeL w w' e (liftN z n) (inverseL z.toNat n V) := by
  cases hr : (filtB z && lineB n) with
  | false =>
    have e0 : liftN z n = 0 := liftN_out (Bool.and_eq_false_iff.1 hr)
    rw [e0]
    go_enter Try.func55, Try.ntmps55
    go_wp2_with fail
    refine (r8right_any a n cap z (by omega) _).mono ?_
    rintro e w0 ⟨rfl, rfl⟩
    rw [hr]
    go_wp2
    go_ret
    exact MadeL.nil (Fr.refl _ _) _
  | true =>
    obtain ⟨hz, hl⟩ : filtB z = true ∧ lineB n = true := by simpa using hr
    rw [liftN_in hz hl]
    obtain ⟨f, rfl⟩ := Int.eq_ofNat_of_zero_le (filtB_iff.1 hz).1
    have hf : f ≤ 4 := by have := (filtB_iff.1 hz).2; omega
    rw [Int.toNat_natCast]
    go_enter Try.func55, Try.ntmps55
    go_wp2_with fail
    refine (r8right_any a n cap (f : Int) (by omega) _).mono ?_
    rintro e w0 ⟨rfl, rfl⟩
    rw [hr]
    go_wp2_with fail
    refine (r8step_any w0 a n cap V b h hl hn f hf false (-1)).mono ?_
    rintro e w1 ⟨a1, cap1, b1, rfl, n1, _, _, f1⟩
    go_wp2_with fail
    refine (r8step_any w1 a1 n cap1 _ b1 n1 hl hn f hf true 1).mono ?_
    rintro e w2 hm
    have hm2 := hm.before f1
    obtain ⟨a2, cap2, b2, rfl, _⟩ := hm
    have HM := hid hm2
    clear hm2
    go_wp2
    go_ret
    exact HM.out

/-- Every other number of an even list, from the first or the second on. -/
theorem r8every_any (w : World) (a : Option Addr) (m cap : Nat) (V : Nat → Int) (b : Nat) (h : Nums w a (2 * m) cap V b) (hm : m ≤ 1048576) (c : Nat) (hc : c ≤ 1) :
    Calls Try.prog 57 #[.slice a (2 * m) cap, .int .i64 (c : Int)] w fun e w' => MadeL w w' e m (fun j => V (2 * j + c)) := by
  obtain ⟨n, hn⟩ : ∃ n, n = 2 * m := ⟨_, rfl⟩
  rw [← hn] at h ⊢
  have hn2 : n ≤ 2097152 := by omega
  have HNM := hid hn
  have HC : Hid (∀ wr k, Fr (fun _ => False) w wr → k < n → ∃ o, a = some ⟨b, o, none⟩ ∧ wr.cell? ⟨b, o + k, none⟩ = some (.int .i64 (V k))) := by
    intro wr k f hk
    obtain ⟨o, e, hcc⟩ := (h.quiet f).at' (by omega)
    exact ⟨o, e, hcc k hk⟩
  clear hn h
  go_enter Try.func57, Try.ntmps57
  go_wp2
  go_loopw [5, 6] (fun v i wr => ∃ k : Nat, k ≤ m ∧ i = .int .i64 ((2 * k + c : Nat) : Int) ∧ wr.ownsRow w.heap.size 3 1 v k (mapV k fun j => V (2 * j + c)) ∧ Fr (fun _ => False) w wr) (fun _ i _ => n + 2 - (intOf i).toNat)
  case atStart => exact ⟨0, Nat.zero_le _, by simp, World.ownsRow_nil _ _ _ _, Fr.refl _ _⟩
  case round =>
    obtain ⟨k, hk, rfl, ho, F⟩ := hrel
    obtain ⟨i, hi⟩ : ∃ i, i = 2 * k + c := ⟨_, rfl⟩
    rw [← hi]
    by_cases hlt : i < n
    · have hki : (i : Int) < (n : Int) := by omega
      obtain ⟨off, rfl, ck⟩ := HC.out wr i F hlt
      obtain ⟨z, hz⟩ : ∃ z, V i = z := ⟨_, rfl⟩
      rw [hz] at ck
      have HZ : Hid ((fun j => V (2 * j + c)) k = z) := by show V (2 * k + c) = z; rw [← hi, hz]
      have HI := hid hi
      have HO := hid ho
      clear hz hi ho
      go_wp2_with (at_builtin; refine wpList_pushI (w0 := w) rfl _ _ rfl u5 k (fun j => V (2 * j + c)) z rfl HO.out rfl HZ.out F (by omega) ?_)
      intro v' w1 ho1 F1
      have HO1 := hid ho1
      clear ho1 ck
      go_wp2
      go_roundw
      case rel =>
        have := HI.out
        have := HNM.out
        exact ⟨k + 1, by omega, by rw [show 2 * (k + 1) + c = i + 2 by omega]; go_num, HO1.out, F1⟩
      case measure => simp [intOf]; omega
    · have hki : ¬ (i : Int) < (n : Int) := by omega
      have hkm : k = m := by have := HNM.out; omega
      rw [hkm] at ho
      obtain ⟨a', cap', b', rfl, ol⟩ := OwnL.of_owns ho
      have HL := hid ol
      clear ol ho hkm
      go_wp2
      go_ret
      exact ⟨a', cap', b', rfl, HL.out.nums, HL.out.nil, fun h => ⟨(HL.out.row h).2.2, (HL.out.row h).2.1.intB⟩, F⟩
end Go.Proofs.Ytonalomagfekaaa
