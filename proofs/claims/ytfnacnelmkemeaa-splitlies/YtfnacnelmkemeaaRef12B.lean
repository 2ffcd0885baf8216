/-
  The document's answer for layer 12: Of.
-/
import Derived.Test.YtfnacnelmkemeaaRef12
import Derived.Test.YtfnacnelmkemeaaSplitP
namespace Go.Proofs.Ytfnacnelmkemeaa
open Go.RowKit

/-- Lies a place in a part? -/
def inZ (r : RectN) (px py : Int) : Prop := ((r.x : Int) ≤ px ∧ px < (r.x : Int) + (r.w : Int)) ∧ ((r.y : Int) ≤ py ∧ py < (r.y : Int) + (r.h : Int))
theorem inZ_part {x y d c k : Nat} {px py : Int} (h1 : 1 ≤ x) (h3 : 1 ≤ y) (h5 : 1 ≤ d) (h7 : 1 ≤ c) (hk : k < c * d) (h : inZ (partK x y d c k) px py) : (0 ≤ px ∧ px < x ∧ 0 ≤ py ∧ py < y) ∧ k = ofK x y d c px.toNat py.toNat := by
  have hw := partK_within (w := x) (h := y) h5 h7 (show k < d * c by rw [Nat.mul_comm]; exact hk)
  obtain ⟨⟨a1, a2⟩, a3, a4⟩ := h
  have hb : 0 ≤ px ∧ px < x ∧ 0 ≤ py ∧ py < y := by omega
  refine ⟨hb, (inK_iff h1 h3 h5 h7 (show px.toNat < x by omega)).1 ?_⟩
  unfold inR
  omega
theorem inZ_of {x y d c : Nat} {px py : Int} (h1 : 1 ≤ x) (h3 : 1 ≤ y) (h5 : 1 ≤ d) (h7 : 1 ≤ c) (hb : 0 ≤ px ∧ px < x ∧ 0 ≤ py ∧ py < y) : inZ (partK x y d c (ofK x y d c px.toNat py.toNat)) px py := by
  have := (inK_iff (k := ofK x y d c px.toNat py.toNat) (w := x) (h := y) (m := d) (n := c) (x := px.toNat) (y := py.toNat) h1 h3 h5 h7 (by omega)).2 rfl
  unfold inR at this
  unfold inZ
  omega
/-- What Of answers, of the first part that has the place. -/
theorem ofZ_at {X Y M N px py : Int} {k : Nat} (hk : k < partsN X Y M N) (h : inZ (partsL X Y M N k) px py) : ofZ X Y M N px py = (k : Int) := by
  cases hok : splitOk X Y M N with
  | false => rw [partsN_no hok] at hk; omega
  | true =>
    obtain ⟨x, y, d, c, rfl, rfl, rfl, rfl, h1, h2, h3, h4, h5, h6, h7, h8⟩ := splitOk_nat hok
    rw [partsN_nat hok] at hk
    obtain ⟨hb, e⟩ := inZ_part h1 h3 h5 h7 hk h
    rw [ofZ, if_pos ⟨hok, hb⟩, e]; rfl
theorem ofZ_none {X Y M N px py : Int} (h : ∀ k, k < partsN X Y M N → ¬ inZ (partsL X Y M N k) px py) : ofZ X Y M N px py = -1 := by
  refine if_neg fun ⟨hok, hb⟩ => ?_
  obtain ⟨x, y, d, c, rfl, rfl, rfl, rfl, h1, h2, h3, h4, h5, h6, h7, h8⟩ := splitOk_nat hok
  rw [partsN_nat hok] at h
  have hi := inZ_of (px := px) (py := py) h1 h3 h5 h7 hb
  refine h (ofK x y d c px.toNat py.toNat) ?_ hi
  rw [Nat.mul_comm c d]
  exact ofK_lt h5 h7 (by omega) (by omega)
theorem partsL_small {X Y M N : Int} {k : Nat} (hk : k < partsN X Y M N) : (partsL X Y M N k).x + (partsL X Y M N k).w ≤ 1024 ∧ (partsL X Y M N k).y + (partsL X Y M N k).h ≤ 1024 := by
  cases hok : splitOk X Y M N with
  | false => rw [partsN_no hok] at hk; omega
  | true =>
    obtain ⟨x, y, d, c, rfl, rfl, rfl, rfl, h1, h2, h3, h4, h5, h6, h7, h8⟩ := splitOk_nat hok
    rw [partsN_nat hok] at hk
    have hw := partK_within (w := x) (h := y) h5 h7 (show k < d * c by rw [Nat.mul_comm]; exact hk)
    unfold partsL
    simp only [Int.toNat_natCast]
    omega

set_option maxHeartbeats 2000000 in
theorem rof12_any (X Y M N px py : Int) (w : World) :
    Calls Try.prog 12 #[.int .i64 X, .int .i64 Y, .int .i64 M, .int .i64 N, .int .i64 px, .int .i64 py] w fun e w' => e = .returned (.int .i64 (ofZ X Y M N px py)) ∧ Fr (fun _ => False) w w' := by
  obtain ⟨m, hmm⟩ : ∃ m, partsN X Y M N = m := ⟨_, rfl⟩
  obtain ⟨L, hL⟩ : ∃ L, partsL X Y M N = L := ⟨_, rfl⟩
  obtain ⟨z, hz⟩ : ∃ z, ofZ X Y M N px py = z := ⟨_, rfl⟩
  have hm4 : m ≤ 4096 := by rw [← hmm]; exact partsN_most _ _ _ _
  have HAt : Hid (∀ k, k < m → inZ (L k) px py → z = (k : Int)) := fun k hk h => by rw [← hmm] at hk; rw [← hL] at h; rw [← hz]; exact ofZ_at hk h
  have HNone : Hid ((∀ k, k < m → ¬ inZ (L k) px py) → z = -1) := fun h => by rw [← hz]; rw [← hmm, ← hL] at h; exact ofZ_none h
  have HSm : Hid (∀ k, k < m → (L k).x + (L k).w ≤ 1024 ∧ (L k).y + (L k).h ≤ 1024) := fun k hk => by rw [← hmm] at hk; rw [← hL]; exact partsL_small hk
  have HLi := hid (rlist12_any X Y M N w)
  rw [hmm, hL] at HLi
  rw [hz]
  clear hmm hL hz
  go_enter Try.func12, Try.ntmps12
  go_wp2_with fail
  refine HLi.out.mono ?_
  rintro e w1 ⟨a, cap, b, rfl, hR, _, f1⟩
  have HR := hid hR
  have HF1 := hid f1
  clear hR f1 HLi
  go_wp2
  go_loopw [21] (fun i wr => ∃ k : Nat, k ≤ m ∧ i = .int .i64 (k : Int) ∧ (∀ k', k' < k → ¬ inZ (L k') px py) ∧ Fr (fun _ => False) w1 wr) (fun i _ => m - (intOf i).toNat)
  case atStart => exact ⟨0, Nat.zero_le _, rfl, fun k' h => absurd h (by omega), Fr.refl _ _⟩
  case round =>
    obtain ⟨k, hk, rfl, hno, hF⟩ := hrel
    have HNo0 := hid hno
    have HF := hid hF
    clear hno
    by_cases hlt : k < m
    · have hki : (k : Int) < (m : Int) := by omega
      have HR2 := hid (HR.out.quiet hF)
      have hcl := HR2.out.cells hlt
      have hsm := HSm.out k hlt
      have hIn : Hid (inZ (L k) px py → z = (k : Int)) := HAt.out k hlt
      have HNI0 : Hid (¬ inZ (L k) px py → ∀ k', k' < k + 1 → ¬ inZ (L k') px py) := fun h k' hk' => by
        by_cases e : k' = k
        · rw [e]; exact h
        · exact HNo0.out k' (by omega)
      obtain rfl := HR2.out.addr (by omega)
      generalize L k = r at hcl hsm hIn HNI0
      obtain ⟨c0, c1, c2, c3⟩ := hcl
      obtain ⟨t1, ht1⟩ : ∃ t, r.x + r.w = t := ⟨_, rfl⟩
      obtain ⟨t2, ht2⟩ : ∃ t, r.y + r.h = t := ⟨_, rfl⟩
      have t1I : (r.x : Int) + (r.w : Int) = (t1 : Int) := by omega
      have t2I : (r.y : Int) + (r.h : Int) = (t2 : Int) := by omega
      have t1l : t1 ≤ 1024 := by omega
      have t2l : t2 ≤ 1024 := by omega
      have HNI : Hid (¬ (((r.x : Int) ≤ px ∧ px < (t1 : Int)) ∧ ((r.y : Int) ≤ py ∧ py < (t2 : Int))) → ∀ k', k' < k + 1 → ¬ inZ (L k') px py) := fun h => HNI0.out fun h2 => h (by unfold inZ at h2; omega)
      have HYes : Hid (((r.x : Int) ≤ px ∧ px < (t1 : Int)) ∧ ((r.y : Int) ≤ py ∧ py < (t2 : Int)) → z = (k : Int)) := fun h => hIn.out (by unfold inZ; omega)
      obtain ⟨W4, hW4⟩ : ∃ W4, W4 = wr.alloc (.cells #[.int .i64 (r.x : Int), .int .i64 (r.y : Int), .int .i64 (r.w : Int), .int .i64 (r.h : Int)] 28) := ⟨_, rfl⟩
      have B4 : Blk W4 wr.heap.size #[.int .i64 (r.x : Int), .int .i64 (r.y : Int), .int .i64 (r.w : Int), .int .i64 (r.h : Int)] 28 := by rw [hW4]; exact Blk.new _ _ _
      have HF4 : Hid (Fr (fun _ => False) w1 W4) := by rw [hW4]; exact hF.alloc _
      have hW5 : W4 = wr.alloc (.cells #[.int .i64 (r.x : Int), .int .i64 (r.y : Int), .int .i64 (r.w : Int), .int .i64 (r.h : Int)] 28) := hW4
      have d0 : W4.cell? ⟨wr.heap.size, 0, none⟩ = some (.int .i64 (r.x : Int)) := by rw [B4.cell]; rfl
      have d1 : W4.cell? ⟨wr.heap.size, 1, none⟩ = some (.int .i64 (r.y : Int)) := by rw [B4.cell]; rfl
      have d2 : W4.cell? ⟨wr.heap.size, 2, none⟩ = some (.int .i64 (r.w : Int)) := by rw [B4.cell]; rfl
      have d3 : W4.cell? ⟨wr.heap.size, 3, none⟩ = some (.int .i64 (r.h : Int)) := by rw [B4.cell]; rfl
      have HW4 := hid hW4
      have HD := hid (And.intro d0 (And.intro d1 (And.intro d2 d3)))
      rw [HW4.out] at d0 d1 d2 d3 HF4
      clear hW4 hW5 HD B4 hF HR2 HNI0 hIn HNo0 hsm ht1 ht2 HW4
      by_cases h0 : (r.x : Int) ≤ px
      rotate_left
      · have g0 : decide ((r.x : Int) ≤ px) = false := decide_eq_false h0
        have HNo := hid (HNI.out (by omega))
        go_wp2
        go_roundw
        case rel => exact ⟨k + 1, by omega, by go_num, HNo.out, HF4.out⟩
        case measure => simp [intOf]; omega
      by_cases h1 : px < (t1 : Int)
      rotate_left
      · have g1 : decide (px < (t1 : Int)) = false := decide_eq_false h1
        have g0 : decide ((r.x : Int) ≤ px) = true := decide_eq_true h0
        have HNo := hid (HNI.out (by omega))
        go_wp2
        go_roundw
        case rel => exact ⟨k + 1, by omega, by go_num, HNo.out, HF4.out⟩
        case measure => simp [intOf]; omega
      by_cases h2 : (r.y : Int) ≤ py
      rotate_left
      · have g2 : decide ((r.y : Int) ≤ py) = false := decide_eq_false h2
        have g0 : decide ((r.x : Int) ≤ px) = true := decide_eq_true h0
        have g1 : decide (px < (t1 : Int)) = true := decide_eq_true h1
        have HNo := hid (HNI.out (by omega))
        go_wp2
        go_roundw
        case rel => exact ⟨k + 1, by omega, by go_num, HNo.out, HF4.out⟩
        case measure => simp [intOf]; omega
      by_cases h3 : py < (t2 : Int)
      rotate_left
      · have g3 : decide (py < (t2 : Int)) = false := decide_eq_false h3
        have g0 : decide ((r.x : Int) ≤ px) = true := decide_eq_true h0
        have g1 : decide (px < (t1 : Int)) = true := decide_eq_true h1
        have g2 : decide ((r.y : Int) ≤ py) = true := decide_eq_true h2
        have HNo := hid (HNI.out (by omega))
        go_wp2
        go_roundw
        case rel => exact ⟨k + 1, by omega, by go_num, HNo.out, HF4.out⟩
        case measure => simp [intOf]; omega
      have g0 : decide ((r.x : Int) ≤ px) = true := decide_eq_true h0
      have g1 : decide (px < (t1 : Int)) = true := decide_eq_true h1
      have g2 : decide ((r.y : Int) ≤ py) = true := decide_eq_true h2
      have g3 : decide (py < (t2 : Int)) = true := decide_eq_true h3
      have HRes := hid (HYes.out (by omega))
      go_wp2
      go_ret
      exact ⟨ret_int HRes.out.symm, HF1.out.trans' HF4.out⟩
    · have hki : ¬ (k : Int) < (m : Int) := by omega
      have HRes := hid (HNone.out fun k' hk' => HNo0.out k' (by omega))
      clear hF
      go_wp2
      go_ret
      exact ⟨ret_int HRes.out.symm, HF1.out.trans' HF.out⟩
end Go.Proofs.Ytfnacnelmkemeaa
