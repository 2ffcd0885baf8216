/-
  Layer 10: which bands lie in a plane; numbers cut out and laid in, one behind the other; copy into a part of a row that has room behind it.
-/
import Derived.Test.YtgmainbgliejhaaBandsM
namespace Go.Proofs.Ytgmainbgliejhaa
open Go.RowKit

/-- Does a band lie in a plane that is right? -/
def withinB (X Y : Int) (n : Nat) (bx by' bw bh : Int) : Bool := rightP X Y n && decide (1 ≤ bw) && decide (1 ≤ bh) && decide (0 ≤ bx) && decide (bx + bw ≤ X) && decide (0 ≤ by') && decide (by' + bh ≤ Y)
theorem withinB_iff {X Y : Int} {n : Nat} {bx by' bw bh : Int} : withinB X Y n bx by' bw bh = true ↔ rightP X Y n = true ∧ 1 ≤ bw ∧ 1 ≤ bh ∧ 0 ≤ bx ∧ bx + bw ≤ X ∧ 0 ≤ by' ∧ by' + bh ≤ Y := by
  simp [withinB, and_assoc]
theorem withinB_no {X Y : Int} {n : Nat} {bx by' bw bh : Int} (h : ¬ (rightP X Y n = true ∧ 1 ≤ bw ∧ 1 ≤ bh ∧ 0 ≤ bx ∧ bx + bw ≤ X ∧ 0 ≤ by' ∧ by' + bh ≤ Y)) : withinB X Y n bx by' bw bh = false := by
  rw [← Bool.not_eq_true, withinB_iff]; exact h
theorem withinB_nat {X Y : Int} {n : Nat} {bx by' bw bh : Int} (h : withinB X Y n bx by' bw bh = true) :
    ∃ (x y : Nat) (b : BandN), X = (x : Int) ∧ Y = (y : Int) ∧ bx = (b.x : Int) ∧ by' = (b.y : Int) ∧ bw = (b.w : Int) ∧ bh = (b.h : Int) ∧ 1 ≤ x ∧ x ≤ 1024 ∧ 1 ≤ y ∧ y ≤ 1024 ∧ x * y = n ∧ 1 ≤ b.w ∧ 1 ≤ b.h ∧ b.x + b.w ≤ x ∧ b.y + b.h ≤ y := by
  obtain ⟨hR, h1, h2, h3, h4, h5, h6⟩ := withinB_iff.1 h
  obtain ⟨x, y, rfl, rfl, a, b, c, d, e⟩ := rightP_nat hR
  exact ⟨x, y, ⟨0, 0, bx.toNat, by'.toNat, bw.toNat, bh.toNat⟩, rfl, rfl, by dsimp only; omega, by dsimp only; omega, by dsimp only; omega, by dsimp only; omega, a, b, c, d, e.symm, by dsimp only; omega, by dsimp only; omega, by dsimp only; omega, by dsimp only; omega⟩

/-- The numbers of a band, one behind the other, and a plane's, behind a band that is laid. -/
def cutF (x : Nat) (b : BandN) (V : Nat → Int) : Nat → Int := flatG b.w (cutG b (gridV x V))
def putF (x : Nat) (b : BandN) (V Q : Nat → Int) : Nat → Int := flatG x (putG b (gridV x V) (gridV b.w Q))
/-- Under way: the first k rows of a band. -/
def cutK (x k : Nat) (b : BandN) (V : Nat → Int) : Nat → Int := fun j => if j < k * b.w then cutF x b V j else 0
def putK (x k : Nat) (b : BandN) (V Q : Nat → Int) : Nat → Int := fun j => if j / x < b.y + k then putF x b V Q j else V j
theorem cutK_zero (x : Nat) (b : BandN) (V : Nat → Int) (j : Nat) : cutK x 0 b V j = 0 := if_neg (by omega)
theorem cutK_end {x : Nat} {b : BandN} {V : Nat → Int} {j : Nat} (hj : j < b.w * b.h) : cutK x b.h b V j = cutF x b V j := if_pos (by rw [Nat.mul_comm]; exact hj)
theorem cutK_step {x k : Nat} {b : BandN} {V : Nat → Int} (hw : 1 ≤ b.w) (j : Nat) :
    (if k * b.w ≤ j ∧ j < k * b.w + b.w then V ((b.y + k) * x + b.x + (j - k * b.w)) else cutK x k b V j) = cutK x (k + 1) b V j := by
  unfold cutK
  rw [show (k + 1) * b.w = k * b.w + b.w by rw [Nat.add_mul, Nat.one_mul]]
  by_cases h1 : k * b.w ≤ j ∧ j < k * b.w + b.w
  · obtain ⟨e1, e2⟩ := (band_iff (Nat.le_refl _) (by omega)).1 h1
    rw [if_pos h1, if_pos h1.2]
    unfold cutF flatG cutG gridV
    rw [e1]
    congr 1
    have := flat_eq b.w j
    rw [e1] at this
    omega
  · rw [if_neg h1]
    by_cases h2 : j < k * b.w
    · rw [if_pos h2, if_pos (by omega)]
    · rw [if_neg h2, if_neg (by omega)]
theorem putK_zero (x : Nat) (b : BandN) (V Q : Nat → Int) (j : Nat) : putK x 0 b V Q j = V j := by
  unfold putK
  by_cases h : j / x < b.y + 0
  · rw [if_pos h]
    unfold putF flatG
    rw [putG_out (by rw [← Bool.not_eq_true, inB_iff]; omega)]
    exact flatG_grid x V j
  · rw [if_neg h]
theorem putK_end (x : Nat) (b : BandN) (V Q : Nat → Int) (j : Nat) : putK x b.h b V Q j = putF x b V Q j := by
  unfold putK
  by_cases h : j / x < b.y + b.h
  · rw [if_pos h]
  · rw [if_neg h]
    unfold putF flatG
    rw [putG_out (by rw [← Bool.not_eq_true, inB_iff]; omega)]
    exact (flatG_grid x V j).symm
theorem putK_step {x k : Nat} {b : BandN} {V Q : Nat → Int} (hw : 1 ≤ b.w) (hx : b.x + b.w ≤ x) (hk : k < b.h) (j : Nat) :
    (if (b.y + k) * x + b.x ≤ j ∧ j < (b.y + k) * x + b.x + b.w then Q (k * b.w + (j - ((b.y + k) * x + b.x))) else putK x k b V Q j) = putK x (k + 1) b V Q j := by
  have h0 := flat_eq x j
  have hm := Nat.mod_lt j (show 0 < x by omega)
  have hiff : ((b.y + k) * x + b.x ≤ j ∧ j < (b.y + k) * x + b.x + b.w) ↔ (j / x = b.y + k ∧ b.x ≤ j % x ∧ j % x < b.x + b.w) := by
    have := band_iff (W := x) (y := b.y + k) (w := b.x + b.w) (j := j) hx (by omega)
    constructor
    · rintro ⟨h1, h2⟩
      obtain ⟨e1, e2⟩ := this.1 ⟨by omega, by omega⟩
      rw [e1] at h0
      exact ⟨e1, by omega, e2⟩
    · rintro ⟨h1, h2, h3⟩
      have := this.2 ⟨h1, h3⟩
      rw [h1] at h0
      omega
  unfold putK
  by_cases h1 : (b.y + k) * x + b.x ≤ j ∧ j < (b.y + k) * x + b.x + b.w
  · obtain ⟨e1, e2, e3⟩ := hiff.1 h1
    rw [if_pos h1, if_pos (by omega)]
    unfold putF flatG
    rw [putG_in (inB_iff.2 ⟨⟨e2, e3⟩, by omega, by omega⟩)]
    unfold gridV
    rw [e1] at h0 ⊢
    congr 1
    rw [Nat.add_sub_cancel_left]
    omega
  · rw [if_neg h1]
    by_cases h2 : j / x < b.y + k
    · rw [if_pos h2, if_pos (by omega)]
    · rw [if_neg h2]
      by_cases h3 : j / x < b.y + (k + 1)
      · rw [if_pos h3]
        unfold putF flatG
        rw [putG_out (by rw [← Bool.not_eq_true, inB_iff]; intro h; exact h1 (hiff.2 ⟨by omega, h.1.1, h.1.2⟩))]
        exact (flatG_grid x V j).symm
      · rw [if_neg h3]

/-- What copy leaves where it fills a part of a row that has room behind it. -/
theorem copy_part {w : World} {g n : Nat} {V : Nat → Int} (hr : RowC w g n V) (o m M cap : Nat) (ho : o + m ≤ n) (hM : m ≤ M) {a : Option Addr} {cap' : Nat} {U : Nat → Int} {b : Nat} (hN : Nums w a m cap' U b) (hm : 0 < m) (t : TypeId) :
    ∃ w', (Builtin.copy_ #[36, 36] t #[.slice (some ⟨g, o, none⟩) M cap, .slice a m cap']).run Try.prog w = .ok (.int .i64 (m : Int)) w' ∧ RowC w' g n (fun j => if o ≤ j ∧ j < o + m then U (j - o) else V j) ∧ Fr (fun k => k = g) w w' := by
  have hsz : (Try.prog.info? 3).map (·.size) = some 1 := by
    obtain ⟨i0, hi, _, hz1, _⟩ := info_parts Try.info_int
    rw [hi]; simp [hz1]
  obtain ⟨off, rfl, hc⟩ := hN.at' hm
  obtain ⟨cs, hb, hs, hcs⟩ := hr
  have hlt : ∀ j v, (mapV m U)[j]? = some v → w.cell? ((⟨b, off, none⟩ : Addr).add j) = some v := by
    intro j v hv
    have hj : j < m := by
      have := (List.getElem?_eq_some_iff.1 hv).1
      rwa [mapV_length] at this
    rw [addr_add, hc j hj, ← hv, mapV_get hj]
  have := run_copy_row (P := Try.prog) w 36 36 t 3 g o M cap ⟨b, off, none⟩ m cap' cs 3 (mapV m U) Try.underlying36 hsz hb (by rw [mapV_length]; exact (Nat.min_eq_left hM).symm) hlt (by rw [mapV_length]; omega) (mapV_one m U)
  rw [mapV_length] at this
  refine ⟨_, this, ⟨(cs.toList.take o ++ mapV m U ++ cs.toList.drop (o + m)).toArray, ?_, ?_, fun j hj => ?_⟩, (Fr.refl (fun k => k = g) w).setRow (fun _ => rfl) _⟩
  · exact setRow_heap w g cs _ 3 (0, 0) hb
  · simp [mapV_length]; omega
  · dsimp only
    rw [List.getElem?_toArray]
    by_cases h1 : j < o
    · rw [if_neg (by omega), List.append_assoc, List.getElem?_append_left (by simp; omega), List.getElem?_take, if_pos h1, Array.getElem?_toList, hcs j hj]
    · by_cases h2 : j < o + m
      · rw [if_pos ⟨by omega, h2⟩, List.append_assoc, List.getElem?_append_right (by simp; omega), List.getElem?_append_left (by simp [mapV_length]; omega), List.length_take, Array.length_toList, Nat.min_eq_left (by omega), mapV_get (by omega)]
      · rw [if_neg (by omega), List.getElem?_append_right (by simp [mapV_length]; omega), List.getElem?_drop, List.length_append, List.length_take, mapV_length, Array.length_toList, Nat.min_eq_left (by omega), Array.getElem?_toList, show o + m + (j - (o + m)) = j by omega, hcs j hj]
/-- A part of a row of numbers. -/
theorem Nums.part {w : World} {b off n cap : Nat} {V : Nat → Int} {a : Option Addr} (h : Nums w a n cap V b) (ha : a = some ⟨b, off, none⟩) (s m : Nat) (hs : s + m ≤ n) : Nums w (some ⟨b, off + s, none⟩) m (cap - s) (fun i => V (s + i)) b := by
  have h1 := h.le; have h2 := h.most
  refine ⟨by omega, by omega, fun hm => ⟨off + s, rfl, fun j hj => ?_⟩⟩
  obtain ⟨off', e, hc⟩ := h.at' (by omega)
  obtain rfl : off = off' := by rw [ha] at e; simpa using e
  have := hc (s + j) (by omega)
  rwa [← Nat.add_assoc] at this
end Go.Proofs.Ytgmainbgliejhaa
