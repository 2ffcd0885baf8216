/-
  Layer 10 by plain functions: numbers cut out of a plane and laid into it; when there are bands.
-/
import Derived.Test.YtgmainbgliejhaaBands
import Derived.Test.YtgmainbgliejhaaWaveM
import Derived.Test.YtgmainbgliejhaaRef9B
namespace Go.Proofs.Ytgmainbgliejhaa
open Go.RowKit

/-- The numbers of a band, and a band's numbers over a plane. -/
def cutG (b : BandN) (A : Grid) : Grid := fun y x => A (b.y + y) (b.x + x)
def putG (b : BandN) (A B : Grid) : Grid := fun y x => if inB b y x then B (y - b.y) (x - b.x) else A y x
theorem putG_in {b : BandN} {A B : Grid} {y x : Nat} (h : inB b y x = true) : putG b A B y x = B (y - b.y) (x - b.x) := if_pos h
theorem putG_out {b : BandN} {A B : Grid} {y x : Nat} (h : inB b y x = false) : putG b A B y x = A y x := if_neg (by rw [h]; decide)
/-- What is cut out and laid again is as it was. -/
theorem put_cut {b : BandN} {A C : Grid} {y x : Nat} (h : inB b y x = true) : putG b A (cutG b C) y x = C y x := by
  rw [putG_in h]
  have := inB_iff.1 h
  unfold cutG
  rw [show b.y + (y - b.y) = y by omega, show b.x + (x - b.x) = x by omega]
theorem put_cut_self {b : BandN} {A : Grid} (y x : Nat) : putG b A (cutG b A) y x = A y x := by
  cases h : inB b y x with
  | true => exact put_cut h
  | false => exact putG_out h
theorem putG_congr {b : BandN} {A A' B B' : Grid} {W H : Nat} (hA : EqG W H A A') (hB : EqG b.w b.h B B') : EqG W H (putG b A B) (putG b A' B') := fun y x hy hx => by
  cases h : inB b y x with
  | true =>
    rw [putG_in h, putG_in h]
    have := inB_iff.1 h
    exact hB _ _ (by omega) (by omega)
  | false => rw [putG_out h, putG_out h]; exact hA y x hy hx
/-- A plane that is made of the bands of a list. -/
def madeG (l : List BandN) (A C : Grid) : Grid := l.foldl (fun A b => putG b A (cutG b C)) A
theorem madeG_nil (A C : Grid) : madeG [] A C = A := rfl
theorem madeG_snoc (l : List BandN) (b : BandN) (A C : Grid) : madeG (l ++ [b]) A C = putG b (madeG l A C) (cutG b C) := by
  unfold madeG
  rw [List.foldl_append]; rfl
theorem madeG_at (l : List BandN) (A C : Grid) (y x : Nat) : madeG l A C y x = if cntB l y x = 0 then A y x else C y x := by
  induction l generalizing A with
  | nil => rfl
  | cons b l ih =>
    show madeG l (putG b A (cutG b C)) C y x = _
    rw [ih]
    have e : cntB (b :: l) y x = cntB l y x + if inB b y x = true then 1 else 0 := List.countP_cons
    rw [e]
    cases h : inB b y x with
    | true =>
      rw [put_cut h]
      by_cases h0 : cntB l y x = 0
      · rw [if_pos h0, if_neg (by simp)]
      · rw [if_neg h0, if_neg (by simp)]
    | false =>
      rw [putG_out h]
      simp
/-- A plane is made of its bands again. -/
theorem made_again {d w h : Nat} (hw : FitsN d w) (hh : FitsN d h) (A C : Grid) : EqG w h (madeG (bandsR d w h) A C) C := fun y x hy hx => by
  rw [madeG_at, bands_cover hw hh hy hx]
  rfl
theorem cntB_snoc (l : List BandN) (b : BandN) (y x : Nat) : cntB (l ++ [b]) y x = cntB l y x + if inB b y x = true then 1 else 0 := by
  rw [cntB_append]
  congr 1
  unfold cntB
  rw [List.countP_cons, List.countP_nil, Nat.zero_add]
theorem take_snoc {d w h k : Nat} (hk : k < 3 * d + 1) : (bandsR d w h).take (k + 1) = (bandsR d w h).take k ++ [bandAt d w h k] := by
  rw [List.take_add_one, bandsR_get d w h k hk]; rfl

/-- Are there bands of such sides? -/
def bandsOk (X Y d : Int) : Bool := decide (1 ≤ X) && decide (1 ≤ Y) && decide (padN X d = X) && decide (padN Y d = Y)
theorem padN_self {z d : Int} (h : 1 ≤ z) : padN z d = z ↔ ∃ n k : Nat, z = (n : Int) ∧ d = (k : Int) ∧ n ≤ 1024 ∧ k ≤ 6 ∧ FitsN k n := by
  constructor
  · intro e
    have hin : 1 ≤ z ∧ z ≤ 1024 ∧ 0 ≤ d ∧ d ≤ 6 := Classical.byContradiction fun hn => by rw [padN_out hn] at e; omega
    obtain ⟨k, rfl⟩ := Int.eq_ofNat_of_zero_le hin.2.2.1
    obtain ⟨n, rfl⟩ := Int.eq_ofNat_of_zero_le (show 0 ≤ z by omega)
    have hk : k ≤ 6 := by omega
    rw [padN_in (by omega) (by omega) hk] at e
    have e' : padU n (2 ^ k) = n := by omega
    have := (padU_lo (n := n) (pow_small hk).1).2.2
    rw [e'] at this
    exact ⟨n, k, rfl, rfl, by omega, hk, ⟨by omega, this⟩⟩
  · rintro ⟨n, k, rfl, rfl, hn, hk, hf⟩
    rw [padN_in hf.1 hn hk]
    have lo := padU_lo (n := n) (pow_small hk).1
    have := padU_least (n := n) (z := n) (pow_small hk).1 (Nat.le_refl _) lo.1 hf.2
    omega
theorem bandsOk_nat {X Y d : Int} (h : bandsOk X Y d = true) : ∃ x y k : Nat, X = (x : Int) ∧ Y = (y : Int) ∧ d = (k : Int) ∧ x ≤ 1024 ∧ y ≤ 1024 ∧ k ≤ 6 ∧ FitsN k x ∧ FitsN k y := by
  simp only [bandsOk, Bool.and_eq_true, decide_eq_true_eq] at h
  obtain ⟨⟨⟨h1, h2⟩, h3⟩, h4⟩ := h
  obtain ⟨x, k, rfl, rfl, hx, hk, fx⟩ := (padN_self h1).1 h3
  obtain ⟨y, k', rfl, e, hy, _, fy⟩ := (padN_self h2).1 h4
  obtain rfl : k = k' := by omega
  exact ⟨x, y, k, rfl, rfl, rfl, hx, hy, hk, fx, fy⟩
theorem bandsOk_of {x y k : Nat} (hx : x ≤ 1024) (hy : y ≤ 1024) (hk : k ≤ 6) (fx : FitsN k x) (fy : FitsN k y) : bandsOk x y k = true := by
  have h1 := fx.1; have h2 := fy.1
  have e1 := (padN_self (z := (x : Int)) (d := (k : Int)) (by omega)).2 ⟨x, k, rfl, rfl, hx, hk, fx⟩
  have e2 := (padN_self (z := (y : Int)) (d := (k : Int)) (by omega)).2 ⟨y, k, rfl, rfl, hy, hk, fy⟩
  simp only [bandsOk, Bool.and_eq_true, decide_eq_true_eq]
  exact ⟨⟨⟨by omega, by omega⟩, e1⟩, e2⟩
end Go.Proofs.Ytgmainbgliejhaa
