/-
  Layer 12 in memory: parts as values, lists of them; which bands may be split.
-/
import Derived.Test.YtfnacnelmkemeaaStructL
import Derived.Test.YtfnacnelmkemeaaSplit
namespace Go.Proofs.Ytfnacnelmkemeaa
open Go.RowKit

/-- A part's four cells, and a part as a value. -/
def rectC (r : RectN) : List Value := [.int .i64 (r.x : Int), .int .i64 (r.y : Int), .int .i64 (r.w : Int), .int .i64 (r.h : Int)]
def rectV (r : RectN) : Value := .agg #[.int .i64 (r.x : Int), .int .i64 (r.y : Int), .int .i64 (r.w : Int), .int .i64 (r.h : Int)]
theorem rectC_length (r : RectN) : (rectC r).length = 4 := rfl
theorem rectC_one (r : RectN) : ∀ u ∈ rectC r, u.oneCell' = true := by
  intro u hu
  simp [rectC] at hu
  rcases hu with rfl | rfl | rfl | rfl <;> rfl
theorem Try.info_rect : (Try.prog.info? 28).map (fun i => (i.zero, i.size, i.bytes)) = some (some (.agg #[.int .i64 0, .int .i64 0, .int .i64 0, .int .i64 0]), 4, 32) := by kernel_rfl
theorem Try.size_rect : (Try.prog.info? 28).map (fun i => i.size) = some 4 := by kernel_rfl

/-- A slice of n parts, L, that lie in block b. -/
def Rcs (w : World) (a : Option Addr) (n cap : Nat) (L : Nat → RectN) (b : Nat) : Prop := Cls w a n cap 4 (fun i => rectC (L i)) b
theorem Rcs.fr {w w' : World} {a : Option Addr} {n cap : Nat} {L : Nat → RectN} {b : Nat} {S : Nat → Prop} (h : Rcs w a n cap L b) (f : Fr S w w') (hb : 0 < n → ¬ S b) : Rcs w' a n cap L b := Cls.fr h f hb
theorem Rcs.quiet {w w' : World} {a : Option Addr} {n cap : Nat} {L : Nat → RectN} {b : Nat} (h : Rcs w a n cap L b) (f : Fr (fun _ => False) w w') : Rcs w' a n cap L b := Cls.quiet h f
theorem Rcs.congr {w : World} {a : Option Addr} {n cap : Nat} {L L' : Nat → RectN} {b : Nat} (h : Rcs w a n cap L b) (e : ∀ i, i < n → L i = L' i) : Rcs w a n cap L' b := Cls.congr h fun i hi => by rw [e i hi]
theorem Rcs.addr {w : World} {a : Option Addr} {n cap : Nat} {L : Nat → RectN} {b : Nat} (h : Rcs w a n cap L b) (hn : 0 < n) : a = some ⟨b, 0, none⟩ := (Cls.at' h hn).1
theorem Rcs.cells {w : World} {a : Option Addr} {n cap : Nat} {L : Nat → RectN} {b : Nat} (h : Rcs w a n cap L b) {i : Nat} (hi : i < n) :
    w.cell? ⟨b, i * 4, none⟩ = some (.int .i64 ((L i).x : Int)) ∧ w.cell? ⟨b, i * 4 + 1, none⟩ = some (.int .i64 ((L i).y : Int)) ∧ w.cell? ⟨b, i * 4 + 2, none⟩ = some (.int .i64 ((L i).w : Int)) ∧ w.cell? ⟨b, i * 4 + 3, none⟩ = some (.int .i64 ((L i).h : Int)) := by
  obtain ⟨_, hc⟩ := Cls.at' h (by omega)
  exact ⟨hc i hi 0 _ rfl, hc i hi 1 _ rfl, hc i hi 2 _ rfl, hc i hi 3 _ rfl⟩
theorem Rcs.lt {w : World} {a : Option Addr} {n cap : Nat} {L : Nat → RectN} {b : Nat} (h : Rcs w a n cap L b) (hn : 0 < n) : b < w.heap.size := cell_lt (h.cells hn).1
/-- What a call that makes a list of parts leaves. -/
def PartsMade (w w' : World) (e : Ending) (n : Nat) (L : Nat → RectN) : Prop := ∃ a cap b, e = .returned (.slice a n cap) ∧ Rcs w' a n cap L b ∧ (0 < n → w.heap.size ≤ b) ∧ Fr (fun _ => False) w w'

/-- A number from 1 to most. -/
def amongZ (z q : Int) : Bool := decide (1 ≤ z) && decide (z ≤ q)
theorem amongZ_iff {z q : Int} : amongZ z q = true ↔ 1 ≤ z ∧ z ≤ q := by simp [amongZ]
theorem amongZ_false {z q : Int} : amongZ z q = false ↔ z < 1 ∨ q < z := by
  rw [← Bool.not_eq_true, amongZ_iff]; omega
/-- May a band be split so? -/
def splitOk (w h m n : Int) : Bool := amongZ w 1024 && amongZ h 1024 && amongZ m 64 && amongZ n 64
theorem splitOk_iff {w h m n : Int} : splitOk w h m n = true ↔ (1 ≤ w ∧ w ≤ 1024) ∧ (1 ≤ h ∧ h ≤ 1024) ∧ (1 ≤ m ∧ m ≤ 64) ∧ (1 ≤ n ∧ n ≤ 64) := by
  simp only [splitOk, Bool.and_eq_true, amongZ_iff]; omega
theorem splitOk_nat {w h m n : Int} (h0 : splitOk w h m n = true) : ∃ x y i j : Nat, w = (x : Int) ∧ h = (y : Int) ∧ m = (i : Int) ∧ n = (j : Int) ∧ 1 ≤ x ∧ x ≤ 1024 ∧ 1 ≤ y ∧ y ≤ 1024 ∧ 1 ≤ i ∧ i ≤ 64 ∧ 1 ≤ j ∧ j ≤ 64 := by
  rw [splitOk_iff] at h0
  exact ⟨w.toNat, h.toNat, m.toNat, n.toNat, by omega, by omega, by omega, by omega, by omega, by omega, by omega, by omega, by omega, by omega, by omega, by omega⟩
theorem splitOk_of {x y i j : Nat} (h1 : 1 ≤ x) (h2 : x ≤ 1024) (h3 : 1 ≤ y) (h4 : y ≤ 1024) (h5 : 1 ≤ i) (h6 : i ≤ 64) (h7 : 1 ≤ j) (h8 : j ≤ 64) : splitOk x y i j = true := splitOk_iff.2 (by omega)
/-- How many parts there are, and which. -/
def partsN (w h m n : Int) : Nat := if splitOk w h m n then n.toNat * m.toNat else 0
def partsL (w h m n : Int) : Nat → RectN := partK w.toNat h.toNat m.toNat n.toNat
theorem partsN_no {w h m n : Int} (h0 : splitOk w h m n = false) : partsN w h m n = 0 := if_neg (by rw [h0]; decide)
theorem partsN_nat {x y i j : Nat} (h0 : splitOk x y i j = true) : partsN x y i j = j * i := by rw [partsN, if_pos h0]; rfl
theorem partsN_most (w h m n : Int) : partsN w h m n ≤ 4096 := by
  cases h0 : splitOk w h m n with
  | false => rw [partsN_no h0]; omega
  | true =>
    obtain ⟨x, y, i, j, rfl, rfl, rfl, rfl, _, _, _, _, _, h6, _, h8⟩ := splitOk_nat h0
    rw [partsN_nat h0]
    exact Nat.mul_le_mul h8 h6
/-- The part of a place. -/
def ofZ (w h m n x y : Int) : Int := if splitOk w h m n ∧ 0 ≤ x ∧ x < w ∧ 0 ≤ y ∧ y < h then (ofK w.toNat h.toNat m.toNat n.toNat x.toNat y.toNat : Int) else -1

theorem partK_flat {w h m n i j : Nat} (hi : i < m) : partK w h m n (j * m + i) = rectP w h m n i j := by
  unfold partK
  rw [Nat.mul_comm j m, Nat.mul_add_mod, Nat.mod_eq_of_lt hi, Nat.mul_add_div (by omega), Nat.div_eq_of_lt hi, Nat.add_zero]
theorem cutP_small {w m i : Nat} (hw : w ≤ 1024) (hi : i ≤ m) (hm : 1 ≤ m) : cutP w m i ≤ 1024 := Nat.le_trans (cutP_most hm hi) hw
end Go.Proofs.Ytfnacnelmkemeaa
