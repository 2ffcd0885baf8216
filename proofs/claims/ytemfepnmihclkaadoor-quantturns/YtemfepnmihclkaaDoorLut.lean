/-
  Layer 4 by plain functions: steps, chances, factors and offsets of quantisers.
-/
import Derived.Test.YtemfepnmihclkaaDoorMem
namespace Go.Proofs.YtemfepnmihclkaaDoor
open Go.RowKit

/-- The step of a number. -/
def stp (i : Int) : Int := if 0 ≤ i ∧ i ≤ 255 then i * (i + 384) / 96 else 0

theorem stp_in {i : Int} (h0 : 0 ≤ i) (h1 : i ≤ 255) : stp i = i * (i + 384) / 96 := if_pos ⟨h0, h1⟩
theorem stp_out {i : Int} (h : ¬ (0 ≤ i ∧ i ≤ 255)) : stp i = 0 := if_neg h

theorem stp_prod {i : Int} (h0 : 0 ≤ i) (h1 : i ≤ 255) : 0 ≤ i * (i + 384) ∧ i * (i + 384) ≤ 162945 := by
  constructor
  · exact Int.mul_nonneg h0 (by omega)
  · have : i * (i + 384) ≤ 255 * (255 + 384) := Int.mul_le_mul h1 (by omega) (by omega) (by omega)
    omega

theorem stp_bounds (i : Int) : 0 ≤ stp i ∧ stp i ≤ 1697 := by
  unfold stp
  split
  · rename_i h
    have := stp_prod h.1 h.2
    omega
  · omega

/-- A chance. -/
def nearC (p : Int) : Int := if p < 0 then 0 else if 65535 < p then 65535 else p
theorem nearC_bounds (p : Int) : 0 ≤ nearC p ∧ nearC p ≤ 65535 := by unfold nearC; split; omega; split <;> omega

def lessC (p : Int) : Int := nearC p - stp (nearC p / 256)
def moreC (p : Int) : Int := nearC p + stp (255 - nearC p / 256)

/-- What a factor is reckoned with: of the quantiser's last quarter. -/
def qtimes (r : Int) : Int := if r = 0 then 4 else if r = 1 then 503829 else if r = 2 then 665857 else 440253
def qplus (r : Int) : Int := if r = 0 then 0 else if r = 1 then 52958 else if r = 2 then 58854 else 32722
def qby (r : Int) : Int := if r = 0 then 1 else if r = 1 then 105917 else if r = 2 then 117708 else 65444

def isQ (q : Int) : Bool := decide (0 ≤ q ∧ q ≤ 60)
/-- The factor of a quantiser. -/
def fac (q : Int) : Int := if isQ q then (qtimes (q % 4) * 2 ^ (q / 4).toNat + qplus (q % 4)) / qby (q % 4) else 0
/-- The offset of a quantiser. -/
def offs (q : Int) (inter : Bool) : Int := if isQ q = false then 0 else if q = 0 then 1 else if inter then (3 * fac q + 4) / 8 else if q = 1 then 2 else (fac q + 1) / 2

theorem isQ_true {q : Int} (h : isQ q = true) : 0 ≤ q ∧ q ≤ 60 := by simpa [isQ] using h
theorem isQ_cases {q : Int} (h : isQ q = true) : ∃ n : Nat, n ≤ 60 ∧ q = (n : Int) := by
  obtain ⟨h0, h1⟩ := isQ_true h
  exact ⟨q.toNat, by omega, by omega⟩

theorem fac_all : ∀ n : Nat, n ≤ 60 → 4 ≤ fac (n : Int) ∧ fac (n : Int) ≤ 131072 ∧ (n < 60 → fac (n : Int) < fac ((n : Int) + 1)) ∧ offs (n : Int) true < fac (n : Int) ∧ offs (n : Int) false < fac (n : Int) := by
  intro n hn
  have : ∀ m : Fin 61, 4 ≤ fac (m.val : Int) ∧ fac (m.val : Int) ≤ 131072 ∧ (m.val < 60 → fac (m.val : Int) < fac ((m.val : Int) + 1)) ∧ offs (m.val : Int) true < fac (m.val : Int) ∧ offs (m.val : Int) false < fac (m.val : Int) := by decide +kernel
  exact this ⟨n, by omega⟩

theorem fac_bounds (q : Int) : 0 ≤ fac q ∧ fac q ≤ 131072 := by
  cases h : isQ q with
  | false => simp [fac, h]
  | true =>
    obtain ⟨n, hn, rfl⟩ := isQ_cases h
    have := fac_all n hn
    omega

/-- Chances stay within their bounds. -/
theorem chances_stay {p : Int} (h0 : 252 ≤ p) (h1 : p ≤ 65283) : 252 ≤ lessC p ∧ lessC p ≤ 65283 ∧ 252 ≤ moreC p ∧ moreC p ≤ 65283 := by
  have hn : nearC p = p := by unfold nearC; rw [if_neg (by omega), if_neg (by omega)]
  have key : ∀ m : Fin 256, ∀ r : Int, 0 ≤ r → r ≤ 255 → 252 ≤ (m.val : Int) * 256 + r → (m.val : Int) * 256 + r ≤ 65283 → 252 ≤ (m.val : Int) * 256 + r - stp (m.val : Int) ∧ (m.val : Int) * 256 + r + stp (255 - (m.val : Int)) ≤ 65283 := by
    have key2 : ∀ m : Fin 256, (stp (m.val : Int) = 0 ∨ (1 ≤ m.val ∧ 252 + stp (m.val : Int) ≤ (m.val : Int) * 256)) ∧ ((m.val = 255 ∧ stp (255 - (m.val : Int)) = 0) ∨ (m.val : Int) * 256 + 255 + stp (255 - (m.val : Int)) ≤ 65283) := by decide +kernel
    intro m r r0 r1 a b
    obtain ⟨x, y⟩ := key2 m
    omega
  have hm : p / 256 = (((p / 256).toNat : Nat) : Int) := by omega
  have := key ⟨(p / 256).toNat, by omega⟩ (p % 256) (by omega) (by omega) (by simp only []; omega) (by simp only []; omega)
  simp only [] at this
  rw [← hm] at this
  have s1 := stp_bounds (p / 256)
  have s2 := stp_bounds (255 - p / 256)
  unfold lessC moreC
  rw [hn]
  omega
end Go.Proofs.YtemfepnmihclkaaDoor
