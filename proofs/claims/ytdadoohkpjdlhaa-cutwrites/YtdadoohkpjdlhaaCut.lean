/-
  Plain facts on bytes as numbers, and on pieces of a row: no program in sight.
-/
import Derived.Test.YtdadoohkpjdlhaaBits
namespace Go.Proofs.Ytdadoohkpjdlhaa

/-- The number of bytes, the first one the greatest. -/
def valB (zs : List Nat) : Nat := zs.foldl (fun v z => 256 * v + z) 0
theorem valB_snoc (zs : List Nat) (z : Nat) : valB (zs ++ [z]) = 256 * valB zs + z := by simp [valB]
theorem valB_nil : valB [] = 0 := rfl
theorem valB_take_succ (zs : List Nat) (k : Nat) (h : k < zs.length) : valB (zs.take (k + 1)) = 256 * valB (zs.take k) + zs.getD k 0 := by
  rw [List.take_succ_eq_append_getElem h, valB_snoc]
  simp [List.getD, h]
theorem valB_lt (zs : List Nat) (h : ∀ z ∈ zs, z < 256) : ∀ k, k ≤ zs.length → valB (zs.take k) < 256 ^ k := by
  intro k
  induction k with
  | zero => intro _; simp [valB]
  | succ k ih =>
    intro hk
    have h1 := ih (by omega)
    rw [valB_take_succ zs k (by omega)]
    have h2 : zs.getD k 0 < 256 := by simpa [List.getD, show k < zs.length by omega] using h _ (List.getElem_mem (show k < zs.length by omega))
    rw [Nat.pow_succ]
    omega

/-- The four bytes of a number. -/
def word4 (v : Nat) : List Nat := [v / 16777216 % 256, v / 65536 % 256, v / 256 % 256, v % 256]
theorem word4_length (v : Nat) : (word4 v).length = 4 := rfl
theorem word4_small (v : Nat) : ∀ z ∈ word4 v, z < 256 := by
  intro z hz
  simp [word4] at hz
  omega
theorem valB_word4 (v : Nat) (h : v < 4294967296) : valB (word4 v) = v := by
  simp [valB, word4]
  omega

/-- Are there n more, pos behind, of L? -/
def okB (L pos : Nat) (n : Int) : Bool := decide (0 ≤ n ∧ (pos : Int) + n ≤ (L : Int))
/-- How many are taken. -/
def amt (L pos : Nat) (n : Int) : Nat := if okB L pos n = true then n.toNat else 0
theorem amt_le (L pos : Nat) (n : Int) (h : pos ≤ L) : pos + amt L pos n ≤ L := by
  unfold amt okB
  split
  · rename_i h
    simp at h
    omega
  · omega
theorem amt_ok {L pos : Nat} {n : Int} (h : okB L pos n = true) : ((amt L pos n : Nat) : Int) = n := by
  unfold amt
  rw [if_pos h]
  simp [okB] at h
  omega
theorem amt_no {L pos : Nat} {n : Int} (h : okB L pos n = false) : amt L pos n = 0 := by
  unfold amt
  rw [h]
  rfl

/-- The next n of zs, pos behind. -/
def piece (zs : List Nat) (pos n : Nat) : List Nat := (zs.drop pos).take n
theorem piece_length (zs : List Nat) (pos n : Nat) (h : pos + n ≤ zs.length) : (piece zs pos n).length = n := by simp [piece]; omega
theorem piece_getD (zs : List Nat) (pos n j : Nat) (h : j < n) : (piece zs pos n).getD j 0 = zs.getD (pos + j) 0 := by
  simp [piece, List.getD, h]
theorem piece_small {zs : List Nat} (h : ∀ z ∈ zs, z < 256) (pos n : Nat) : ∀ z ∈ piece zs pos n, z < 256 := fun z hz => h z (List.mem_of_mem_drop (List.mem_of_mem_take hz))
theorem piece_zero (zs : List Nat) (pos : Nat) : piece zs pos 0 = [] := by simp [piece]
end Go.Proofs.Ytdadoohkpjdlhaa
