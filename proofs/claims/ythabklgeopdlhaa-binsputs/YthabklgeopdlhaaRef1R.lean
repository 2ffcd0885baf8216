/-
  The document's own answers of layer 1: All, and its reader.
-/
import Derived.Test.YthabklgeopdlhaaRef1
import Derived.Lib.AppendStr
import Derived.Deep.LoopGhost
namespace Go.Proofs.Ythabklgeopdlhaa
open Go.RowKit

/-- The bits of bytes. -/
def allBits (zs : List Nat) : List Bool := zs.flatMap fun z => bitsOf z 8
theorem allBits_length (zs : List Nat) : (allBits zs).length = 8 * zs.length := by
  induction zs with
  | nil => rfl
  | cons z zs ih => simp only [allBits, List.flatMap_cons, List.length_append, bitsOf_length, List.length_cons] at *; omega
theorem allBits_snoc (zs : List Nat) (z : Nat) : allBits (zs ++ [z]) = allBits zs ++ bitsOf z 8 := by simp [allBits]
theorem allBits_bit (zs : List Nat) : ∀ p, (allBits zs).getD p false = bitAt zs p := by
  induction zs with
  | nil => intro p; simp [allBits, bitAt, List.getD]
  | cons z zs ih =>
    intro p
    have e : allBits (z :: zs) = bitsOf z 8 ++ allBits zs := by simp [allBits]
    rw [e]
    by_cases h : p < 8
    · rw [List.getD, List.getElem?_append_left (by rw [bitsOf_length]; exact h)]
      have h0 : p / 8 = 0 := by omega
      have h1 : p % 8 = p := by omega
      unfold bitAt
      rw [h0, h1]
      simp [bitsOf, h, List.getD]
    · rw [List.getD, List.getElem?_append_right (by rw [bitsOf_length]; omega), bitsOf_length]
      have := ih (p - 8)
      rw [List.getD] at this
      rw [this]
      unfold bitAt
      rw [show p / 8 = (p - 8) / 8 + 1 by omega, show p % 8 = (p - 8) % 8 by omega]
      simp [List.getD]

/-- The bytes of a text of 0 and 1. -/
def asc (l : List Bool) : List Nat := l.map fun b => if b then 49 else 48
theorem asc_cells (l : List Bool) : Lib.strCells (strB l) = rowOf (asc l) := by
  unfold Lib.strCells strB rowOf asc
  simp only [List.map_map]
  refine List.map_congr_left fun b _ => ?_
  cases b <;> rfl
theorem asc_str (l : List Bool) : strOf (asc l) = strB l := by
  unfold strOf strOfNums strB asc
  congr 2
  simp only [List.map_map]
  refine List.map_congr_left fun b _ => ?_
  cases b <;> rfl
theorem asc_append (a b : List Bool) : asc (a ++ b) = asc a ++ asc b := by simp [asc]
set_option maxHeartbeats 400000 in
/-- All. -/
theorem refAll_any (w : World) (a : Option Addr) (cap : Nat) (zs : List Nat) (hs : ∀ z ∈ zs, z < 256) (hn : zs.length ≤ 1000000) (hc : 0 < zs.length → ∃ b off, a = some ⟨b, off, none⟩ ∧ ∀ j, j < zs.length → w.cell? ⟨b, off + j, none⟩ = some (.int .u8 ((zs.getD j 0 : Nat) : Int))) :
    Calls Try.prog 53 #[.slice a zs.length cap] w fun e w' => e = .returned (.string (strB (allBits zs))) ∧ Fr (fun _ => False) w w' := by
  obtain ⟨i0, hi, hz0, hz1, hz2⟩ := info_parts Try.info_u8
  have HC : Hid (0 < zs.length → ∃ b off, a = some ⟨b, off, none⟩ ∧ ∀ j, j < zs.length → w.cell? ⟨b, off + j, none⟩ = some (.int .u8 ((zs.getD j 0 : Nat) : Int))) := hc
  clear hc
  go_enter Try.func53, Try.ntmps53
  go_wp2
  go_loopw [3, 8] (fun v i wr => ∃ k : Nat, k ≤ zs.length ∧ i = .int .i64 (k : Int) ∧ wr.ownsRow w.heap.size 5 1 v (asc (allBits (zs.take k))).length (rowOf (asc (allBits (zs.take k)))) ∧ Fr (fun _ => False) w wr) (fun _ i _ => zs.length - (intOf i).toNat)
  case atStart => exact ⟨0, Nat.zero_le _, rfl, World.ownsRow_nil _ _ _ _, Fr.refl _ _⟩
  case round =>
    obtain ⟨k, hk, rfl, h1, f1⟩ := hrel
    by_cases hlt : k < zs.length
    · obtain ⟨b, off, rfl, hcell⟩ := HC.out (by omega)
      have hck := hcell k hlt
      have hcw := (f1.cell (p := ⟨b, off + k, none⟩) (cell_lt hck) (fun h => h)).trans hck
      have hki : (k : Int) < (zs.length : Int) := by omega
      obtain ⟨z, hz⟩ : ∃ z, z = zs.getD k 0 := ⟨_, rfl⟩
      have hz3 : z < 256 := by rw [hz]; simpa [List.getD, hlt] using hs _ (List.getElem_mem hlt)
      rw [← hz] at hcw
      have hz4 : (0 : Int) ≤ (z : Int) := by omega
      have hz5 : (z : Int) < 256 := by omega
      have HT : Hid (allBits (zs.take (k + 1)) = allBits (zs.take k) ++ bitsOf z 8) := by
        show _ = _
        have : zs.take (k + 1) = zs.take k ++ [z] := by rw [List.take_succ_eq_append_getElem hlt, hz]; simp [List.getD, hlt]
        rw [this, allBits_snoc]
      have hl : (asc (allBits (zs.take k))).length ≤ 8000000 := by simp only [asc, List.length_map, allBits_length, List.length_take]; omega
      have hsz2 := f1.size
      have hlt1 := h1.lt
      clear hck hcell hz hz3
      go_wp2_with fail
      refine (refBits_any _ _ _ (by omega) (by omega)).mono ?_
      rintro e w2 ⟨rfl, rfl⟩
      have e8 : bitsOf (z : Int).toNat (max 0 (min (8 : Int) 64)).toNat = bitsOf z 8 := by rw [Int.toNat_natCast]; rfl
      rw [e8]
      have hsb : (strB (bitsOf z 8)).size = 8 := by rw [strB_size, bitsOf_length]
      have HSB : Hid ((strB (bitsOf z 8)).size = 8) := hsb
      clear hsb e8
      go_wp2_with (at_builtin; refine Lib.wpList_append_own_string _ rfl _ _ 40 9 rfl w.heap.size 5 i0 Try.underlying40 Try.underlying9 hi hz0 hz1 hz2 _ _ _ rfl h1 (strB (bitsOf z 8)) rfl ?c3 ?c4 ?c5 ?_)
      case c3 => rw [HSB.out]; unfold maxLen; omega
      case c4 => rw [HSB.out]; omega
      case c5 => omega
      intro v' w3 hown hgrow _
      have F3 : Fr (fun _ => False) w w3 := f1.grown hgrow (fun i hi hlt => by have := hlt1 i hi; omega)
      have R : w3.ownsRow w.heap.size 5 1 v' (asc (allBits (zs.take (k + 1)))).length (rowOf (asc (allBits (zs.take (k + 1))))) := by
        rw [HT.out, asc_append, rowOf_append, ← asc_cells (bitsOf z 8), List.length_append]
        have e9 : (asc (bitsOf z 8)).length = (strB (bitsOf z 8)).size := by rw [HSB.out]; simp [asc, bitsOf_length]
        rw [e9]
        exact hown
      clear hown hgrow
      go_wp2
      go_roundw
      case rel => exact ⟨k + 1, by omega, by go_num, R, F3⟩
      case measure => simp [intOf]; omega
    · obtain rfl : k = zs.length := by omega
      have hki : ¬ (zs.length : Int) < (zs.length : Int) := by omega
      have hcv := conv_owned wr _ _ _ h1
      rw [asc_str, List.take_length] at hcv
      go_wp2
      go_ret
      exact ⟨rfl, f1⟩
/-- The document's reader lies in block p: its bits L; it has gone over 'pos' of them, 'ov' were told past the end. -/
def RRd (w : World) (p : Nat) (L : List Bool) (pos ov : Nat) : Prop := Blk w p #[.string (strB L), .int .i64 (pos : Int), .int .i64 (ov : Int)] 53

theorem RRd.fr {w w' : World} {p : Nat} {L : List Bool} {pos ov : Nat} {S : Nat → Prop} (h : RRd w p L pos ov) (f : Fr S w w') (hp : ¬ S p) : RRd w' p L pos ov := Blk.fr h f hp

/-- Bit. -/
theorem refBit_any (w : World) (p : Nat) (L : List Bool) (pos ov : Nat) (h : RRd w p L pos ov) (hL : L.length ≤ 1000000000000000) (hp : pos ≤ 1000000000000000) (ho : ov ≤ 1000000000000000) :
    Calls Try.prog 75 #[.pointer (some ⟨p, 0, none⟩)] w fun e w' => e = .returned (.int .i64 (((L.getD pos false).toNat : Nat) : Int)) ∧ RRd w' p L (pos + 1) (ov + if pos < L.length then 0 else 1) ∧ Fr (fun k => k = p) w w' := by
  have hc0 := Blk.cell h 0
  have hc1 := Blk.cell h 1
  have hc2 := Blk.cell h 2
  have hf := Blk.thaw h
  simp at hc0 hc1 hc2
  obtain ⟨S, hS⟩ : ∃ S, S = strB L := ⟨_, rfl⟩
  have hsz : S.size = L.length := by rw [hS, strB_size]
  have hget : ∀ (i : Nat) (h : i < S.size), (S[i]'h).toNat = 48 + (L.getD i false).toNat := by subst hS; exact strB_get L
  rw [← hS] at hc0
  have HS : Hid (S = strB L) := hS
  have HZ : Hid (S.size = L.length) := hsz
  have hS2 : S.size ≤ 1000000000000000 := by omega
  clear hS
  by_cases hlt : pos < L.length
  · rw [if_pos hlt]
    have hlt' : ¬ (S.size : Int) ≤ (pos : Int) := by omega
    have hlt2 : (pos : Int) < (S.size : Int) := by omega
    have hlt3 : pos < S.size := by omega
    have HB := hget pos hlt3
    obtain ⟨b, hb⟩ : ∃ b, b = (L.getD pos false).toNat := ⟨_, rfl⟩
    have hb1 : b ≤ 1 := by rw [hb]; cases L.getD pos false <;> simp
    rw [← hb] at HB ⊢
    clear hget hb hsz hlt
    go_enter Try.func75, Try.ntmps75
    go_wp2
    go_ret
    refine ⟨ret_int (by omega), ?_, (Fr.refl (fun k => k = p) w).setCell (fun _ => rfl) _⟩
    have := Blk.set h 1 (.int .i64 ((pos : Int) + 1))
    simpa [RRd] using this
  · rw [if_neg hlt]
    have hlt' : (S.size : Int) ≤ (pos : Int) := by omega
    have e0 : L.getD pos false = false := by simp [List.getD, List.getElem?_eq_none (show L.length ≤ pos by omega)]
    rw [e0]
    clear hget hsz hlt e0
    go_enter Try.func75, Try.ntmps75
    go_wp2
    go_ret
    refine ⟨ret_int rfl, ?_, ((Fr.refl (fun k => k = p) w).setCell (fun _ => rfl) _).setCell (fun _ => rfl) _⟩
    have := (Blk.set h 1 (.int .i64 ((pos : Int) + 1))).set 2 (.int .i64 ((ov : Int) + 1))
    simpa [RRd] using this

set_option maxHeartbeats 400000 in
/-- Get. -/
theorem refGet_any (w : World) (p : Nat) (L : List Bool) (pos ov : Nat) (n : Int) (h : RRd w p L pos ov) (hL : L.length ≤ 1000000000000000) (hp : pos ≤ 900000000000000) (ho : ov ≤ 900000000000000) :
    Calls Try.prog 54 #[.pointer (some ⟨p, 0, none⟩), .int .i64 n] w fun e w' =>
      e = .returned (.int .u64 ((valOf (readsOf (fun i => L.getD i false) pos (max 0 (min n 64)).toNat) : Nat) : Int)) ∧ RRd w' p L (pos + (max 0 (min n 64)).toNat) (ov + past pos (max 0 (min n 64)).toNat L.length) ∧ Fr (fun k => k = p) w w' := by
  obtain ⟨m, hm⟩ : ∃ m : Nat, (m : Int) = max 0 (min n 64) := ⟨(max 0 (min n 64)).toNat, by omega⟩
  have hm2 : m ≤ 64 := by omega
  have e1 : (max 0 (min n 64)).toNat = m := by omega
  rw [e1]
  have HM : Hid ((m : Int) = max 0 (min n 64)) := hm
  clear hm e1
  go_enter Try.func54, Try.ntmps54
  go_wp2
  go_loopw [5, 6] (fun v i wr => ∃ j : Nat, j ≤ m ∧ i = .int .i64 (j : Int) ∧ v = .int .u64 ((valOf (readsOf (fun i => L.getD i false) pos j) : Nat) : Int) ∧ RRd wr p L (pos + j) (ov + past pos j L.length) ∧ Fr (fun k => k = p) w wr) (fun _ i _ => m - (intOf i).toNat)
  case atStart => exact ⟨0, Nat.zero_le _, rfl, rfl, by simpa [past_zero] using h, Fr.refl _ _⟩
  case round =>
    obtain ⟨j, hj, rfl, rfl, h1, f1⟩ := hrel
    by_cases hlt : j < m
    · have a1 : (j : Int) < n := by have := HM.out; omega
      have a2 : (j : Int) < 64 := by omega
      have hv := valOf_lt (readsOf (fun i => L.getD i false) pos j)
      rw [readsOf_length] at hv
      obtain ⟨x, hx⟩ : ∃ x, x = valOf (readsOf (fun i => L.getD i false) pos j) := ⟨_, rfl⟩
      rw [← hx] at hv ⊢
      have hx2 : x < 9223372036854775808 := by
        have : 2 ^ j ≤ 2 ^ 63 := Nat.pow_le_pow_right (by decide) (by omega)
        omega
      have HX : Hid (x = valOf (readsOf (fun i => L.getD i false) pos j)) := hx
      clear hx hv
      have hpa := past_le pos j L.length
      have HN : Hid (valOf (readsOf (fun i => L.getD i false) pos (j + 1)) = 2 * x + (L.getD (pos + j) false).toNat) := by
        show _ = _
        rw [readsOf_succ, valOf_snoc, ← HX.out]
      have HP : Hid (past pos (j + 1) L.length = past pos j L.length + if pos + j < L.length then 0 else 1) := past_succ _ _ _
      go_wp2_with fail
      refine (refBit_any wr p L _ _ h1 hL (by omega) (by omega)).mono ?_
      rintro e w2 ⟨rfl, h2, f2⟩
      have R : RRd w2 p L (pos + (j + 1)) (ov + past pos (j + 1) L.length) := by
        rw [HP.out, ← Nat.add_assoc, ← Nat.add_assoc]; exact h2
      have F : Fr (fun k => k = p) w w2 := f1.trans' f2
      have hb1 : (L.getD (pos + j) false).toNat ≤ 1 := by cases L.getD (pos + j) false <;> simp
      generalize (L.getD (pos + j) false).toNat = b at HN hb1
      clear h2 f2 f1 h1 HP
      go_wp2
      go_roundw
      case rel => exact ⟨j + 1, by omega, by go_num, congrArg (Value.int .u64) (by rw [HN.out]; omega), R, F⟩
      case measure => simp [intOf]; omega
    · obtain rfl : j = m := by omega
      have hd : decide ((j : Int) < n) = false ∨ (decide ((j : Int) < n) = true ∧ decide ((j : Int) < 64) = false) := by
        have := HM.out
        by_cases h : (j : Int) < n
        · exact .inr ⟨by simp [h], by simp; omega⟩
        · exact .inl (by simp; omega)
      rcases hd with hd | ⟨hd, hd2⟩
      · go_wp2
        go_ret
        exact ⟨rfl, h1, f1⟩
      · go_wp2
        go_ret
        exact ⟨rfl, h1, f1⟩

end Go.Proofs.Ythabklgeopdlhaa
