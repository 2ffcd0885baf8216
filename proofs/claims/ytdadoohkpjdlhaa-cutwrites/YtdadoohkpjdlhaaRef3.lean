/-
  The document's own answers of layer 3.
-/
import Derived.Test.YtdadoohkpjdlhaaCutP
namespace Go.Proofs.Ytdadoohkpjdlhaa
open Go.RowKit

/-- The document's cursor lies in block x: zs, pos of them behind. -/
def RCu (w : World) (x : Nat) (zs : List Nat) (pos : Nat) : Prop := Blk w x #[.string (strOf (zs.drop pos)), .int .i64 (pos : Int)] 29
theorem RCu.fr {w w' : World} {x : Nat} {zs : List Nat} {pos : Nat} {S : Nat → Prop} (h : RCu w x zs pos) (f : Fr S w w') (hp : ¬ S x) : RCu w' x zs pos := Blk.fr h f hp
theorem RCu.drewN {w : World} {x : Nat} {zs : List Nat} {pos : Nat} (h : RCu w x zs pos) (n : Nat) : RCu (w.drewN n) x zs pos := Blk.drewN h n

/-- Take. -/
theorem refTake_any (w : World) (x : Nat) (zs : List Nat) (pos : Nat) (n : Int) (h : RCu w x zs pos) (hle : pos ≤ zs.length) (hz : zs.length ≤ 100000000000000) :
    Calls Try.prog 12 #[.pointer (some ⟨x, 0, none⟩), .int .i64 n] w fun e w' =>
      e = .returned (.tuple #[.string (strOf (piece zs pos (amt zs.length pos n))), .bool (okB zs.length pos n)]) ∧ RCu w' x zs (pos + amt zs.length pos n) ∧ Fr (fun k => k = x) w w' := by
  have hc0 := Blk.cell h 0
  have hc1 := Blk.cell h 1
  have hf := Blk.thaw h
  simp at hc0 hc1
  obtain ⟨S, hS⟩ : ∃ S, S = strOf (zs.drop pos) := ⟨_, rfl⟩
  have hsz : S.size = zs.length - pos := by rw [hS, strOf_size, List.length_drop]
  rw [← hS] at hc0
  cases ho : okB zs.length pos n with
  | true =>
    have hle2 := amt_le zs.length pos n hle
    obtain ⟨m, hm⟩ : ∃ m, m = amt zs.length pos n := ⟨_, rfl⟩
    have e : n = (m : Int) := by rw [hm]; exact (amt_ok ho).symm
    rw [← hm] at hle2 ⊢
    subst e
    have e1 : S.extract 0 m = strOf (piece zs pos m) := by rw [hS, strOf_extract, List.drop_zero, Nat.sub_zero]; rfl
    have e2 : S.extract m S.size = strOf (zs.drop (pos + m)) := by rw [hsz, hS, strOf_extract, List.drop_drop, List.take_of_length_le (by simp; omega)]
    have E1 := hid e1
    have E2 := hid e2
    have a1 : ¬ (m : Int) < 0 := by omega
    have a2 : ¬ (S.size : Int) < (m : Int) := by omega
    have a3 : m ≤ S.size := by omega
    have a4 : (S.size : Int) ≤ 100000000000000 := by omega
    clear hm ho e1 e2 hS hsz
    go_enter Try.func12, Try.ntmps12
    go_wp2
    go_ret2
    rw [E1.out, E2.out]
    refine ⟨rfl, ?_, ((Fr.refl (fun k => k = x) w).setCell (fun _ => rfl) _).setCell (fun _ => rfl) _⟩
    have := (Blk.set h 0 (.string (strOf (zs.drop (pos + m))))).set 1 (.int .i64 ((pos : Int) + (m : Int)))
    simpa [RCu] using this
  | false =>
    rw [amt_no ho, piece_zero]
    have a1 : n < 0 ∨ (¬ n < 0 ∧ (S.size : Int) < n) := by simp [okB] at ho; omega
    clear ho hS hsz
    rcases a1 with a1 | ⟨a1, a2⟩
    · go_enter Try.func12, Try.ntmps12
      go_wp2
      go_ret2
      exact ⟨rfl, h, Fr.refl _ _⟩
    · go_enter Try.func12, Try.ntmps12
      go_wp2
      go_ret2
      exact ⟨rfl, h, Fr.refl _ _⟩

set_option maxHeartbeats 400000 in
/-- Number. -/
theorem refNumber_any (w : World) (x : Nat) (zs : List Nat) (pos : Nat) (n : Int) (h : RCu w x zs pos) (hle : pos ≤ zs.length) (hz : zs.length ≤ 100000000000000) (hs : ∀ z ∈ zs, z < 256) (hn : n ≤ 4) :
    Calls Try.prog 10 #[.pointer (some ⟨x, 0, none⟩), .int .i64 n] w fun e w' =>
      e = .returned (.tuple #[.int .i64 ((valB (piece zs pos (amt zs.length pos n)) : Nat) : Int), .bool (okB zs.length pos n)]) ∧ RCu w' x zs (pos + amt zs.length pos n) ∧ Fr (fun k => k = x) w w' := by
  have hT := hid (refTake_any w x zs pos n h hle hz)
  have hle2 := amt_le zs.length pos n hle
  have hm4 : amt zs.length pos n ≤ 4 := by
    cases ho : okB zs.length pos n with
    | true => have := amt_ok ho; omega
    | false => rw [amt_no ho]; omega
  generalize amt zs.length pos n = m at *
  generalize okB zs.length pos n = ok at *
  obtain ⟨S, hS⟩ : ∃ S, S = strOf (piece zs pos m) := ⟨_, rfl⟩
  have hl := piece_length zs pos m hle2
  have hsm := piece_small hs pos m
  generalize piece zs pos m = ys at *
  have hsz : S.size = m := by rw [hS, strOf_size, hl]
  have hget : ∀ (i : Nat) (h : i < S.size), (S[i]'h).toNat = ys.getD i 0 := by subst hS; exact strOf_get ys hsm
  have HG := hid hget
  have HL := hid hl
  have HM := hid hsm
  rw [← hS] at hT
  clear hget hl hsm hS
  go_enter Try.func10, Try.ntmps10
  go_wp2_with fail
  refine hT.out.mono ?_
  rintro e w1 ⟨rfl, h1, f1⟩
  clear hT
  go_wp2
  go_loop [8, 9] (fun v i => ∃ k : Nat, k ≤ m ∧ i = .int .i64 (k : Int) ∧ v = .int .i64 ((valB (ys.take k) : Nat) : Int)) (fun _ i => m - (intOf i).toNat)
  case atStart => exact ⟨0, Nat.zero_le _, rfl, rfl⟩
  case round =>
    obtain ⟨k, hk, rfl, rfl⟩ := hrel
    by_cases hlt : k < m
    · have hlt2 : k < S.size := by omega
      have hlt3 : (k : Int) < (S.size : Int) := by omega
      have hlt4 : k < ys.length := by rw [HL.out]; exact hlt
      have HB := HG.out k hlt2
      have hx := valB_lt ys HM.out k (by omega)
      have HX := hid (valB_take_succ ys k hlt4)
      obtain ⟨z, hz2⟩ : ∃ z, z = ys.getD k 0 := ⟨_, rfl⟩
      have hz3 : z < 256 := by rw [hz2]; simpa [List.getD, hlt4] using HM.out _ (List.getElem_mem hlt4)
      rw [← hz2] at HX HB
      obtain ⟨y, hy⟩ : ∃ y, y = valB (ys.take k) := ⟨_, rfl⟩
      rw [← hy] at hx HX ⊢
      have hx2 : y < 16777216 := by
        have : 256 ^ k ≤ 256 ^ 3 := Nat.pow_le_pow_right (by decide) (by omega)
        omega
      clear hx hz2 hy hlt4
      go_wp2
      go_round
      case rel => exact ⟨k + 1, by omega, by go_num, congrArg (Value.int .i64) (by rw [HX.out]; omega)⟩
      case measure => simp [intOf]; omega
    · obtain rfl : k = m := by omega
      have hlt3 : ¬ (k : Int) < (S.size : Int) := by omega
      rw [List.take_of_length_le (by rw [HL.out]; omega)]
      go_wp2
      go_ret2
      exact ⟨rfl, h1, f1⟩

/-- Word. -/
theorem refWord_any (w : World) (v : Nat) (hv : v < 4294967296) :
    Calls Try.prog 18 #[.int .i64 (v : Int)] w fun e w' => e = .returned (.string (strOf (word4 v))) ∧ Fr (fun _ => False) w w' := by
  have e4 : word4 v = [v / 16777216, v / 65536 % 256, v / 256 % 256, v % 256] := by
    unfold word4
    rw [Nat.mod_eq_of_lt (show v / 16777216 < 256 by omega)]
  obtain ⟨S, hS⟩ : ∃ S, S = strOf (word4 v) := ⟨_, rfl⟩
  have hcv := conv_bytes (w.alloc (.cells (rowOf [v / 16777216, v / 65536 % 256, v / 256 % 256, v % 256]).toArray 5)) w.heap.size [v / 16777216, v / 65536 % 256, v / 256 % 256, v % 256] 4 5 (Blk.new w _ _)
  rw [← e4, ← hS, e4] at hcv
  simp [rowOf] at hcv
  rw [← hS]
  clear e4 hS
  go_enter Try.func18, Try.ntmps18
  go_wp2
  go_ret
  exact ⟨rfl, (Fr.refl _ w).alloc _⟩
end Go.Proofs.Ytdadoohkpjdlhaa
