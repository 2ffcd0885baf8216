/-
  The document's own answers of layer 6 (package shingleref06), walked: steps put.
-/
import Derived.Test.YthabklgeopdlhaaRef6G
import Derived.Test.YthabklgeopdlhaaRef5E
namespace Go.Proofs.Ythabklgeopdlhaa
open Go.RowKit

theorem ownsRow_form2' {w : World} {base : Nat} {e : TypeId} {v : Value} {n : Nat} {xs : List Value} (h : w.ownsRow base e 2 v n xs) : ∃ a cap, v = .slice a n cap ∧ (0 < n → ∃ g, a = some ⟨g, 0, none⟩) := by
  rcases h.2 with ⟨rfl, h0⟩ | ⟨g, cap, cur, rfl, _⟩
  · exact ⟨none, 0, by rw [h0], fun hp => by omega⟩
  · exact ⟨_, cap, rfl, fun _ => ⟨g, rfl⟩⟩

theorem REnGets.refl {p : Nat} {v : Value} {w : World} {n : Nat} {s : CS} (h : REn w p v n s) : REnGets p v w w n s := ⟨v, h, Fr.refl _ _, .inl rfl⟩

set_option maxHeartbeats 1000000 in
/-- Put. -/
theorem rputs_any (w : World) (p : Nat) (v : Value) (n : Nat) (s : CS) (base : Nat) (vs : Value) (l : List (Int × Bool)) (h : REn w p v n s) (hv : w.ownsRow base 71 2 vs l.length (bitRow l)) (hp : vs.ownBlock ≠ some p) (hn : n ≤ 64) (hN : s.N + l.length ≤ 1000000) (hG : Good n s) :
    Calls Try.prog 15 #[.pointer (some ⟨p, 0, none⟩), vs] w fun e w' => e = .returned (.tuple #[]) ∧ REnGets p v w w' n (runC n s l) := by
  obtain ⟨a, cap, rfl, hf⟩ := ownsRow_form2' hv
  have HV := hid hv
  clear hv
  go_enter Try.func15, Try.ntmps15
  go_wp2
  go_loopw [8] (fun i wr => ∃ j : Nat, j ≤ l.length ∧ i = .int .i64 (j : Int) ∧ REnGets p v w wr n (runC n s (l.take j))) (fun i _ => l.length - (intOf i).toNat)
  case atStart => exact ⟨0, Nat.zero_le _, rfl, REnGets.refl h⟩
  case round =>
    obtain ⟨j, hj, rfl, v1, h1, f1, hv1⟩ := hrel
    by_cases hlt : j < l.length
    · obtain ⟨g, rfl⟩ := hf (by omega)
      have hji : (j : Int) < (l.length : Int) := by omega
      have hgp : g ≠ p := fun e => hp (by rw [e]; rfl)
      have o1 := ownsRow_fr HV.out f1 (fun k hk e => hp (by rw [hk, e]))
      obtain ⟨r0, r1⟩ := bitRow_get l j hlt
      have c0 := o1.cells (g := g) rfl _ _ r0
      have c1 := o1.cells (g := g) rfl _ _ r1
      rw [addr_add, Nat.zero_add] at c0 c1
      have hG1 := runC_good n (l.take j) s hG
      have hN1 := runC_N n (l.take j) s
      rw [List.length_take, Nat.min_eq_left (by omega)] at hN1
      have HT : Hid (runC n s (l.take (j + 1)) = putX n (runC n s (l.take j)) l[j].1 l[j].2) := by show _ = _; rw [List.take_succ_eq_append_getElem hlt, runC_snoc]
      generalize l[j].1 = y at *
      generalize l[j].2 = t at *
      generalize runC n s (l.take j) = s1 at *
      have h2 := h1.quiet ((Fr.refl (fun _ => False) wr).alloc (.cells #[.int .i64 y, .bool t] 71))
      have f2 := f1.alloc (.cells #[.int .i64 y, .bool t] 71)
      have hsz := f1.size
      clear h1 f1 r0 r1 o1
      go_wp2_with fail
      refine (rput_any _ p v1 n s1 y t h2 hn (by omega) hG1).mono ?_
      rintro e w3 ⟨rfl, v3, h3, f3, hv3⟩
      rw [← HT.out] at h3
      have f4 := f2.trans' f3
      have hv4 : v3 = v ∨ ∀ k, v3.ownBlock = some k → w.heap.size ≤ k := by
        rcases hv3 with e | e
        · rw [e]; exact hv1
        · exact .inr fun k hk => by have := e k hk; simp at this; omega
      clear h2 f2 f3 hv3 c0 c1
      go_wp2
      go_roundw
      case rel => exact ⟨j + 1, by omega, by go_num, v3, h3, f4, hv4⟩
      case measure => simp [intOf]; omega
    · have hji : ¬ (j : Int) < (l.length : Int) := by omega
      rw [List.take_of_length_le (by omega)] at h1
      go_wp2
      go_end0
      exact ⟨rfl, v1, h1, f1, hv1⟩
end Go.Proofs.Ythabklgeopdlhaa
