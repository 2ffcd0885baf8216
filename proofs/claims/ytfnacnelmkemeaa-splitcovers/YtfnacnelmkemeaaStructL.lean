/-
  Slices of structs of k one-cell fields each, in memory: read, and one's own.
-/
import Derived.Test.YtfnacnelmkemeaaSpotK
namespace Go.Proofs.Ytfnacnelmkemeaa
open Go.RowKit

/-- The cells of n structs, one behind the other. -/
def flatC (C : Nat → List Value) (n : Nat) : List Value := (List.range n).flatMap C
theorem flatC_zero (C : Nat → List Value) : flatC C 0 = [] := rfl
theorem flatC_succ (C : Nat → List Value) (n : Nat) : flatC C (n + 1) = flatC C n ++ C n := by simp [flatC, List.range_succ]
theorem flatC_length {C : Nat → List Value} {k : Nat} : ∀ {n : Nat}, (∀ i, i < n → (C i).length = k) → (flatC C n).length = n * k
  | 0, _ => by simp [flatC]
  | n + 1, h => by rw [flatC_succ, List.length_append, flatC_length (fun i hi => h i (by omega)), h n (by omega), Nat.succ_mul]
theorem flatC_get {C : Nat → List Value} {k : Nat} : ∀ {n : Nat}, (∀ i, i < n → (C i).length = k) → ∀ (i j : Nat) (u : Value), i < n → (C i)[j]? = some u → (flatC C n)[i * k + j]? = some u
  | 0, _ => fun _ _ _ h => absurd h (by omega)
  | n + 1, h => fun i j u hi hu => by
    have hl := flatC_length (n := n) (fun i hi => h i (by omega))
    rw [flatC_succ]
    by_cases e : i = n
    · subst e
      rw [List.getElem?_append_right (by omega), hl, Nat.add_sub_cancel_left]; exact hu
    · have hj : j < k := by rw [← h i hi]; exact (List.getElem?_eq_some_iff.1 hu).1
      have : i * k + k ≤ n * k := by rw [← Nat.succ_mul]; exact Nat.mul_le_mul_right _ (by omega)
      rw [List.getElem?_append_left (by omega)]
      exact flatC_get (fun i hi => h i (by omega)) i j u (by omega) hu
theorem flatC_one {C : Nat → List Value} {n : Nat} (h : ∀ i, i < n → ∀ u ∈ C i, u.oneCell' = true) : ∀ u ∈ flatC C n, u.oneCell' = true := by
  intro u hu
  simp only [flatC, List.mem_flatMap, List.mem_range] at hu
  obtain ⟨i, hi, h2⟩ := hu
  exact h i hi u h2
theorem flatC_congr {C C' : Nat → List Value} {n : Nat} (h : ∀ i, i < n → C i = C' i) : flatC C n = flatC C' n := by
  induction n with
  | zero => rfl
  | succ n ih => rw [flatC_succ, flatC_succ, ih (fun i hi => h i (by omega)), h n (by omega)]

/-- The cells of the structs that were told. -/
def spotC (C : Nat → List Value) {m : Nat} (pre : List (Spot m)) : List Value := pre.flatMap fun p => C p.1
theorem spotC_snoc (C : Nat → List Value) {m : Nat} (pre : List (Spot m)) (p : Spot m) : spotC C (pre ++ [p]) = spotC C pre ++ C p.1 := by
  unfold spotC; rw [List.flatMap_append, List.flatMap_singleton]
theorem flatC_spots {C : Nat → List Value} {m n : Nat} {xs : List (Spot m)} (h : Spots n xs) : spotC C xs = flatC C n := by
  have : xs.map Subtype.val = List.range n := h
  unfold flatC spotC
  rw [← this, List.flatMap_map]

/-- A slice of n structs of k cells each, C, that lie in block b. -/
structure Cls (w : World) (a : Option Addr) (n cap k : Nat) (C : Nat → List Value) (b : Nat) : Prop where
  le : n ≤ cap
  most : cap ≤ maxLen
  at' : 0 < n → a = some ⟨b, 0, none⟩ ∧ ∀ i, i < n → ∀ j u, (C i)[j]? = some u → w.cell? ⟨b, i * k + j, none⟩ = some u
theorem Cls.fr {w w' : World} {a : Option Addr} {n cap k : Nat} {C : Nat → List Value} {b : Nat} {S : Nat → Prop} (h : Cls w a n cap k C b) (f : Fr S w w') (hb : 0 < n → ¬ S b) : Cls w' a n cap k C b := by
  refine ⟨h.le, h.most, fun hn => ?_⟩
  obtain ⟨e, hc⟩ := h.at' hn
  exact ⟨e, fun i hi j u hu => (f.cell (p := ⟨b, i * k + j, none⟩) (cell_lt (hc i hi j u hu)) (hb hn)).trans (hc i hi j u hu)⟩
theorem Cls.quiet {w w' : World} {a : Option Addr} {n cap k : Nat} {C : Nat → List Value} {b : Nat} (h : Cls w a n cap k C b) (f : Fr (fun _ => False) w w') : Cls w' a n cap k C b := h.fr f (fun _ h => h)
theorem Cls.nil (w : World) (k : Nat) (C : Nat → List Value) (b : Nat) : Cls w none 0 0 k C b := ⟨Nat.le_refl _, Nat.zero_le _, fun h => absurd h (by omega)⟩
theorem Cls.congr {w : World} {a : Option Addr} {n cap k : Nat} {C C' : Nat → List Value} {b : Nat} (h : Cls w a n cap k C b) (e : ∀ i, i < n → C i = C' i) : Cls w a n cap k C' b := by
  refine ⟨h.le, h.most, fun hn => ?_⟩
  obtain ⟨e1, hc⟩ := h.at' hn
  exact ⟨e1, fun i hi j u hu => hc i hi j u (by rw [e i hi]; exact hu)⟩
theorem Cls.addr {w : World} {a : Option Addr} {n cap k : Nat} {C : Nat → List Value} {b : Nat} (h : Cls w a n cap k C b) (hn : 0 < n) : a = some ⟨b, 0, none⟩ := (h.at' hn).1
theorem Cls.len {w : World} {a : Option Addr} {n cap k : Nat} {C : Nat → List Value} {b : Nat} (h : Cls w a n cap k C b) : (n : Int) ≤ 9223372036854775807 := by
  have := h.le; have := h.most; unfold maxLen at *; omega
/-- A list that is one's own, read. -/
theorem Cls.of_owns {w : World} {base : Nat} {e : TypeId} {v : Value} {n k : Nat} {C : Nat → List Value} (h : w.ownsRow base e k v n (flatC C n)) (hk : ∀ i, i < n → (C i).length = k) : ∃ a cap b, v = .slice a n cap ∧ Cls w a n cap k C b ∧ (0 < n → base ≤ b ∧ b < w.heap.size) := by
  rcases h.2 with ⟨rfl, h0⟩ | ⟨g, cap, cur, rfl, hb, hg, hnc, hcm, hcs, ht⟩
  · subst h0
    exact ⟨none, 0, 0, rfl, Cls.nil _ _ _ _, fun h => absurd h (by omega)⟩
  · refine ⟨_, cap, g, rfl, ⟨hnc, hcm, fun hn => ⟨rfl, fun i hi j u hu => ?_⟩⟩, fun _ => ⟨hb, (Array.getElem?_eq_some_iff.1 hg).1⟩⟩
    have hu' := flatC_get hk i j u hi hu
    have := h.cells (g := g) rfl _ u hu'
    have hadd : (⟨g, 0, none⟩ : Addr).add (i * k + j) = ⟨g, i * k + j, none⟩ := by unfold Addr.add; split <;> simp_all
    rwa [hadd] at this
theorem addr_add0 (g j : Nat) : (⟨g, 0, none⟩ : Addr).add j = ⟨g, j, none⟩ := by unfold Addr.add; split <;> simp_all
/-- The cells of a struct that was just made. -/
theorem cells_fresh (w : World) (l : List Value) (t : TypeId) : ∀ j u, l[j]? = some u → (w.alloc (.cells l.toArray t)).cell? ((⟨w.heap.size, 0, none⟩ : Addr).add j) = some u := by
  intro j u hj
  have := (Blk.new w l.toArray t).cell j
  rw [addr_add0, this, List.getElem?_toArray]
  exact hj
theorem cells_blk {w : World} {g : Nat} {l : List Value} {t : TypeId} (h : Blk w g l.toArray t) : ∀ j u, l[j]? = some u → w.cell? ((⟨g, 0, none⟩ : Addr).add j) = some u := by
  intro j u hj
  rw [addr_add0, h.cell j, List.getElem?_toArray]
  exact hj
/-- A struct of four cells, stored. -/
def stored4 (w : World) (r : Nat) (x0 x1 x2 x3 : Value) : World := (((w.setCell ⟨r, 0, none⟩ x0).setCell ⟨r, 1, none⟩ x1).setCell ⟨r, 2, none⟩ x2).setCell ⟨r, 3, none⟩ x3
theorem Blk.put4 {w : World} {r : Nat} {a0 a1 a2 a3 : Value} {t : TypeId} (h : Blk w r #[a0, a1, a2, a3] t) (x0 x1 x2 x3 : Value) : Blk (stored4 w r x0 x1 x2 x3) r #[x0, x1, x2, x3] t := by
  unfold stored4
  simpa using (((h.set 0 x0).set 1 x1).set 2 x2).set 3 x3
theorem Fr.put4 {S : Nat → Prop} {a w : World} (h : Fr S a w) {r : Nat} (hr : r < a.heap.size → S r) (x0 x1 x2 x3 : Value) : Fr S a (stored4 w r x0 x1 x2 x3) :=
  (((h.setCell (p := ⟨r, 0, none⟩) hr _).setCell (p := ⟨r, 1, none⟩) hr _).setCell (p := ⟨r, 2, none⟩) hr _).setCell (p := ⟨r, 3, none⟩) hr _
theorem Fr.put4New {a w : World} (h : Fr (fun _ => False) a w) {r : Nat} (hr : a.heap.size ≤ r) (x0 x1 x2 x3 : Value) : Fr (fun _ => False) a (stored4 w r x0 x1 x2 x3) := h.put4 (fun hl => absurd (show r < a.heap.size from hl) (by omega)) x0 x1 x2 x3
end Go.Proofs.Ytfnacnelmkemeaa
