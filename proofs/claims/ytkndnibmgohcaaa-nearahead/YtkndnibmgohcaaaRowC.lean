/-
  Rows of numbers with room behind them: what 'append([]int{}, l...)' leaves.
-/
import Derived.Test.YtkndnibmgohcaaaCopyN
namespace Go.Proofs.Ytkndnibmgohcaaa
open Go.RowKit

/-- Block g holds n numbers, V, and perhaps more cells. -/
def RowC (w : World) (g n : Nat) (V : Nat → Int) : Prop := ∃ cs, Blk w g cs 3 ∧ n ≤ cs.size ∧ ∀ j, j < n → cs[j]? = some (.int .i64 (V j))
theorem RowC.lt {w : World} {g n : Nat} {V : Nat → Int} (h : RowC w g n V) : g < w.heap.size := by obtain ⟨cs, hb, _⟩ := h; exact hb.lt
theorem RowC.fr {w w' : World} {g n : Nat} {V : Nat → Int} {S : Nat → Prop} (h : RowC w g n V) (f : Fr S w w') (hn : ¬ S g) : RowC w' g n V := by
  obtain ⟨cs, hb, r⟩ := h
  exact ⟨cs, hb.fr f hn, r⟩
theorem RowC.quiet {w w' : World} {g n : Nat} {V : Nat → Int} (h : RowC w g n V) (f : Fr (fun _ => False) w w') : RowC w' g n V := h.fr f (fun h => h)
theorem RowC.cell {w : World} {g n : Nat} {V : Nat → Int} (h : RowC w g n V) {j : Nat} (hj : j < n) : w.cell? ⟨g, j, none⟩ = some (.int .i64 (V j)) := by
  obtain ⟨cs, hb, _, hc⟩ := h
  rw [hb.cell, hc j hj]
theorem RowC.thaw {w : World} {g n : Nat} {V : Nat → Int} (h : RowC w g n V) (j : Nat) : w.frozen? ⟨g, j, none⟩ = false := by
  obtain ⟨cs, hb, _⟩ := h
  exact hb.thaw j
theorem RowC.congr {w : World} {g n : Nat} {V V' : Nat → Int} (h : RowC w g n V) (e : ∀ j, j < n → V j = V' j) : RowC w g n V' := by
  obtain ⟨cs, hb, hs, hc⟩ := h
  exact ⟨cs, hb, hs, fun j hj => by rw [hc j hj, e j hj]⟩
theorem RowC.set {w : World} {g n : Nat} {V : Nat → Int} (h : RowC w g n V) (i : Nat) (z : Int) : RowC (w.setCell ⟨g, i, none⟩ (.int .i64 z)) g n (fun j => if j = i then z else V j) := by
  obtain ⟨cs, hb, hs, hc⟩ := h
  refine ⟨_, hb.set i _, by simpa using hs, fun j hj => ?_⟩
  dsimp only
  by_cases e : j = i
  · subst e
    rw [if_pos rfl, Array.getElem?_setIfInBounds_self_of_lt (by omega)]
  · rw [if_neg e, Array.getElem?_setIfInBounds_ne (fun h => e h.symm), hc j hj]
theorem RowC.nums {w : World} {g n : Nat} {V : Nat → Int} (h : RowC w g n V) {cap : Nat} (hn : n ≤ cap) (hc : cap ≤ maxLen) : Nums w (some ⟨g, 0, none⟩) n cap V g :=
  ⟨hn, hc, fun _ => ⟨0, rfl, fun j hj => by rw [Nat.zero_add]; exact h.cell hj⟩⟩
theorem RowC.intB {w : World} {g n : Nat} {V : Nat → Int} (h : RowC w g n V) : IntB w g := by
  obtain ⟨cs, hb, _⟩ := h
  exact ⟨cs, hb⟩
theorem Row.rowC {w : World} {g n : Nat} {V : Nat → Int} (h : Row w g n V) : RowC w g n V := by
  obtain ⟨cs, hb, hs, hc⟩ := h
  exact ⟨cs, hb, by omega, hc⟩

/-- The numbers as cells. -/
def mapV (n : Nat) (V : Nat → Int) : List Value := (List.range n).map fun j => Value.int .i64 (V j)
theorem mapV_length (n : Nat) (V : Nat → Int) : (mapV n V).length = n := by simp [mapV]
theorem mapV_get {n : Nat} {V : Nat → Int} {j : Nat} (h : j < n) : (mapV n V)[j]? = some (.int .i64 (V j)) := by simp [mapV, h]
theorem mapV_succ (n : Nat) (V : Nat → Int) : mapV (n + 1) V = mapV n V ++ [.int .i64 (V n)] := by simp [mapV, List.range_succ]

/-- A list that a call has made of its own: its value, its numbers; where it may be written. -/
structure OwnL (w : World) (base : Nat) (a : Option Addr) (n cap : Nat) (V : Nat → Int) (b : Nat) : Prop where
  nums : Nums w a n cap V b
  nil : a = none → n = 0 ∧ cap = 0
  row : 0 < n → a = some ⟨b, 0, none⟩ ∧ RowC w b n V ∧ base ≤ b

theorem OwnL.of_owns {w : World} {base : Nat} {v : Value} {n : Nat} {V : Nat → Int} (h : w.ownsRow base 3 1 v n (mapV n V)) : ∃ a cap b, v = .slice a n cap ∧ OwnL w base a n cap V b := by
  rcases h.2 with ⟨rfl, h0⟩ | ⟨g, cap, cur, rfl, hb, hg, hnc, hcm, hcs, ht⟩
  · subst h0
    exact ⟨none, 0, 0, rfl, Nums.nil _ _ _, fun _ => ⟨rfl, rfl⟩, fun h => by omega⟩
  · have hr : RowC w g n V := by
      refine ⟨cur, hg, by omega, fun j hj => ?_⟩
      have := mapV_get (V := V) hj
      rw [← ht, List.getElem?_take, if_pos (by omega)] at this
      simpa using this
    exact ⟨some ⟨g, 0, none⟩, cap, g, rfl, hr.nums hnc hcm, (by intro h; cases h), fun _ => ⟨rfl, hr, hb⟩⟩

/-- 'append([]int{}, l...)', behind the empty list that was made. -/
theorem wpList_copyI {w : World} {ops : Array Oper} {rest : List Oper} {o : Oper} {A : Act} {Q : Exit → Act → World → Prop} (hgd : o.guard = none) (s x : Operand) (ho : o.op = .call { callee := .builtin .append, args := #[s, x], argTypes := #[24, 24] })
    (hs : A.eval s = .slice (some ⟨w.heap.size, 0, none⟩) 0 0) (a : Option Addr) (n cap : Nat) (V : Nat → Int) (b : Nat) (hx : A.eval x = .slice a n cap) (hN : Nums w a n cap V b) (hf : a = none → n = 0 ∧ cap = 0) (hn : n ≤ 10000000)
    (h : ∀ a' cap' b' w', OwnL w' w.heap.size a' n cap' V b' → Fr (fun _ => False) w w' → wpList Try.prog ops Q rest (A.put o.dst (.slice a' n cap')) w') : wpList Try.prog ops Q (o :: rest) A (w.alloc (.cells #[] 3)) := by
  obtain ⟨i0, hi, hz0, hz1, hz2⟩ := info_parts Try.info_int
  have hown : (w.alloc (.cells #[] 3)).ownsRow w.heap.size 3 1 (.slice (some ⟨w.heap.size, 0, none⟩) 0 0) 0 [] := World.ownsRow_made w #[] 0 (Nat.le_refl _) (by unfold maxLen; omega) rfl
  have hone : ∀ u ∈ mapV n V, u.oneCell' = true := mapV_one n V
  have F0 : Fr (fun _ => False) w (w.alloc (.cells #[] 3)) := (Fr.refl _ w).alloc _
  cases a with
  | none =>
    obtain ⟨rfl, rfl⟩ := hf rfl
    refine wpList_append_own_none hgd s x 24 ho w.heap.size 3 i0 1 Try.underlying24 hi _ 0 [] hs hown hx ?_
    obtain ⟨a', cap', b', e, ol⟩ := OwnL.of_owns (V := V) (n := 0) hown
    rw [e]
    exact h a' cap' b' _ ol F0
  | some q =>
    have hsrc : ∀ j u, (mapV n V)[j]? = some u → (w.alloc (.cells #[] 3)).cell? (q.add j) = some u := by
      intro j u hu
      have hj : j < n := by
        have := (List.getElem?_eq_some_iff.1 hu).1
        rwa [mapV_length] at this
      obtain ⟨off, e, hc⟩ := (hN.quiet F0).at' (by omega)
      obtain rfl : q = ⟨b, off, none⟩ := by simpa using e
      rw [addr_add, hc j hj, ← hu, mapV_get hj]
    refine wpList_append_own _ hgd s x 24 ho w.heap.size 3 i0 (.int .i64 0) 1 8 Try.underlying24 hi hz0 hz1 hz2 rfl (by decide) _ 0 [] hs hown q n cap (mapV n V) hx (by rw [mapV_length]; omega) hsrc hone (by unfold maxLen; omega) (by omega) (by simp) (fun v' w' h2 h3 _ => ?_)
    rw [List.nil_append, Nat.zero_add] at h2
    obtain ⟨a', cap', b', rfl, ol⟩ := OwnL.of_owns h2
    exact h a' cap' b' w' ol (F0.grown h3 (fun k hk hl => by simp [Value.ownBlock] at hk; omega))

/-- 'l = append(l, z)' onto a list of one's own, behind the list of one number that was made. -/
theorem wpList_pushI {w0 w : World} {ops : Array Oper} {rest : List Oper} {o : Oper} {A : Act} {Q : Exit → Act → World → Prop} (hgd : o.guard = none) (s x : Operand) (ho : o.op = .call { callee := .builtin .append, args := #[s, x], argTypes := #[24, 24] })
    (v : Value) (n : Nat) (U : Nat → Int) (z : Int) (hs : A.eval s = v) (hown : w.ownsRow w0.heap.size 3 1 v n (mapV n U)) (hx : A.eval x = .slice (some ⟨w.heap.size, 0, none⟩) 1 1) (hz : U n = z) (F : Fr (fun _ => False) w0 w) (hn : n ≤ 10000000)
    (h : ∀ v' w', w'.ownsRow w0.heap.size 3 1 v' (n + 1) (mapV (n + 1) U) → Fr (fun _ => False) w0 w' → wpList Try.prog ops Q rest (A.put o.dst v') w') : wpList Try.prog ops Q (o :: rest) A (w.alloc (.cells #[.int .i64 z] 3)) := by
  obtain ⟨i0, hi, hz0, hz1, hz2⟩ := info_parts Try.info_int
  have hlt := hown.lt
  refine wpList_append_own _ hgd s x 24 ho w0.heap.size 3 i0 (.int .i64 0) 1 8 Try.underlying24 hi hz0 hz1 hz2 rfl (by decide) v n (mapV n U) hs (hown.alloc _) ⟨w.heap.size, 0, none⟩ 1 1 [.int .i64 z] hx rfl (World.news_of_block (heap_alloc_new _ _)) (fun u hu => ?_) (by unfold maxLen; omega) (by omega) (by have := F.size; simp; omega) (fun v' w' h2 h3 _ => ?_)
  · simp at hu; subst hu; rfl
  · rw [← hz, ← mapV_succ] at h2
    exact h v' w' h2 ((F.alloc _).grown h3 (fun k hk hl => by have := hlt k hk; omega))
end Go.Proofs.Ytkndnibmgohcaaa
