/-
  Planes in memory: the numbers of a slice (Nums), a row of numbers known whole (Row), and what a call that makes a plane leaves (Made).
-/
import Derived.Test.YtkndnibmgohcaaaPlane
import Derived.Test.YtkndnibmgohcaaaArgs
namespace Go.Proofs.Ytkndnibmgohcaaa
open Go.RowKit

/-- A slice of n numbers, V, that lie in block b. -/
structure Nums (w : World) (a : Option Addr) (n cap : Nat) (V : Nat → Int) (b : Nat) : Prop where
  le : n ≤ cap
  most : cap ≤ maxLen
  at' : 0 < n → ∃ off, a = some ⟨b, off, none⟩ ∧ ∀ j, j < n → w.cell? ⟨b, off + j, none⟩ = some (.int .i64 (V j))

theorem Nums.fr {w w' : World} {a : Option Addr} {n cap : Nat} {V : Nat → Int} {b : Nat} {S : Nat → Prop} (h : Nums w a n cap V b) (f : Fr S w w') (hb : 0 < n → ¬ S b) : Nums w' a n cap V b := by
  refine ⟨h.le, h.most, fun hn => ?_⟩
  obtain ⟨off, e, hc⟩ := h.at' hn
  exact ⟨off, e, fun j hj => (f.cell (p := ⟨b, off + j, none⟩) (cell_lt (hc j hj)) (hb hn)).trans (hc j hj)⟩
theorem Nums.quiet {w w' : World} {a : Option Addr} {n cap : Nat} {V : Nat → Int} {b : Nat} (h : Nums w a n cap V b) (f : Fr (fun _ => False) w w') : Nums w' a n cap V b := h.fr f (fun _ h => h)
theorem Nums.lt {w : World} {a : Option Addr} {n cap : Nat} {V : Nat → Int} {b : Nat} (h : Nums w a n cap V b) (hn : 0 < n) : b < w.heap.size := by
  obtain ⟨off, _, hc⟩ := h.at' hn
  exact cell_lt (hc 0 hn)
theorem Nums.of_in {w : World} {a : Option Addr} {n cap : Nat} {V : Nat → Int} (h : CellsIn w a n cap (fun i => .int .i64 (V i))) : ∃ b, Nums w a n cap V b ∧ (0 < n → b < w.heap.size) := by
  by_cases hn : 0 < n
  · obtain ⟨b, off, rfl, hc⟩ := h.at hn
    exact ⟨b, ⟨h.1, h.2.1, fun _ => ⟨off, rfl, hc⟩⟩, fun _ => cell_lt (hc 0 hn)⟩
  · exact ⟨0, ⟨h.1, h.2.1, fun h => absurd h hn⟩, fun h => absurd h hn⟩
theorem Nums.congr {w : World} {a : Option Addr} {n cap : Nat} {V V' : Nat → Int} {b : Nat} (h : Nums w a n cap V b) (e : ∀ j, j < n → V j = V' j) : Nums w a n cap V' b := by
  refine ⟨h.le, h.most, fun hn => ?_⟩
  obtain ⟨off, e1, hc⟩ := h.at' hn
  exact ⟨off, e1, fun j hj => by rw [hc j hj, e j hj]⟩
theorem Nums.nil (w : World) (V : Nat → Int) (b : Nat) : Nums w none 0 0 V b := ⟨Nat.le_refl _, Nat.zero_le _, fun h => absurd h (by omega)⟩
theorem Nums.len {w : World} {a : Option Addr} {n cap : Nat} {V : Nat → Int} {b : Nat} (h : Nums w a n cap V b) : (n : Int) ≤ 9223372036854775807 := by
  have := h.le; have := h.most; unfold maxLen at *; omega

theorem Nums.setNew {w0 w : World} {a : Option Addr} {n cap : Nat} {V : Nat → Int} {b : Nat} (h : Nums w a n cap V b) {p : Addr} (hp : 0 < n → ¬ b = p.block) (u : Value) (_f : Fr (fun _ => False) w0 w) : Nums (w.setCell p u) a n cap V b := h.fr ((Fr.refl (fun j => j = p.block) w).setCell (fun _ => rfl) u) hp

/-- Block g holds n numbers, V. -/
def Row (w : World) (g n : Nat) (V : Nat → Int) : Prop := ∃ cs, Blk w g cs 3 ∧ cs.size = n ∧ ∀ j, j < n → cs[j]? = some (.int .i64 (V j))
theorem Row.lt {w : World} {g n : Nat} {V : Nat → Int} (h : Row w g n V) : g < w.heap.size := by obtain ⟨cs, hb, _⟩ := h; exact hb.lt
theorem Row.fr {w w' : World} {g n : Nat} {V : Nat → Int} {S : Nat → Prop} (h : Row w g n V) (f : Fr S w w') (hn : ¬ S g) : Row w' g n V := by
  obtain ⟨cs, hb, r⟩ := h
  exact ⟨cs, hb.fr f hn, r⟩
theorem Row.quiet {w w' : World} {g n : Nat} {V : Nat → Int} (h : Row w g n V) (f : Fr (fun _ => False) w w') : Row w' g n V := h.fr f (fun h => h)
theorem Row.cell {w : World} {g n : Nat} {V : Nat → Int} (h : Row w g n V) {j : Nat} (hj : j < n) : w.cell? ⟨g, j, none⟩ = some (.int .i64 (V j)) := by
  obtain ⟨cs, hb, _, hc⟩ := h
  rw [hb.cell, hc j hj]
theorem Row.thaw {w : World} {g n : Nat} {V : Nat → Int} (h : Row w g n V) (j : Nat) : w.frozen? ⟨g, j, none⟩ = false := by
  obtain ⟨cs, hb, _⟩ := h
  exact hb.thaw j
theorem Row.congr {w : World} {g n : Nat} {V V' : Nat → Int} (h : Row w g n V) (e : ∀ j, j < n → V j = V' j) : Row w g n V' := by
  obtain ⟨cs, hb, hs, hc⟩ := h
  exact ⟨cs, hb, hs, fun j hj => by rw [hc j hj, e j hj]⟩
theorem Row.set {w : World} {g n : Nat} {V : Nat → Int} (h : Row w g n V) (i : Nat) (z : Int) : Row (w.setCell ⟨g, i, none⟩ (.int .i64 z)) g n (fun j => if j = i then z else V j) := by
  obtain ⟨cs, hb, hs, hc⟩ := h
  refine ⟨_, hb.set i _, by simpa using hs, fun j hj => ?_⟩
  dsimp only
  by_cases e : j = i
  · subst e
    rw [if_pos rfl, Array.getElem?_setIfInBounds_self_of_lt (by omega)]
  · rw [if_neg e, Array.getElem?_setIfInBounds_ne (fun h => e h.symm), hc j hj]
theorem Row.nums {w : World} {g n : Nat} {V : Nat → Int} (h : Row w g n V) (hn : n ≤ maxLen) : Nums w (some ⟨g, 0, none⟩) n n V g :=
  ⟨Nat.le_refl _, hn, fun _ => ⟨0, rfl, fun j hj => by rw [Nat.zero_add]; exact h.cell hj⟩⟩
theorem Row.made (w : World) (n : Nat) : Row (w.alloc (.cells (madeCells #[.int .i64 0] n) 3)) w.heap.size n (fun _ => 0) := by
  refine ⟨_, Blk.new w _ _, size_madeCells _ _, fun j hj => ?_⟩
  rw [← Array.getElem?_toList, toList_madeCells_one, List.getElem?_replicate, if_pos hj]

/-- The sides that a plane may have; a plane that is right. -/
def sideB (z : Int) : Bool := decide (1 ≤ z) && decide (z ≤ 1024)
def rightP (X Y : Int) (n : Nat) : Bool := sideB X && sideB Y && decide ((n : Int) = X * Y)
theorem sideB_iff {z : Int} : sideB z = true ↔ 1 ≤ z ∧ z ≤ 1024 := by simp [sideB]
theorem sideB_false {z : Int} : sideB z = false ↔ z < 1 ∨ 1024 < z := by
  rw [← Bool.not_eq_true, sideB_iff]; omega
theorem rightP_iff {X Y : Int} {n : Nat} : rightP X Y n = true ↔ (1 ≤ X ∧ X ≤ 1024) ∧ (1 ≤ Y ∧ Y ≤ 1024) ∧ (n : Int) = X * Y := by
  simp [rightP, sideB]
  constructor
  · rintro ⟨⟨⟨a, b⟩, c, d⟩, e⟩; exact ⟨⟨a, b⟩, ⟨c, d⟩, e⟩
  · rintro ⟨⟨a, b⟩, ⟨c, d⟩, e⟩; exact ⟨⟨⟨a, b⟩, c, d⟩, e⟩
/-- A right plane's sides are plain numbers. -/
theorem rightP_nat {X Y : Int} {n : Nat} (h : rightP X Y n = true) : ∃ x y : Nat, X = (x : Int) ∧ Y = (y : Int) ∧ 1 ≤ x ∧ x ≤ 1024 ∧ 1 ≤ y ∧ y ≤ 1024 ∧ n = x * y := by
  obtain ⟨⟨a, b⟩, ⟨c, d⟩, e⟩ := rightP_iff.1 h
  refine ⟨X.toNat, Y.toNat, by omega, by omega, by omega, by omega, by omega, by omega, ?_⟩
  have : ((X.toNat * Y.toNat : Nat) : Int) = X * Y := by
    rw [Int.natCast_mul, Int.toNat_of_nonneg (by omega), Int.toNat_of_nonneg (by omega)]
  omega
theorem rightP_of {x y : Nat} (hx : 1 ≤ x) (hx' : x ≤ 1024) (hy : 1 ≤ y) (hy' : y ≤ 1024) : rightP x y (x * y) = true :=
  rightP_iff.2 ⟨⟨by omega, by omega⟩, ⟨by omega, by omega⟩, by rw [Int.natCast_mul]⟩
theorem mul_most {x y : Nat} (hx : x ≤ 1024) (hy : y ≤ 1024) : x * y ≤ 1048576 := Nat.mul_le_mul hx hy
theorem rightP_zero : rightP 0 0 0 = false := by decide

/-- A block of numbers. -/
def IntB (w : World) (b : Nat) : Prop := ∃ cs, Blk w b cs 3
theorem IntB.fr {w w' : World} {b : Nat} {S : Nat → Prop} (h : IntB w b) (f : Fr S w w') (hn : ¬ S b) : IntB w' b := by
  obtain ⟨cs, hb⟩ := h
  exact ⟨cs, hb.fr f hn⟩
theorem IntB.quiet {w w' : World} {b : Nat} (h : IntB w b) (f : Fr (fun _ => False) w w') : IntB w' b := h.fr f (fun h => h)
theorem Row.intB {w : World} {g n : Nat} {V : Nat → Int} (h : Row w g n V) : IntB w g := by
  obtain ⟨cs, hb, _⟩ := h
  exact ⟨cs, hb⟩
theorem IntB.ne {w : World} {b b' : Nat} {cs : Array Value} {t : TypeId} (h : IntB w b) (h' : Blk w b' cs t) (ht : t ≠ 3) : b ≠ b' := by
  rintro rfl
  obtain ⟨cs', hb⟩ := h
  exact ht (hb.inj h').2.symm

/-- What a call that makes a plane leaves: its value, its numbers in new memory, all else as it was. -/
def Made (w w' : World) (e : Ending) (X Y : Int) (n : Nat) (V : Nat → Int) : Prop :=
  ∃ a cap b, e = .returned (.agg #[.int .i64 X, .int .i64 Y, .slice a n cap]) ∧ Nums w' a n cap V b ∧ (0 < n → w.heap.size ≤ b ∧ IntB w' b) ∧ Fr (fun _ => False) w w'
theorem Made.zero {w w' : World} (f : Fr (fun _ => False) w w') (V : Nat → Int) : Made w w' (.returned (.agg #[.int .i64 0, .int .i64 0, .slice none 0 0])) 0 0 0 V :=
  ⟨none, 0, 0, rfl, Nums.nil _ _ _, fun h => absurd h (by omega), f⟩
theorem Made.before {w0 w w' : World} {e : Ending} {X Y : Int} {n : Nat} {V : Nat → Int} (h : Made w w' e X Y n V) (f : Fr (fun _ => False) w0 w) : Made w0 w' e X Y n V := by
  obtain ⟨a, cap, b, he, hn, hb, g⟩ := h
  exact ⟨a, cap, b, he, hn, fun h => ⟨Nat.le_trans f.size (hb h).1, (hb h).2⟩, f.trans' g⟩
theorem Made.after {w w' w'' : World} {e : Ending} {X Y : Int} {n : Nat} {V : Nat → Int} (h : Made w w' e X Y n V) (f : Fr (fun _ => False) w' w'') : Made w w'' e X Y n V := by
  obtain ⟨a, cap, b, he, hn, hb, g⟩ := h
  exact ⟨a, cap, b, he, hn.quiet f, fun h => ⟨(hb h).1, (hb h).2.quiet f⟩, g.trans' f⟩

/-- Are the first n numbers alike? -/
def eqV (n : Nat) (V V' : Nat → Int) : Bool := (List.range n).all fun j => V j == V' j
theorem eqV_iff {n : Nat} {V V' : Nat → Int} : eqV n V V' = true ↔ ∀ j, j < n → V j = V' j := by
  simp [eqV]
theorem eqV_succ (n : Nat) (V V' : Nat → Int) : eqV (n + 1) V V' = (eqV n V V' && (V n == V' n)) := by
  simp [eqV, List.range_succ]
theorem eqV_not {n k : Nat} {V V' : Nat → Int} (hk : k < n) (h : V k ≠ V' k) : eqV n V V' = false := by
  rw [← Bool.not_eq_true, eqV_iff]
  exact fun h2 => h (h2 k hk)
/-- Are two planes alike in all, right or not? -/
def sameV (X Y : Int) (n : Nat) (V : Nat → Int) (X' Y' : Int) (n' : Nat) (V' : Nat → Int) : Bool := decide (X = X') && decide (Y = Y') && decide (n = n') && eqV n V V'
theorem sameV_self (X Y : Int) (n : Nat) (V : Nat → Int) : sameV X Y n V X Y n V = true := by simp [sameV, eqV]
theorem sameV_of {X Y : Int} {n : Nat} {V V' : Nat → Int} (h : ∀ j, j < n → V j = V' j) : sameV X Y n V X Y n V' = true := by
  simp [sameV, eqV_iff.2 h]

/-- A plane as a value. -/
def PlaneAt (w : World) (v : Value) (X Y : Int) (n : Nat) (V : Nat → Int) : Prop := ∃ a cap b, v = .agg #[.int .i64 X, .int .i64 Y, .slice a n cap] ∧ Nums w a n cap V b ∧ (0 < n → IntB w b)
theorem PlaneAt.quiet {w w' : World} {v : Value} {X Y : Int} {n : Nat} {V : Nat → Int} (h : PlaneAt w v X Y n V) (f : Fr (fun _ => False) w w') : PlaneAt w' v X Y n V := by
  obtain ⟨a, cap, b, e, hn, hi⟩ := h
  exact ⟨a, cap, b, e, hn.quiet f, fun h => (hi h).quiet f⟩
theorem PlaneAt.congr {w : World} {v : Value} {X Y : Int} {n : Nat} {V V' : Nat → Int} (h : PlaneAt w v X Y n V) (hv : ∀ j, j < n → V j = V' j) : PlaneAt w v X Y n V' := by
  obtain ⟨a, cap, b, e, hn, hi⟩ := h
  exact ⟨a, cap, b, e, hn.congr hv, hi⟩
theorem Made.plane {w w' : World} {e : Ending} {X Y : Int} {n : Nat} {V : Nat → Int} (h : Made w w' e X Y n V) : ∃ v, e = .returned v ∧ PlaneAt w' v X Y n V ∧ Fr (fun _ => False) w w' := by
  obtain ⟨a, cap, b, he, hn, hb, f⟩ := h
  exact ⟨_, he, ⟨a, cap, b, rfl, hn, fun h => (hb h).2⟩, f⟩
end Go.Proofs.Ytkndnibmgohcaaa
