/-
  Layer 10 in memory: bands as values, as the cells of a row, lists of them.
-/
import Derived.Test.YtgmainbgliejhaaBandsA
namespace Go.Proofs.Ytgmainbgliejhaa
open Go.RowKit

/-- A band's six cells, and a band as a value. -/
def bandC (b : BandN) : List Value := [.int .i64 (b.level : Int), .int .i64 (b.orient : Int), .int .i64 (b.x : Int), .int .i64 (b.y : Int), .int .i64 (b.w : Int), .int .i64 (b.h : Int)]
def bandRow (l : List BandN) : List Value := l.flatMap bandC
theorem bandRow_length (l : List BandN) : (bandRow l).length = l.length * 6 := by
  induction l with
  | nil => rfl
  | cons x l ih => simp only [bandRow, List.flatMap_cons, List.length_append, List.length_cons, bandC, List.length_nil] at *; omega
theorem bandRow_snoc (l : List BandN) (b : BandN) : bandRow (l ++ [b]) = bandRow l ++ bandC b := by simp [bandRow]
theorem bandRow_append (l l' : List BandN) : bandRow (l ++ l') = bandRow l ++ bandRow l' := by simp [bandRow]
theorem bandRow_get (l : List BandN) : ∀ (i k : Nat) (b : BandN) (u : Value), l[i]? = some b → (bandC b)[k]? = some u → (bandRow l)[i * 6 + k]? = some u := by
  induction l with
  | nil => intro i k b u h; simp at h
  | cons x l ih =>
    intro i k b u h hu
    have e : bandRow (x :: l) = bandC x ++ bandRow l := by simp [bandRow]
    rw [e]
    have hk : k < 6 := (List.getElem?_eq_some_iff.1 hu).1
    cases i with
    | zero =>
      obtain rfl : x = b := by simpa using h
      rw [Nat.zero_mul, Nat.zero_add, List.getElem?_append_left (by exact hk)]; exact hu
    | succ i =>
      rw [show (i + 1) * 6 + k = 6 + (i * 6 + k) by omega, List.getElem?_append_right (by show 6 ≤ _; omega)]
      show (bandRow l)[6 + (i * 6 + k) - 6]? = _
      rw [Nat.add_sub_cancel_left]
      exact ih i k b u (by simpa using h) hu
theorem bandC_one (b : BandN) : ∀ u ∈ bandC b, u.oneCell' = true := by
  intro u hu
  simp [bandC] at hu
  rcases hu with rfl | rfl | rfl | rfl | rfl | rfl <;> rfl
theorem bandRow_one (l : List BandN) : ∀ u ∈ bandRow l, u.oneCell' = true := by
  intro u hu
  simp only [bandRow, List.mem_flatMap] at hu
  obtain ⟨x, _, hx⟩ := hu
  exact bandC_one x u hx
theorem Try.info_band : (Try.prog.info? 31).map (fun i => (i.zero, i.size, i.bytes)) = some (some (.agg #[.int .i64 0, .int .i64 0, .int .i64 0, .int .i64 0, .int .i64 0, .int .i64 0]), 6, 48) := by kernel_rfl

/-- A slice of n bands, L, that lie in block b. -/
structure Bds (w : World) (a : Option Addr) (n cap : Nat) (L : Nat → BandN) (b : Nat) : Prop where
  le : n ≤ cap
  most : cap ≤ maxLen
  at' : 0 < n → a = some ⟨b, 0, none⟩ ∧ ∀ i, i < n → ∀ k u, (bandC (L i))[k]? = some u → w.cell? ⟨b, i * 6 + k, none⟩ = some u
theorem Bds.fr {w w' : World} {a : Option Addr} {n cap : Nat} {L : Nat → BandN} {b : Nat} {S : Nat → Prop} (h : Bds w a n cap L b) (f : Fr S w w') (hb : 0 < n → ¬ S b) : Bds w' a n cap L b := by
  refine ⟨h.le, h.most, fun hn => ?_⟩
  obtain ⟨e, hc⟩ := h.at' hn
  exact ⟨e, fun i hi k u hu => (f.cell (p := ⟨b, i * 6 + k, none⟩) (cell_lt (hc i hi k u hu)) (hb hn)).trans (hc i hi k u hu)⟩
theorem Bds.quiet {w w' : World} {a : Option Addr} {n cap : Nat} {L : Nat → BandN} {b : Nat} (h : Bds w a n cap L b) (f : Fr (fun _ => False) w w') : Bds w' a n cap L b := h.fr f (fun _ h => h)
theorem Bds.nil (w : World) (L : Nat → BandN) (b : Nat) : Bds w none 0 0 L b := ⟨Nat.le_refl _, Nat.zero_le _, fun h => absurd h (by omega)⟩
theorem Bds.congr {w : World} {a : Option Addr} {n cap : Nat} {L L' : Nat → BandN} {b : Nat} (h : Bds w a n cap L b) (e : ∀ i, i < n → L i = L' i) : Bds w a n cap L' b := by
  refine ⟨h.le, h.most, fun hn => ?_⟩
  obtain ⟨e1, hc⟩ := h.at' hn
  exact ⟨e1, fun i hi k u hu => hc i hi k u (by rw [e i hi]; exact hu)⟩
theorem Bds.lt {w : World} {a : Option Addr} {n cap : Nat} {L : Nat → BandN} {b : Nat} (h : Bds w a n cap L b) (hn : 0 < n) : b < w.heap.size := by
  obtain ⟨_, hc⟩ := h.at' hn
  exact cell_lt (hc 0 hn 0 _ rfl)
/-- The six cells of band i. -/
theorem Bds.cells {w : World} {a : Option Addr} {n cap : Nat} {L : Nat → BandN} {b : Nat} (h : Bds w a n cap L b) {i : Nat} (hi : i < n) :
    w.cell? ⟨b, i * 6, none⟩ = some (.int .i64 ((L i).level : Int)) ∧ w.cell? ⟨b, i * 6 + 1, none⟩ = some (.int .i64 ((L i).orient : Int)) ∧ w.cell? ⟨b, i * 6 + 2, none⟩ = some (.int .i64 ((L i).x : Int)) ∧ w.cell? ⟨b, i * 6 + 3, none⟩ = some (.int .i64 ((L i).y : Int)) ∧ w.cell? ⟨b, i * 6 + 4, none⟩ = some (.int .i64 ((L i).w : Int)) ∧ w.cell? ⟨b, i * 6 + 5, none⟩ = some (.int .i64 ((L i).h : Int)) := by
  obtain ⟨_, hc⟩ := h.at' (by omega)
  exact ⟨hc i hi 0 _ rfl, hc i hi 1 _ rfl, hc i hi 2 _ rfl, hc i hi 3 _ rfl, hc i hi 4 _ rfl, hc i hi 5 _ rfl⟩
theorem Bds.addr {w : World} {a : Option Addr} {n cap : Nat} {L : Nat → BandN} {b : Nat} (h : Bds w a n cap L b) (hn : 0 < n) : a = some ⟨b, 0, none⟩ := (h.at' hn).1
theorem ownsRow_lower' {w : World} {base base' : Nat} {e : TypeId} {size : Nat} {v : Value} {n : Nat} {xs : List Value} (h : w.ownsRow base e size v n xs) (hb : base' ≤ base) : w.ownsRow base' e size v n xs := by
  refine ⟨h.1, ?_⟩
  rcases h.2 with h2 | ⟨g, cap, cur, e1, h3, r⟩
  · exact .inl h2
  · exact .inr ⟨g, cap, cur, e1, Nat.le_trans hb h3, r⟩
def noB : BandN := ⟨0, 0, 0, 0, 0, 0⟩
/-- A list that is one's own, read. -/
theorem Bds.of_owns {w : World} {base : Nat} {v : Value} {n : Nat} {l : List BandN} (h : w.ownsRow base 31 6 v n (bandRow l)) (hl : l.length = n) : ∃ a cap b, v = .slice a n cap ∧ Bds w a n cap (fun i => l.getD i noB) b ∧ (0 < n → base ≤ b) := by
  rcases h.2 with ⟨rfl, h0⟩ | ⟨g, cap, cur, rfl, hb, hg, hnc, hcm, hcs, ht⟩
  · subst h0
    exact ⟨none, 0, 0, rfl, Bds.nil _ _ _, fun h => absurd h (by omega)⟩
  · refine ⟨_, cap, g, rfl, ⟨hnc, hcm, fun hn => ⟨rfl, fun i hi k u hu => ?_⟩⟩, fun _ => hb⟩
    have hk : k < 6 := (List.getElem?_eq_some_iff.1 hu).1
    have hli : l[i]? = some (l.getD i noB) := by rw [List.getD_eq_getElem?_getD, List.getElem?_eq_getElem (by omega)]; rfl
    have hu' := bandRow_get l i k _ u hli hu
    have := h.cells (g := g) rfl _ u hu'
    have hadd : (⟨g, 0, none⟩ : Addr).add (i * 6 + k) = ⟨g, i * 6 + k, none⟩ := by unfold Addr.add; split <;> simp_all
    rwa [hadd] at this
theorem bandsR_getD (d w h i : Nat) (hi : i < 3 * d + 1) : (bandsR d w h).getD i noB = bandAt d w h i := by
  rw [List.getD_eq_getElem?_getD, bandsR_get d w h i hi]; rfl

/-- How many bands there are. -/
def bandsN (X Y D : Int) : Nat := if bandsOk X Y D then 3 * D.toNat + 1 else 0
def bandsL (X Y D : Int) : Nat → BandN := bandAt D.toNat X.toNat Y.toNat
theorem bandsN_ok {X Y D : Int} (h : bandsOk X Y D = true) : bandsN X Y D = 3 * D.toNat + 1 := if_pos h
theorem bandsN_no {X Y D : Int} (h : bandsOk X Y D = false) : bandsN X Y D = 0 := if_neg (by rw [h]; decide)
theorem bandsOk_deep {X Y D : Int} (h : bandsOk X Y D = true) : 0 ≤ D ∧ D ≤ 6 := by
  obtain ⟨x, y, k, _, _, rfl, _, _, hk, _⟩ := bandsOk_nat h
  omega
theorem bandsN_most (X Y D : Int) : bandsN X Y D ≤ 19 := by
  cases h : bandsOk X Y D with
  | false => rw [bandsN_no h]; omega
  | true => rw [bandsN_ok h]; have := bandsOk_deep h; omega
/-- What a call that makes a list of bands leaves. -/
def ListMade (w w' : World) (e : Ending) (n : Nat) (L : Nat → BandN) : Prop := ∃ a cap b, e = .returned (.slice a n cap) ∧ Bds w' a n cap L b ∧ (0 < n → w.heap.size ≤ b) ∧ Fr (fun _ => False) w w'

/-- The bounds of a band of a transform. -/
theorem bandAt_small {d w h i : Nat} (hw : FitsN d w) (hh : FitsN d h) (hd : d ≤ 6) (hi : i < 3 * d + 1) :
    (bandAt d w h i).level ≤ 6 ∧ (bandAt d w h i).orient ≤ 3 ∧ (bandAt d w h i).x + (bandAt d w h i).w ≤ w ∧ (bandAt d w h i).y + (bandAt d w h i).h ≤ h ∧ 1 ≤ (bandAt d w h i).w ∧ 1 ≤ (bandAt d w h i).h := by
  have hm : bandAt d w h i ∈ bandsR d w h := List.mem_of_getElem? (bandsR_get d w h i hi)
  have := bandsR_within hw hh hm
  have e1 : (bandAt d w h i).level ≤ 6 := by rw [bandAt_level]; split <;> omega
  have e2 : (bandAt d w h i).orient ≤ 3 := by rw [bandAt_orient]; split <;> omega
  exact ⟨e1, e2, this⟩
end Go.Proofs.Ytgmainbgliejhaa
