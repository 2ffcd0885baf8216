/-
  Grids in memory: a plane's numbers as a grid, a part of a row filled by copy, lists appended.
-/
import Derived.Test.YtgmainbgliejhaaWaveA
import Derived.Test.YtgmainbgliejhaaRowC
import Derived.Test.YtgmainbgliejhaaLiftF
namespace Go.Proofs.Ytgmainbgliejhaa
open Go.RowKit

/-- The numbers of a grid that is W wide, one behind the other. -/
def flatG (W : Nat) (G : Grid) : Nat → Int := fun j => G (j / W) (j % W)
/-- The grid of numbers that lie one behind the other. -/
def gridV (W : Nat) (V : Nat → Int) : Grid := fun y x => V (y * W + x)
theorem flatG_at {W : Nat} {G : Grid} {y x : Nat} (hx : x < W) : flatG W G (y * W + x) = G y x := by
  unfold flatG; rw [flat_mod hx, flat_div hx]
theorem flatG_grid (W : Nat) (V : Nat → Int) (j : Nat) : flatG W (gridV W V) j = V j := by
  unfold flatG gridV; rw [flat_eq]
theorem gridV_flat {W : Nat} {G : Grid} {y x : Nat} (hx : x < W) : gridV W (flatG W G) y x = G y x := flatG_at hx
theorem flatG_congr {W H : Nat} {G G' : Grid} (e : EqG W H G G') {j : Nat} (hj : j < W * H) : flatG W G j = flatG W G' j := e _ _ (row_lt hj) (col_lt hj)
/-- A part of a row. -/
theorem band_iff {W y w j : Nat} (hw : w ≤ W) (hW : 0 < W) : (y * W ≤ j ∧ j < y * W + w) ↔ (j / W = y ∧ j % W < w) := by
  have h1 := flat_eq W j
  have h2 := Nat.mod_lt j hW
  generalize j / W = q at *
  generalize j % W = r at *
  constructor
  · rintro ⟨a, b⟩
    have hq : q = y := by
      rcases Nat.lt_trichotomy q y with h | h | h
      · have := Nat.mul_le_mul_right W (show q + 1 ≤ y from h)
        rw [Nat.add_mul, Nat.one_mul] at this
        omega
      · exact h
      · have := Nat.mul_le_mul_right W (show y + 1 ≤ q from h)
        rw [Nat.add_mul, Nat.one_mul] at this
        omega
    subst hq
    exact ⟨rfl, by omega⟩
  · rintro ⟨rfl, b⟩
    omega
theorem spot_iff {W y x j : Nat} (hx : x < W) : j = y * W + x ↔ (j / W = y ∧ j % W = x) := by
  constructor
  · rintro rfl; exact ⟨flat_div hx, flat_mod hx⟩
  · rintro ⟨h1, h2⟩
    have := flat_eq W j
    rw [h1, h2] at this
    exact this.symm

theorem layG_none (w : Nat) (A B : Grid) (y x : Nat) : layG w 0 A B y x = A y x := if_neg (by omega)
theorem layG_none' (h : Nat) (A B : Grid) (y x : Nat) : layG 0 h A B y x = A y x := if_neg (by omega)
/-- The rows ahead of k laid anew, and the first q places of row k. -/
def rowN (w k q : Nat) (A B : Grid) : Grid := fun y x => if y = k ∧ x < q then B y x else layG w k A B y x
theorem rowN_zero (w k : Nat) (A B : Grid) (y x : Nat) : rowN w k 0 A B y x = layG w k A B y x := if_neg (by omega)
theorem rowN_end (w k : Nat) (A B : Grid) (y x : Nat) : rowN w k w A B y x = layG w (k + 1) A B y x := by
  unfold rowN layG
  by_cases h1 : y = k ∧ x < w
  · rw [if_pos h1, if_pos (by omega)]
  · rw [if_neg h1]
    by_cases h2 : x < w ∧ y < k
    · rw [if_pos h2, if_pos (by omega)]
    · rw [if_neg h2, if_neg (by omega)]
theorem rowN_here {w k q : Nat} {A B : Grid} : rowN w k q A B k q = A k q := by
  unfold rowN; rw [if_neg (by omega), layG_out (by omega)]
theorem rowN_set {W w k q : Nat} {A B : Grid} (hq : q < W) (j : Nat) : (if j = k * W + q then B k q else flatG W (rowN w k q A B) j) = flatG W (rowN w k (q + 1) A B) j := by
  unfold flatG
  by_cases e : j = k * W + q
  · rw [if_pos e]
    obtain ⟨e1, e2⟩ := (spot_iff hq).1 e
    rw [e1, e2]
    exact (if_pos ⟨rfl, by omega⟩).symm
  · rw [if_neg e]
    have : ¬ (j / W = k ∧ j % W = q) := fun h => e ((spot_iff hq).2 h)
    unfold rowN
    by_cases h1 : j / W = k ∧ j % W < q
    · rw [if_pos h1, if_pos (by omega)]
    · rw [if_neg h1, if_neg (by omega)]
theorem rowN_band {W w k : Nat} {A B : Grid} (hw : w ≤ W) (hW : 0 < W) (j : Nat) : (if k * W ≤ j ∧ j < k * W + w then B k (j - k * W) else flatG W (layG w k A B) j) = flatG W (layG w (k + 1) A B) j := by
  unfold flatG
  rw [← rowN_end]
  by_cases h1 : k * W ≤ j ∧ j < k * W + w
  · obtain ⟨e1, e2⟩ := (band_iff hw hW).1 h1
    rw [if_pos h1]
    unfold rowN
    rw [if_pos ⟨e1, e2⟩, e1]
    congr 1
    have := flat_eq W j
    rw [e1] at this
    omega
  · rw [if_neg h1]
    unfold rowN
    rw [if_neg (fun h => h1 ((band_iff hw hW).2 h))]
/-- The columns ahead of k laid anew, and the first q places of column k. -/
def colN (h k q : Nat) (A B : Grid) : Grid := fun y x => if x = k ∧ y < q then B y x else layG k h A B y x
theorem colN_zero (h k : Nat) (A B : Grid) (y x : Nat) : colN h k 0 A B y x = layG k h A B y x := if_neg (by omega)
theorem colN_end (h k : Nat) (A B : Grid) (y x : Nat) : colN h k h A B y x = layG (k + 1) h A B y x := by
  unfold colN layG
  by_cases h1 : x = k ∧ y < h
  · rw [if_pos h1, if_pos (by omega)]
  · rw [if_neg h1]
    by_cases h2 : x < k ∧ y < h
    · rw [if_pos h2, if_pos (by omega)]
    · rw [if_neg h2, if_neg (by omega)]
theorem colN_set {W h k q : Nat} {A B : Grid} (hk : k < W) (j : Nat) : (if j = q * W + k then B q k else flatG W (colN h k q A B) j) = flatG W (colN h k (q + 1) A B) j := by
  unfold flatG
  by_cases e : j = q * W + k
  · rw [if_pos e]
    obtain ⟨e1, e2⟩ := (spot_iff hk).1 e
    rw [e1, e2]
    exact (if_pos ⟨rfl, by omega⟩).symm
  · rw [if_neg e]
    have : ¬ (j / W = q ∧ j % W = k) := fun h => e ((spot_iff hk).2 h)
    unfold colN
    by_cases h1 : j % W = k ∧ j / W < q
    · rw [if_pos h1, if_pos (by omega)]
    · rw [if_neg h1, if_neg (by omega)]
/-- Where a row of a plane ends. -/
theorem row_end {W H n k : Nat} (hW : W * H = n) (hk : k < H) : k * W + W ≤ n := by
  have := Nat.mul_le_mul_right W (show k + 1 ≤ H by omega)
  rw [Nat.add_mul, Nat.one_mul] at this
  rw [← hW, Nat.mul_comm W H]; exact this

/-- What copy leaves where it fills a part of a row. -/
theorem copy_into {w : World} {g n : Nat} {V : Nat → Int} (hr : Row w g n V) (o m cap : Nat) (ho : o + m ≤ n) {a : Option Addr} {cap' : Nat} {U : Nat → Int} {b : Nat} (hN : Nums w a m cap' U b) (hm : 0 < m) (t : TypeId) :
    ∃ w', (Builtin.copy_ #[36, 36] t #[.slice (some ⟨g, o, none⟩) m cap, .slice a m cap']).run Try.prog w = .ok (.int .i64 (m : Int)) w' ∧ Row w' g n (fun j => if o ≤ j ∧ j < o + m then U (j - o) else V j) ∧ Fr (fun k => k = g) w w' := by
  have hsz : (Try.prog.info? 3).map (·.size) = some 1 := by
    obtain ⟨i0, hi, _, hz1, _⟩ := info_parts Try.info_int
    rw [hi]; simp [hz1]
  obtain ⟨off, rfl, hc⟩ := hN.at' hm
  obtain ⟨cs, hb, hs, hcs⟩ := hr
  have hlt : ∀ j v, (mapV m U)[j]? = some v → w.cell? ((⟨b, off, none⟩ : Addr).add j) = some v := by
    intro j v hv
    have hj : j < m := by
      have := (List.getElem?_eq_some_iff.1 hv).1
      rwa [mapV_length] at this
    rw [addr_add, hc j hj, ← hv, mapV_get hj]
  have := run_copy_row (P := Try.prog) w 36 36 t 3 g o m cap ⟨b, off, none⟩ m cap' cs 3 (mapV m U) Try.underlying36 hsz hb (by rw [mapV_length]; exact (Nat.min_self m).symm) hlt (by rw [mapV_length]; omega) (mapV_one m U)
  rw [mapV_length] at this
  refine ⟨_, this, ⟨(cs.toList.take o ++ mapV m U ++ cs.toList.drop (o + m)).toArray, ?_, ?_, fun j hj => ?_⟩, (Fr.refl (fun k => k = g) w).setRow (fun _ => rfl) _⟩
  · exact setRow_heap w g cs _ 3 (0, 0) hb
  · simp [mapV_length]; omega
  · dsimp only
    rw [List.getElem?_toArray]
    by_cases h1 : j < o
    · rw [if_neg (by omega), List.append_assoc, List.getElem?_append_left (by simp; omega), List.getElem?_take, if_pos h1, Array.getElem?_toList, hcs j hj]
    · by_cases h2 : j < o + m
      · rw [if_pos ⟨by omega, h2⟩, List.append_assoc, List.getElem?_append_right (by simp; omega), List.getElem?_append_left (by simp [mapV_length]; omega), List.length_take, Array.length_toList, Nat.min_eq_left (by omega), mapV_get (by omega)]
      · rw [if_neg (by omega), List.getElem?_append_right (by simp [mapV_length]; omega), List.getElem?_drop, List.length_append, List.length_take, mapV_length, Array.length_toList, Nat.min_eq_left (by omega), Array.getElem?_toList, show o + m + (j - (o + m)) = j by omega, hcs j hj]

/-- One list behind another. -/
def catV (n : Nat) (U V : Nat → Int) : Nat → Int := fun j => if j < n then U j else V (j - n)
theorem mapV_cat (n m : Nat) (U V : Nat → Int) : mapV n U ++ mapV m V = mapV (n + m) (catV n U V) := by
  induction m with
  | zero =>
    unfold mapV
    rw [Nat.add_zero, List.range_zero, List.map_nil, List.append_nil]
    exact List.map_congr_left fun j hj => by unfold catV; rw [if_pos (List.mem_range.1 hj)]
  | succ m ih =>
    rw [mapV_succ, ← List.append_assoc, ih, ← Nat.add_assoc, mapV_succ]
    congr 3
    unfold catV
    rw [if_neg (by omega)]
    congr 1; omega
theorem mapV_congr {n : Nat} {U V : Nat → Int} (h : ∀ j, j < n → U j = V j) : mapV n U = mapV n V :=
  List.map_congr_left fun j hj => by rw [h j (List.mem_range.1 hj)]
theorem Row.owns {w : World} {g n : Nat} {V : Nat → Int} {base : Nat} (h : Row w g n V) (hb : base ≤ g) (hn : n ≤ maxLen) : w.ownsRow base 3 1 (.slice (some ⟨g, 0, none⟩) n n) n (mapV n V) := by
  obtain ⟨cs, hB, hs, hc⟩ := h
  refine ⟨by rw [mapV_length, Nat.mul_one], .inr ⟨g, n, cs, rfl, hb, hB, Nat.le_refl _, hn, by rw [hs, Nat.mul_one], ?_⟩⟩
  apply List.ext_getElem?
  intro j
  rw [List.getElem?_take]
  by_cases hj : j < n
  · rw [if_pos (by omega), Array.getElem?_toList, hc j hj, mapV_get hj]
  · rw [if_neg (by omega), List.getElem?_eq_none (by rw [mapV_length]; omega)]

/-- 'append(l, k...)' onto a list of one's own. -/
theorem wpList_catI {base : Nat} {w : World} {ops : Array Oper} {rest : List Oper} {o : Oper} {A : Act} {Q : Exit → Act → World → Prop} (hgd : o.guard = none) (s x : Operand) (ho : o.op = .call { callee := .builtin .append, args := #[s, x], argTypes := #[36, 36] })
    (v : Value) (n : Nat) (U : Nat → Int) (hs : A.eval s = v) (hown : w.ownsRow base 3 1 v n (mapV n U)) (a : Option Addr) (m cap : Nat) (V : Nat → Int) (b : Nat) (hx : A.eval x = .slice a m cap) (hN : Nums w a m cap V b) (hf : a = none → m = 0 ∧ cap = 0) (hbase : base ≤ w.heap.size) (hn : n + m ≤ 10000000)
    (h : ∀ v' w', w'.ownsRow base 3 1 v' (n + m) (mapV (n + m) (catV n U V)) → Fr (fun k => v.ownBlock = some k) w w' → wpList Try.prog ops Q rest (A.put o.dst v') w') : wpList Try.prog ops Q (o :: rest) A w := by
  obtain ⟨i0, hi, hz0, hz1, hz2⟩ := info_parts Try.info_int
  cases a with
  | none =>
    obtain ⟨rfl, rfl⟩ := hf rfl
    refine wpList_append_own_none hgd s x 36 ho base 3 i0 1 Try.underlying36 hi v n _ hs hown hx ?_
    refine h v w ?_ (Fr.refl _ _)
    have e : mapV n U = mapV (n + 0) (catV n U V) := mapV_congr fun j hj => by unfold catV; rw [if_pos hj]
    rw [← e]; exact hown
  | some q =>
    have hsrc : ∀ j u, (mapV m V)[j]? = some u → w.cell? (q.add j) = some u := by
      intro j u hu
      have hj : j < m := by
        have := (List.getElem?_eq_some_iff.1 hu).1
        rwa [mapV_length] at this
      obtain ⟨off, e, hc⟩ := hN.at' (by omega)
      obtain rfl : q = ⟨b, off, none⟩ := by simpa using e
      rw [addr_add, hc j hj, ← hu, mapV_get hj]
    refine wpList_append_own _ hgd s x 36 ho base 3 i0 (.int .i64 0) 1 8 Try.underlying36 hi hz0 hz1 hz2 rfl (by decide) v n _ hs hown q m cap (mapV m V) hx (by rw [mapV_length]; omega) hsrc (mapV_one m V) (by unfold maxLen; omega) (by omega) hbase (fun v' w' h2 h3 _ => ?_)
    rw [mapV_cat] at h2
    exact h v' w' h2 ((Fr.refl _ w).grown h3 (fun k hk _ => hk))
end Go.Proofs.Ytgmainbgliejhaa
