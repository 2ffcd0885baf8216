/-
  Package lut: quantisers: factors and offsets, out of the package's table.
-/
import Derived.Test.YtemfepnmihclkaaDoorLut
import Derived.Deep.WholeRow
namespace Go.Proofs.YtemfepnmihclkaaDoor
open Go.RowKit

/-- The package's table lies as its initialiser lays it. -/
def Quarters (w : World) : Prop := ∀ r : Nat, r < 4 → w.cell? ⟨0, r * 3, none⟩ = some (.int .i64 (qtimes (r : Int))) ∧ w.cell? ⟨0, r * 3 + 1, none⟩ = some (.int .i64 (qplus (r : Int))) ∧ w.cell? ⟨0, r * 3 + 2, none⟩ = some (.int .i64 (qby (r : Int)))

theorem Quarters.fr {w w' : World} (h : Quarters w) (f : Fr (fun _ => False) w w') : Quarters w' := by
  intro r hr
  obtain ⟨a, b, c⟩ := h r hr
  exact ⟨(f.cell (p := ⟨0, r * 3, none⟩) (cell_lt a) (fun h => h)).trans a, (f.cell (p := ⟨0, r * 3 + 1, none⟩) (cell_lt b) (fun h => h)).trans b, (f.cell (p := ⟨0, r * 3 + 2, none⟩) (cell_lt c) (fun h => h)).trans c⟩

theorem isQ_any (q : Int) (w : World) :
    Calls Tryd.prog 20 #[.int .i64 q] w fun e w' => e = .returned (.bool (isQ q)) ∧ w' = w := by
  have HC : Hid (isQ q = decide (0 ≤ q ∧ q ≤ 60)) := (Eq.refl (isQ q))
  by_cases h0 : 0 ≤ q
  · by_cases h1 : q ≤ 60
    · go_enter Tryd.func20, Tryd.ntmps20
      go_wp2
      go_ret
      exact ⟨ret_bool (by rw [HC.out]; simp; omega), rfl⟩
    · go_enter Tryd.func20, Tryd.ntmps20
      go_wp2
      go_ret
      exact ⟨ret_bool (by rw [HC.out]; simp; omega), rfl⟩
  · have h0' : decide (0 ≤ q) = false := by simp; omega
    go_enter Tryd.func20, Tryd.ntmps20
    go_wp2
    go_ret
    exact ⟨ret_bool (by rw [HC.out]; simp; omega), rfl⟩

theorem qby_ne (r : Int) : ¬ qby r = 0 := by unfold qby; repeat' split <;> omega

theorem fac_walk (n : Nat) (hn : n ≤ 60) : wrap64 ((wrap64 (wrap64 (qtimes ((n : Int) % 4) * 2 ^ (n / 4)) + qplus ((n : Int) % 4))).tdiv (qby ((n : Int) % 4))) = fac (n : Int) := by
  have : ∀ m : Fin 61, wrap64 ((wrap64 (wrap64 (qtimes ((m.val : Int) % 4) * 2 ^ (m.val / 4)) + qplus ((m.val : Int) % 4))).tdiv (qby ((m.val : Int) % 4))) = fac (m.val : Int) := by decide +kernel
  exact this ⟨n, by omega⟩

theorem lfac_any (q : Int) (w : World) (hQ : Quarters w) :
    Calls Tryd.prog 15 #[.int .i64 q] w fun e w' => e = .returned (.int .i64 (fac q)) ∧ Fr (fun _ => False) w w' := by
  cases hq : isQ q with
  | false =>
    have H : Hid (fac q = 0) := by show _ = _; simp [fac, hq]
    go_enter Tryd.func15, Tryd.ntmps15
    go_wp2_with fail
    refine (isQ_any _ _).mono ?_
    rintro e w1 ⟨rfl, rfl⟩
    rw [hq]
    go_wp2
    go_ret
    exact ⟨ret_int H.out.symm, Fr.refl _ _⟩
  | true =>
    obtain ⟨h0, h1⟩ := isQ_true hq
    obtain ⟨n, rfl⟩ := Int.eq_ofNat_of_zero_le h0
    have H := hid (fac_walk n (by omega))
    have hb := qby_ne ((n : Int) % 4)
    have hm : (n : Int).tmod 4 = ((n % 4 : Nat) : Int) := by rw [Int.tmod_eq_emod_of_nonneg (by omega)]; omega
    go_enter Tryd.func15, Tryd.ntmps15
    go_wp2_with fail
    refine (isQ_any _ _).mono ?_
    rintro e w1 ⟨rfl, rfl⟩
    rw [hq]
    obtain ⟨c0, c1, c2⟩ := hQ (n % 4) (by omega)
    go_wp2
    go_ret
    exact ⟨ret_int H.out, (Fr.refl _ _).alloc _⟩

theorem loffs_any (q : Int) (inter : Bool) (w : World) (hQ : Quarters w) :
    Calls Tryd.prog 18 #[.int .i64 q, .bool inter] w fun e w' => e = .returned (.int .i64 (offs q inter)) ∧ Fr (fun _ => False) w w' := by
  cases hq : isQ q with
  | false =>
    have H : Hid (offs q inter = 0) := by show _ = _; simp [offs, hq]
    go_enter Tryd.func18, Tryd.ntmps18
    go_wp2_with fail
    refine (isQ_any _ _).mono ?_
    rintro e w1 ⟨rfl, rfl⟩
    rw [hq]
    go_wp2
    go_ret
    exact ⟨ret_int H.out.symm, Fr.refl _ _⟩
  | true =>
    have hb := fac_bounds q
    by_cases q0 : q = 0
    · have H : Hid (offs q inter = 1) := by show _ = _; simp [offs, q0]; decide
      have q0' : (q == 0) = true := by simp [q0]
      have HQ0 := hid q0
      clear q0
      go_enter Tryd.func18, Tryd.ntmps18
      go_wp2_with fail
      refine (isQ_any _ _).mono ?_
      rintro e w1 ⟨rfl, rfl⟩
      rw [hq]
      go_wp2
      go_ret
      exact ⟨ret_int H.out.symm, Fr.refl _ _⟩
    · have q0' : (q == 0) = false := by simp [q0]
      cases inter with
      | true =>
        have H : Hid (offs q true = (3 * fac q + 4) / 8) := by show _ = _; simp [offs, q0, hq]
        go_enter Tryd.func18, Tryd.ntmps18
        go_wp2_with fail
        refine (isQ_any _ _).mono ?_
        rintro e w1 ⟨rfl, rfl⟩
        rw [hq]
        go_wp2_with fail
        refine (lfac_any _ _ hQ).mono ?_
        rintro e w2 ⟨rfl, F2⟩
        generalize fac q = x at hb H
        go_wp2
        go_ret
        exact ⟨ret_int H.out.symm, F2⟩
      | false =>
        by_cases q1 : q = 1
        · have H : Hid (offs q false = 2) := by show _ = _; simp [offs, q1]; decide
          have q1' : (q == 1) = true := by simp [q1]
          have HQ1 := hid q1
          clear q1 q0
          go_enter Tryd.func18, Tryd.ntmps18
          go_wp2_with fail
          refine (isQ_any _ _).mono ?_
          rintro e w1 ⟨rfl, rfl⟩
          rw [hq]
          go_wp2
          go_ret
          exact ⟨ret_int H.out.symm, Fr.refl _ _⟩
        · have q1' : (q == 1) = false := by simp [q1]
          have H : Hid (offs q false = (fac q + 1) / 2) := by show _ = _; simp [offs, q0, q1, hq]
          go_enter Tryd.func18, Tryd.ntmps18
          go_wp2_with fail
          refine (isQ_any _ _).mono ?_
          rintro e w1 ⟨rfl, rfl⟩
          rw [hq]
          go_wp2_with fail
          refine (lfac_any _ _ hQ).mono ?_
          rintro e w2 ⟨rfl, F2⟩
          generalize fac q = x at hb H
          go_wp2
          go_ret
          exact ⟨ret_int H.out.symm, F2⟩
/-- What Factors hands back. -/
def AllFacs (w : World) (g n : Nat) : Prop := ∀ i : Nat, i < n → w.cell? ⟨g, i, none⟩ = some (.int .i64 (fac (i : Int)))

def FacRow (w : World) (g j : Nat) : Prop := ∃ cs, Blk w g cs 3 ∧ cs.size = 61 ∧ ∀ i : Nat, i < j → cs[i]? = some (.int .i64 (fac (i : Int)))

end Go.Proofs.YtemfepnmihclkaaDoor
