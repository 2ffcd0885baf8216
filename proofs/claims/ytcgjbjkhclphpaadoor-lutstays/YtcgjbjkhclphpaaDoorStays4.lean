/-
  Law package 4: chances stay within their bounds, factors rise, offsets are less (LutStays): the walk.
-/
import Derived.Test.YtcgjbjkhclphpaaDoorFirst4
import Derived.Test.YtcgjbjkhclphpaaDoorArgs
namespace Go.Proofs.YtcgjbjkhclphpaaDoor
open Go.RowKit

set_option maxHeartbeats 1000000 in
set_option maxRecDepth 20000 in
theorem stays_walk (a : Option Addr) (len cap : Nat) (zs : List Nat) (w : World) (hzl : zs.length = len) (hsm : ∀ z ∈ zs, z < 256) (hB : CellsIn w a len cap (fun i => .int .u8 ((zs.getD i 0 : Nat) : Int))) (hQ : Quarters w) :
    Calls Tryd.prog 5 #[.slice a len cap] w fun e w' => e = .returned (.bool true) ∧ Below w.heap.size w w' := by
  have hl63 : (len : Int) ≤ 9223372036854775807 := by have := hB.1; have := hB.2.1; unfold maxLen at *; omega
  have HB := hid hB
  have HZ := hid hzl
  have HQ := hid hQ
  clear hB hzl
  go_enter Tryd.func5, Tryd.ntmps5
  go_wp2_with fail
  refine (first_any _ hQ).mono ?_
  rintro e w0 ⟨rfl, F0⟩
  go_wp2_with fail
  go_loopw [3, 14] (fun c i wr => ∃ (j : Nat) (p : Int), j ≤ len ∧ j ≤ 3000 ∧ c = .int .i64 p ∧ i = .int .i64 (j : Int) ∧ 252 ≤ p ∧ p ≤ 65283 ∧ SameW wr w0) (fun _ i _ => len - (intOf i).toNat)
  case atStart => exact ⟨0, 32768, Nat.zero_le _, Nat.zero_le _, rfl, rfl, by omega, by omega, SameW.rfl⟩
  case round =>
    obtain ⟨j, p, hj, hj3, rfl, rfl, p0, p1, hw⟩ := hrel
    obtain rfl : w0 = wr := Eq.symm hw
    by_cases hlt : j < len
    · have hlt' : (j : Int) < (len : Int) := by omega
      by_cases h3 : j < 3000
      · have h3' : ¬ (3000 : Int) ≤ (j : Int) := by omega
        obtain ⟨b, off, rfl, hc⟩ := HB.out.at hlt
        have hcj := (F0.cell (p := ⟨b, off + j, none⟩) (cell_lt (hc j hlt)) (fun h => h)).trans (hc j hlt)
        have hz : zs.getD j 0 < 256 := by
          have hjz : j < zs.length := by rw [HZ.out]; exact hlt
          rw [List.getD, List.getElem?_eq_getElem hjz]; exact hsm _ (List.getElem_mem hjz)
        generalize zs.getD j 0 = z at hcj hz
        clear hc
        go_wp2_with fail
        go_loopw [3, 21] (fun c i wr => ∃ (k : Nat) (p : Int), k ≤ 8 ∧ c = .int .i64 p ∧ i = .int .i64 (k : Int) ∧ 252 ≤ p ∧ p ≤ 65283 ∧ SameW wr w0) (fun _ i _ => 8 - (intOf i).toNat)
        case atStart => exact ⟨0, p, Nat.zero_le _, rfl, rfl, p0, p1, SameW.rfl⟩
        case round =>
          obtain ⟨k, p, hk, rfl, rfl, p0, p1, hw⟩ := hrel
          obtain rfl : w0 = wr := Eq.symm hw
          by_cases hk8 : k < 8
          · have hk8' : (k : Int) < 8 := by omega
            cases hbit : (bits BinOp.and IntKind.u8 ((z : Int) / 2 ^ k) 1 == 1) with
            | true =>
              go_wp2_with fail
              refine (lmore_any _ _).mono ?_
              rintro e w1 ⟨rfl, rfl⟩
              obtain ⟨s0, s1, s2, s3⟩ := chances_stay p0 p1
              generalize moreC p = y at s2 s3
              have hd : decide (y < 252) = false := by simp; omega
              have hd' : ¬ 65283 < y := by omega
              go_wp2
              go_roundw
              case rel => exact ⟨k + 1, y, by omega, rfl, by go_num, s2, s3, SameW.rfl⟩
              case measure => simp [intOf]; omega
            | false =>
              go_wp2_with fail
              refine (lless_any _ _).mono ?_
              rintro e w1 ⟨rfl, rfl⟩
              obtain ⟨s0, s1, s2, s3⟩ := chances_stay p0 p1
              generalize lessC p = y at s0 s1
              have hd : decide (y < 252) = false := by simp; omega
              have hd' : ¬ 65283 < y := by omega
              go_wp2
              go_roundw
              case rel => exact ⟨k + 1, y, by omega, rfl, by go_num, s0, s1, SameW.rfl⟩
              case measure => simp [intOf]; omega
          · have hk8' : ¬ (k : Int) < 8 := by omega
            go_wp2
            go_roundw
            case rel => exact ⟨j + 1, p, by omega, by omega, rfl, by go_num, p0, p1, SameW.rfl⟩
            case measure => simp [intOf]; omega
      · have h3' : (3000 : Int) ≤ (j : Int) := by omega
        obtain ⟨b, off, rfl, hc⟩ := HB.out.at hlt
        have hcj := (F0.cell (p := ⟨b, off + j, none⟩) (cell_lt (hc j hlt)) (fun h => h)).trans (hc j hlt)
        generalize zs.getD j 0 = z at hcj
        clear hc
        have hQ0 := hid (HQ.out.fr F0)
        go_wp2_with fail
        refine (lfacs_any _ hQ0.out).mono ?_
        rintro e w3 ⟨g, rfl, hg, ⟨cs, hb, hcs, hc⟩, F3⟩
        have F4 := F0.trans' F3
        have hcell : Hid (∀ i : Nat, i < 61 → w3.cell? ⟨g, i, none⟩ = some (.int .i64 (fac (i : Int)))) := fun i hi => by rw [hb.cell, hc i hi]
        have hgw : g < w3.heap.size := hb.lt
        clear hb hcs hc F3 hQ0
        go_wp2_with fail
        go_loopw [7, 43] (fun c i wr => ∃ (n : Nat) (l : Int), n ≤ 61 ∧ c = .int .i64 l ∧ i = .int .i64 (n : Int) ∧ (l = 0 ∨ ∃ m : Nat, n = m + 1 ∧ l = fac (m : Int)) ∧ 0 ≤ l ∧ Fr (fun _ => False) w3 wr) (fun _ i _ => 61 - (intOf i).toNat)
        case atStart => exact ⟨0, 0, Nat.zero_le _, rfl, rfl, .inl rfl, by omega, Fr.refl _ _⟩
        case round =>
          obtain ⟨n, l, hn, rfl, rfl, hl, hl0, F5⟩ := hrel
          by_cases hn6 : n < 61
          · have hn6' : (n : Int) < 61 := by omega
            have hcn : wr.cell? ⟨g, n, none⟩ = some (.int .i64 (fac (n : Int))) := (F5.cell (p := ⟨g, n, none⟩) hgw (fun h => h)).trans (hcell.out n hn6)
            obtain ⟨f0, _, _, ft, ff⟩ := fac_all n (by omega)
            have hlf : ¬ fac (n : Int) ≤ l := by
              rcases hl with rfl | ⟨m, rfl, rfl⟩
              · omega
              · have := (fac_all m (by omega)).2.2.1 (by omega)
                rw [show (((m + 1 : Nat)) : Int) = (m : Int) + 1 by omega]
                omega
            have hd0 : decide (fac (n : Int) ≤ l) = false := by simpa using hlf
            have hd1 : decide (fac (n : Int) ≤ offs (n : Int) false) = false := by simp; omega
            have hd2 : decide (fac (n : Int) ≤ offs (n : Int) true) = false := by simp; omega
            have HF := hid f0
            have hQ5 := hid ((HQ.out.fr F4).fr F5)
            clear hl
            go_wp2_with fail
            refine (loffs_any _ _ _ hQ5.out).mono ?_
            rintro e w6 ⟨rfl, F6⟩
            go_wp2_with fail
            refine (loffs_any _ _ _ (hQ5.out.fr F6)).mono ?_
            rintro e w7 ⟨rfl, F7⟩
            go_wp2
            go_roundw
            case rel => exact ⟨n + 1, _, by omega, rfl, by go_num, .inr ⟨n, rfl, rfl⟩, by have := HF.out; omega, (F5.trans' F6).trans' F7⟩
            case measure => simp [intOf]; omega
          · have hn6' : ¬ (n : Int) < 61 := by omega
            go_wp2
            go_ret
            exact ⟨rfl, (F4.trans' F5).below (Nat.le_refl _) (fun _ _ h => h)⟩
    · have hlt' : ¬ (j : Int) < (len : Int) := by omega
      have hQ0 := hid (HQ.out.fr F0)
      go_wp2_with fail
      refine (lfacs_any _ hQ0.out).mono ?_
      rintro e w3 ⟨g, rfl, hg, ⟨cs, hb, hcs, hc⟩, F3⟩
      have F4 := F0.trans' F3
      have hcell : Hid (∀ i : Nat, i < 61 → w3.cell? ⟨g, i, none⟩ = some (.int .i64 (fac (i : Int)))) := fun i hi => by rw [hb.cell, hc i hi]
      have hgw : g < w3.heap.size := hb.lt
      clear hb hcs hc F3 hQ0
      go_wp2_with fail
      go_loopw [7, 43] (fun c i wr => ∃ (n : Nat) (l : Int), n ≤ 61 ∧ c = .int .i64 l ∧ i = .int .i64 (n : Int) ∧ (l = 0 ∨ ∃ m : Nat, n = m + 1 ∧ l = fac (m : Int)) ∧ 0 ≤ l ∧ Fr (fun _ => False) w3 wr) (fun _ i _ => 61 - (intOf i).toNat)
      case atStart => exact ⟨0, 0, Nat.zero_le _, rfl, rfl, .inl rfl, by omega, Fr.refl _ _⟩
      case round =>
        obtain ⟨n, l, hn, rfl, rfl, hl, hl0, F5⟩ := hrel
        by_cases hn6 : n < 61
        · have hn6' : (n : Int) < 61 := by omega
          have hcn : wr.cell? ⟨g, n, none⟩ = some (.int .i64 (fac (n : Int))) := (F5.cell (p := ⟨g, n, none⟩) hgw (fun h => h)).trans (hcell.out n hn6)
          obtain ⟨f0, _, _, ft, ff⟩ := fac_all n (by omega)
          have hlf : ¬ fac (n : Int) ≤ l := by
            rcases hl with rfl | ⟨m, rfl, rfl⟩
            · omega
            · have := (fac_all m (by omega)).2.2.1 (by omega)
              rw [show (((m + 1 : Nat)) : Int) = (m : Int) + 1 by omega]
              omega
          have hd0 : decide (fac (n : Int) ≤ l) = false := by simpa using hlf
          have hd1 : decide (fac (n : Int) ≤ offs (n : Int) false) = false := by simp; omega
          have hd2 : decide (fac (n : Int) ≤ offs (n : Int) true) = false := by simp; omega
          have HF := hid f0
          have hQ5 := hid ((HQ.out.fr F4).fr F5)
          clear hl
          go_wp2_with fail
          refine (loffs_any _ _ _ hQ5.out).mono ?_
          rintro e w6 ⟨rfl, F6⟩
          go_wp2_with fail
          refine (loffs_any _ _ _ (hQ5.out.fr F6)).mono ?_
          rintro e w7 ⟨rfl, F7⟩
          go_wp2
          go_roundw
          case rel => exact ⟨n + 1, _, by omega, rfl, by go_num, .inr ⟨n, rfl, rfl⟩, by have := HF.out; omega, (F5.trans' F6).trans' F7⟩
          case measure => simp [intOf]; omega
        · have hn6' : ¬ (n : Int) < 61 := by omega
          go_wp2
          go_ret
          exact ⟨rfl, (F4.trans' F5).below (Nat.le_refl _) (fun _ _ h => h)⟩
end Go.Proofs.YtcgjbjkhclphpaaDoor
