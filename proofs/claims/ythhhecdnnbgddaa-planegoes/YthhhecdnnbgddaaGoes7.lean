/-
  Law 7, PlaneGoes: the closures that are told places and rows, and the iterators that tell them.
-/
import Derived.Test.YthhhecdnnbgddaaPlaneR
import Derived.Test.YthhhecdnnbgddaaPlaneT
namespace Go.Proofs.Ythhhecdnnbgddaa
open Go.RowKit

set_option maxHeartbeats 1000000 in
/-- The closure that is told places: place N of a plane x wide. -/
theorem goes1_go (x N : Nat) (Y : Int) (a : Option Addr) (m cap : Nat) (stop : Int) (bo bn bp bs : Nat) (w : World) (hx : 1 ≤ x) (hx' : x ≤ 1024) (hN : N < 1048576)
    (hBo : Blk w bo #[.bool true] 4) (hBn : Blk w bn #[.int .i64 (N : Int)] 3) (hBp : Blk w bp #[.int .i64 (x : Int), .int .i64 Y, .slice a m cap] 24) (hBs : Blk w bs #[.int .i64 stop] 3)
    (h1 : bo ≠ bn) (h2 : bo ≠ bp) (h3 : bo ≠ bs) (h4 : bn ≠ bp) (h5 : bn ≠ bs) :
    Calls Try.prog 18 #[.int .i64 ((N % x : Nat) : Int), .int .i64 ((N / x : Nat) : Int), .pointer (some ⟨bo, 0, none⟩), .pointer (some ⟨bn, 0, none⟩), .pointer (some ⟨bp, 0, none⟩), .pointer (some ⟨bs, 0, none⟩)] w fun e w' =>
      e = .returned (.bool (!decide (((N + 1 : Nat) : Int) = stop))) ∧ Blk w' bo #[.bool true] 4 ∧ Blk w' bn #[.int .i64 ((N + 1 : Nat) : Int)] 3 ∧ Fr (fun j => j = bo ∨ j = bn) w w' := by
  have c0 : w.cell? ⟨bo, 0, none⟩ = some (.bool true) := by rw [hBo.cell]; rfl
  have c1 : w.cell? ⟨bn, 0, none⟩ = some (.int .i64 (N : Int)) := by rw [hBn.cell]; rfl
  have c2 : w.cell? ⟨bp, 0, none⟩ = some (.int .i64 (x : Int)) := by rw [hBp.cell]; rfl
  have c3 : w.cell? ⟨bs, 0, none⟩ = some (.int .i64 stop) := by rw [hBs.cell]; rfl
  have t0 := hBo.thaw
  have t1 := hBn.thaw
  obtain ⟨c, hc⟩ : ∃ c, c = N % x := ⟨_, rfl⟩
  obtain ⟨r, hr⟩ : ∃ r, r = N / x := ⟨_, rfl⟩
  rw [← hc, ← hr]
  have e1 : (N : Int) % (x : Int) = (c : Int) := by rw [hc]; exact (Int.natCast_emod N x).symm
  have e2 : (N : Int) / (x : Int) = (r : Int) := by rw [hr]; exact (Int.natCast_ediv N x).symm
  have hrl : r < 1048576 := by rw [hr]; exact Nat.lt_of_le_of_lt (Nat.div_le_self _ _) hN
  have hcl : c < 1024 := by rw [hc]; exact Nat.lt_of_lt_of_le (Nat.mod_lt _ (by omega)) hx'
  have hne0 : (x : Int) ≠ 0 := by omega
  have HBo := hid hBo
  have HBn := hid hBn
  clear hc hr hBo hBn hBp hBs
  go_enter Try.func18, Try.ntmps18
  go_wp2
  go_ret
  refine ⟨?_, ?_, ?_, ?_⟩
  · exact ret_bool (by rw [Int.natCast_add]; rfl)
  · simpa using (HBo.out.set 0 (.bool true)).setOther (a := ⟨bn, 0, none⟩) h1 (.int .i64 ((N : Int) + 1))
  · simpa using (HBn.out.setOther (a := ⟨bo, 0, none⟩) (fun e => h1 e.symm) (.bool true)).set 0 (.int .i64 ((N : Int) + 1))
  · exact ((Fr.refl _ w).setCell (p := ⟨bo, 0, none⟩) (fun _ => .inl rfl) _).setCell (p := ⟨bn, 0, none⟩) (fun _ => .inr rfl) _

set_option maxRecDepth 100000 in
set_option maxHeartbeats 2000000 in
/-- Points, as the law asks it. -/
theorem gpoints_go (x y : Nat) (Y : Int) (a : Option Addr) (m cap : Nat) (stop : Int) (bh bw bo bn bp bs : Nat) (w : World) (hx : 1 ≤ x) (hx' : x ≤ 1024) (hy' : y ≤ 1024)
    (hBh : Blk w bh #[.int .i64 (y : Int)] 3) (hBw : Blk w bw #[.int .i64 (x : Int)] 3)
    (hBo : Blk w bo #[.bool true] 4) (hBn : Blk w bn #[.int .i64 0] 3) (hBp : Blk w bp #[.int .i64 (x : Int), .int .i64 Y, .slice a m cap] 24) (hBs : Blk w bs #[.int .i64 stop] 3)
    (h1 : bo ≠ bn) (h2 : bo ≠ bp) (h3 : bo ≠ bs) (h4 : bn ≠ bp) (h5 : bn ≠ bs) (h6 : bw ≠ bo) (h7 : bw ≠ bn) :
    Calls Try.prog 34 #[.func (.func 18) #[] #[.pointer (some ⟨bo, 0, none⟩), .pointer (some ⟨bn, 0, none⟩), .pointer (some ⟨bp, 0, none⟩), .pointer (some ⟨bs, 0, none⟩)], .pointer (some ⟨bh, 0, none⟩), .pointer (some ⟨bw, 0, none⟩)] w fun e w' =>
      e = .returned (.tuple #[]) ∧ (∃ N : Nat, (N = x * y ∨ ((N : Int) = stop ∧ N ≤ x * y)) ∧ Blk w' bn #[.int .i64 (N : Int)] 3) ∧ Blk w' bo #[.bool true] 4 ∧ Fr (fun j => j = bo ∨ j = bn) w w' := by
  have hc0 : w.cell? ⟨bh, 0, none⟩ = some (.int .i64 (y : Int)) := by rw [hBh.cell]; rfl
  have HK : Hid (∀ wr N, N < x * y → Fr (fun j => j = bo ∨ j = bn) w wr → Blk wr bo #[.bool true] 4 → Blk wr bn #[.int .i64 ((N : Nat) : Int)] 3 → Calls Try.prog 18 #[.int .i64 ((N % x : Nat) : Int), .int .i64 ((N / x : Nat) : Int), .pointer (some ⟨bo, 0, none⟩), .pointer (some ⟨bn, 0, none⟩), .pointer (some ⟨bp, 0, none⟩), .pointer (some ⟨bs, 0, none⟩)] wr fun e w' =>
      e = .returned (.bool (!decide (((N + 1 : Nat) : Int) = stop))) ∧ Blk w' bo #[.bool true] 4 ∧ Blk w' bn #[.int .i64 ((N + 1 : Nat) : Int)] 3 ∧ Fr (fun j => j = bo ∨ j = bn) w w') := by
    intro wr N hN f b1 b2
    have hm := mul_most hx' hy'
    exact (goes1_go x N Y a m cap stop bo bn bp bs wr hx hx' (by omega) b1 b2 (hBp.fr f (by omega)) (hBs.fr f (by omega)) h1 h2 h3 h4 h5).mono (fun e w' ⟨q1, q2, q3, q4⟩ => ⟨q1, q2, q3, f.trans' q4⟩)
  have HW : Hid (∀ wr, Fr (fun j => j = bo ∨ j = bn) w wr → wr.cell? ⟨bw, 0, none⟩ = some (.int .i64 (x : Int))) := fun wr f => by rw [(hBw.fr f (by omega)).cell]; rfl
  have HO := hid hBo
  have HN := hid hBn
  clear hBh hBw hBo hBn hBp hBs h1 h2 h3 h4 h5 h6 h7
  go_enter Try.func34, Try.ntmps34
  go_wp2
  go_step3
  go_wp2
  go_step3
  go_wp2
  go_loopw [7] (fun i wr => ∃ k : Nat, k ≤ y ∧ i = .int .i64 (k : Int) ∧ Blk wr bo #[.bool true] 4 ∧ Blk wr bn #[.int .i64 ((k * x : Nat) : Int)] 3 ∧ Fr (fun j => j = bo ∨ j = bn) w wr) (fun i _ => y - (intOf i).toNat)
  case atStart => exact ⟨0, Nat.zero_le _, rfl, HO.out, by rw [Nat.zero_mul]; exact HN.out, Fr.refl _ _⟩
  case round =>
    obtain ⟨k, hk, rfl, b1, b2, F⟩ := hrel
    have HB1 := hid b1
    have HB2 := hid b2
    have HF := hid F
    clear b1 b2 F
    by_cases hlt : k < y
    · have hki : (k : Int) < (y : Int) := by omega
      have e1 := HW.out wr HF.out
      obtain ⟨w0, hw0⟩ : ∃ w0, w0 = wr := ⟨_, rfl⟩
      go_wp2
      go_loopw [11] (fun i wr => ∃ q : Nat, q ≤ x ∧ i = .int .i64 (q : Int) ∧ Blk wr bo #[.bool true] 4 ∧ Blk wr bn #[.int .i64 ((k * x + q : Nat) : Int)] 3 ∧ Fr (fun j => j = bo ∨ j = bn) w wr) (fun i _ => x - (intOf i).toNat)
      case atStart => exact ⟨0, Nat.zero_le _, rfl, HB1.out, HB2.out, HF.out⟩
      case round =>
        obtain ⟨q, hq, rfl, b1, b2, F⟩ := hrel
        have HC1 := hid b1
        have HC2 := hid b2
        have HG := hid F
        clear b1 b2 F
        by_cases hql : q < x
        · have hqi : (q : Int) < (x : Int) := by omega
          have hf : k * x + q < x * y := flat_lt hql hlt
          have HCl := hid (HK.out wr (k * x + q) hf HG.out HC1.out HC2.out)
          rw [flat_mod hql, flat_div hql] at HCl
          have HF1 := hid hf
          clear hf
          by_cases hst : ((k * x + q + 1 : Nat) : Int) = stop
          · rw [decide_eq_true hst] at HCl
            have HST := hid hst
            clear hst
            go_wp2_with fail
            refine HCl.out.mono ?_
            rintro e w3 ⟨rfl, b1, b2, F⟩
            have HD1 := hid b1
            have HD2 := hid b2
            have HD := hid F
            clear b1 b2 F
            go_wp2
            rw [Exit.noGoto_normal]
            go_end0
            exact ⟨rfl, ⟨_, .inr ⟨HST.out, by have := HF1.out; omega⟩, HD2.out⟩, HD1.out, HD.out⟩
          · rw [decide_eq_false hst] at HCl
            clear hst
            go_wp2_with fail
            refine HCl.out.mono ?_
            rintro e w3 ⟨rfl, b1, b2, F⟩
            have HD1 := hid b1
            have HD2 := hid b2
            have HD := hid F
            clear b1 b2 F
            go_wp2
            go_roundw
            case rel => exact ⟨q + 1, by omega, by go_num, HD1.out, HD2.out, HD.out⟩
            case measure => simp [intOf]; omega
        · have hqi : ¬ (q : Int) < (x : Int) := by omega
          obtain rfl : q = x := by omega
          go_wp2
          go_roundw
          case rel => exact ⟨k + 1, by omega, by go_num, HC1.out, by rw [Nat.succ_mul]; exact HC2.out, HG.out⟩
          case measure => simp [intOf]; omega
    · have hki : ¬ (k : Int) < (y : Int) := by omega
      obtain rfl : k = y := by omega
      go_wp2
      go_end0
      exact ⟨rfl, ⟨_, .inl (Nat.mul_comm _ _), HB2.out⟩, HB1.out, HF.out⟩

set_option maxHeartbeats 1000000 in
/-- Points, of no rows. -/
theorem gpoints_none (f : Value) (bh bw : Nat) (w : World) (hBh : Blk w bh #[.int .i64 0] 3) :
    Calls Try.prog 34 #[f, .pointer (some ⟨bh, 0, none⟩), .pointer (some ⟨bw, 0, none⟩)] w fun e w' => e = .returned (.tuple #[]) ∧ w' = w := by
  have hc0 : w.cell? ⟨bh, 0, none⟩ = some (.int .i64 0) := by rw [hBh.cell]; rfl
  clear hBh
  go_enter Try.func34, Try.ntmps34
  go_wp2
  go_step3
  go_wp2
  go_step3
  go_wp2
  go_loopw [7] (fun i wr => i = .int .i64 0 ∧ SameW wr w) (fun _ _ => 0)
  case atStart => exact ⟨rfl, SameW.rfl⟩
  case round =>
    obtain ⟨rfl, hs⟩ := hrel
    go_wp2
    rw [Exit.noGoto_normal]
    go_end0
    exact ⟨rfl, hs⟩

set_option maxRecDepth 100000 in
set_option maxHeartbeats 2000000 in
/-- The closure that is told rows: row k of a plane. -/
theorem goes2_go (x y k : Nat) (a : Option Addr) (m cap : Nat) (V : Nat → Int) (b : Nat) (stop : Int) (r bo bk bp bs : Nat) (w : World) (hx' : x ≤ 1024) (hy' : y ≤ 1024) (hm : x * y = m) (hk : k < y)
    (hN : Nums w a m cap V b) (hRow : Row w r x (fun i => V (k * x + i)))
    (hBo : Blk w bo #[.bool true] 4) (hBk : Blk w bk #[.int .i64 (k : Int)] 3) (hBp : Blk w bp #[.int .i64 (x : Int), .int .i64 (y : Int), .slice a m cap] 24) (hBs : Blk w bs #[.int .i64 stop] 3)
    (h1 : bo ≠ bk) (h2 : bo ≠ bp) (h3 : bo ≠ bs) (h4 : bk ≠ bp) (h5 : bk ≠ bs) (h6 : r ≠ bo) (h7 : r ≠ bk) (h8 : r ≠ bp) (h9 : r ≠ bs) (h10 : 0 < m → b ≠ bo ∧ b ≠ r) :
    Calls Try.prog 20 #[.int .i64 (k : Int), .slice (some ⟨r, 0, none⟩) x x, .pointer (some ⟨bo, 0, none⟩), .pointer (some ⟨bk, 0, none⟩), .pointer (some ⟨bp, 0, none⟩), .pointer (some ⟨bs, 0, none⟩)] w fun e w' =>
      e = .returned (.bool (!decide (((k + 1 : Nat) : Int) = stop))) ∧ Blk w' bo #[.bool true] 4 ∧ Blk w' bk #[.int .i64 ((k + 1 : Nat) : Int)] 3 ∧ Fr (fun j => j = bo ∨ j = bk ∨ j = r) w w' := by
  have hmm := mul_most hx' hy'
  obtain ⟨s, hs⟩ : ∃ s : Nat, k * x = s := ⟨_, rfl⟩
  have hsI : (k : Int) * (x : Int) = (s : Int) := by rw [← hs, Int.natCast_mul]
  have hfl : ∀ q, q < x → s + q < m := fun q hq => by rw [← hs, ← hm]; exact flat_lt hq hk
  rw [hs] at hRow
  rw [hm] at hmm
  clear hs hm
  have c0 : w.cell? ⟨bo, 0, none⟩ = some (.bool true) := by rw [hBo.cell]; rfl
  have c1 : w.cell? ⟨bk, 0, none⟩ = some (.int .i64 (k : Int)) := by rw [hBk.cell]; rfl
  have c2 : w.cell? ⟨bp, 0, none⟩ = some (.int .i64 (x : Int)) := by rw [hBp.cell]; rfl
  have t0 := hBo.thaw
  have HC : Hid (∀ wr q, Fr (fun j => j = bo ∨ j = r) w wr → q < x → ∃ off, a = some ⟨b, off, none⟩ ∧ wr.cell? ⟨b, off + (s + q), none⟩ = some (.int .i64 (V (s + q))) ∧ s + q < m) := by
    intro wr q f hq
    have hq2 := hfl q hq
    obtain ⟨n1, n2⟩ := h10 (by omega)
    obtain ⟨off, e, hc⟩ := (hN.fr f (fun _ => by omega)).at' (by omega)
    exact ⟨off, e, hc _ hq2, hq2⟩
  have HD : Hid (∀ wr, Fr (fun j => j = bo ∨ j = r) w wr → wr.cell? ⟨bk, 0, none⟩ = some (.int .i64 (k : Int)) ∧ wr.cell? ⟨bp, 0, none⟩ = some (.int .i64 (x : Int)) ∧ wr.cell? ⟨bp, 2, none⟩ = some (.slice a m cap) ∧ wr.cell? ⟨bs, 0, none⟩ = some (.int .i64 stop)) := by
    intro wr f
    exact ⟨by rw [(hBk.fr f (by omega)).cell]; rfl, by rw [(hBp.fr f (by omega)).cell]; rfl, by rw [(hBp.fr f (by omega)).cell]; rfl, by rw [(hBs.fr f (by omega)).cell]; rfl⟩
  have HE : Hid (∀ wr, Fr (fun j => j = bo ∨ j = r) w wr → Blk wr bk #[.int .i64 (k : Int)] 3) := fun wr f => hBk.fr f (by omega)
  have HO := hid hBo
  have HR := hid hRow
  clear hBo hBk hBp hBs hN hRow h10 hfl
  go_enter Try.func20, Try.ntmps20
  go_wp2
  go_loopw [26] (fun i wr => ∃ q : Nat, q ≤ x ∧ i = .int .i64 (q : Int) ∧ Blk wr bo #[.bool true] 4 ∧ (∃ Z, Row wr r x Z ∧ ∀ j, q ≤ j → Z j = V (s + j)) ∧ Fr (fun j => j = bo ∨ j = r) w wr) (fun i _ => x - (intOf i).toNat)
  case atStart => exact ⟨0, Nat.zero_le _, rfl, by simpa using HO.out.set 0 (.bool true), ⟨_, HR.out.fr ((Fr.refl (fun j => j = bo) w).setCell (p := ⟨bo, 0, none⟩) (fun _ => rfl) _) h6, fun _ _ => rfl⟩, (Fr.refl _ w).setCell (p := ⟨bo, 0, none⟩) (fun _ => .inl rfl) _⟩
  case round =>
    obtain ⟨q, hq, rfl, b1, b2, F⟩ := hrel
    obtain ⟨d1, d2, d3, d4⟩ := HD.out wr F
    have e0 : wr.cell? ⟨bo, 0, none⟩ = some (.bool true) := by rw [b1.cell]; rfl
    have y0 := b1.thaw
    have HB1 := hid b1
    have HB2 := hid b2
    have HF := hid F
    by_cases hlt : q < x
    · have hki : (q : Int) < (x : Int) := by omega
      obtain ⟨off, rfl, e1, hsq⟩ := HC.out wr q F hlt
      obtain ⟨Z, hZ, hZq⟩ := b2
      have e2 := hZ.cell hlt
      rw [hZq q (Nat.le_refl _)] at e2
      have y1 := hZ.thaw q
      obtain ⟨v, hv⟩ : ∃ v, V (s + q) = v := ⟨_, rfl⟩
      rw [hv] at e1 e2
      have HZ := hid hZ
      have HZq := hid hZq
      clear hv hZ hZq b1 F HB2
      go_wp2
      go_roundw
      case rel => exact ⟨q + 1, by omega, by go_num, by simpa using (HB1.out.set 0 (.bool true)).setOther (a := ⟨r, q, none⟩) (fun e => h6 e.symm) (.int .i64 (wrap64 (v + 1))), ⟨_, (HZ.out.fr ((Fr.refl (fun j => j = bo) wr).setCell (p := ⟨bo, 0, none⟩) (fun _ => rfl) _) h6).set q (wrap64 (v + 1)), fun j hj => by show (if j = q then _ else _) = _; rw [if_neg (by omega)]; exact HZq.out j (by omega)⟩, (HF.out.setCell (p := ⟨bo, 0, none⟩) (fun _ => .inl rfl) _).setCell (p := ⟨r, q, none⟩) (fun _ => .inr rfl) _⟩
      case measure => simp [intOf]; omega
    · have hki : ¬ (q : Int) < (x : Int) := by omega
      clear b1 b2 F
      have HG := hid (HE.out wr HF.out)
      have y2 := (HE.out wr HF.out).thaw
      go_wp2
      go_ret
      refine ⟨ret_bool (by first | rfl | (rw [Int.natCast_add]; rfl)), HB1.out.setOther (a := ⟨bk, 0, none⟩) h1 _, by simpa using HG.out.set 0 (.int .i64 ((k : Int) + 1)), (HF.out.mono (S' := fun j => j = bo ∨ j = bk ∨ j = r) (fun _ _ h => by omega)).setCell (p := ⟨bk, 0, none⟩) (fun _ => .inr (.inl rfl)) _⟩
end Go.Proofs.Ythhhecdnnbgddaa
