/-
  Package wave: a level of a part of a plane, there and back: the closures, halved, there, back.
-/
import Derived.Test.YtonalomagfekaaaWaveK
import Derived.Test.YtonalomagfekaaaWeaveP
import Derived.Test.YtonalomagfekaaaLiftW
namespace Go.Proofs.Ytonalomagfekaaa
open Go.RowKit

/-- A row of numbers in memory that a call has made. -/
def NewRow (w : World) (v : Value) (B n : Nat) (V : Nat → Int) : Prop := ∃ g, v = .slice (some ⟨g, 0, none⟩) n n ∧ Row w g n V ∧ B ≤ g
theorem NewRow.quiet {w w' : World} {v : Value} {B n : Nat} {V : Nat → Int} (h : NewRow w v B n V) (f : Fr (fun _ => False) w w') : NewRow w' v B n V := by
  obtain ⟨g, e, r, l⟩ := h
  exact ⟨g, e, r.quiet f, l⟩
def StayP.newRow (B n : Nat) (V : Nat → Int) : StayP := ⟨fun v w => NewRow w v B n V, fun h f => h.quiet f⟩

set_option maxHeartbeats 1000000 in
/-- A line there. -/
theorem wthere1_any (f p : Nat) (hf : f ≤ 4) (a : Option Addr) (n cap : Nat) (U : Nat → Int) (b : Nat) (w : World) (hp : w.cell? ⟨p, 0, none⟩ = some (.int .i64 (f : Int))) (hN : Nums w a n cap U b) (hl : lineB n = true) (hn : n ≤ 1024) (hI : ∀ j, j < n → I64 (U j)) :
    Calls Try.prog 41 #[.slice a n cap, .pointer (some ⟨p, 0, none⟩)] w fun e w' => MadeL w w' e n (fwdL f n U) := by
  have h2 : 2 ≤ n := by have := lineB_iff.1 hl; omega
  have he : n % 2 = 0 := (lineB_iff.1 hl).2
  go_enter Try.func41, Try.ntmps41
  go_wp2_with fail
  refine (lforward_go w a n cap U b hN hl (by omega) hI f hf).mono ?_
  rintro e w1 ⟨g1, rfl, r1, _, f1⟩
  have n1 := r1.nums (by unfold maxLen; omega)
  go_wp2_with fail
  refine (lpart_go w1 _ n n _ g1 n1 hl (by omega)).mono ?_
  rintro e w2 ⟨g2, g3, rfl, r2, r3, l2, l3, ne, f2⟩
  have F2 := f1.trans' f2
  have hs2 := f1.size
  have O2 := r2.owns (base := w.heap.size) (by omega) (by unfold maxLen; omega)
  have N3 := r3.nums (by unfold maxLen; omega)
  obtain ⟨m, hm⟩ : ∃ m, m = n / 2 := ⟨_, rfl⟩
  have HMM : Hid (m + m = n) := by show _ = _; omega
  have hm2 : m ≤ 1024 := by omega
  have HV : Hid (∀ j, catV m (fun j => forwardL f n U (2 * j)) (fun j => forwardL f n U (2 * j + 1)) j = fwdL f n U j) := by
    intro j
    unfold catV fwdL partedV
    rw [hm]
  rw [← hm] at O2 N3 ⊢
  have HO2 := hid O2
  have HN3 := hid N3
  have hsz := F2.size
  clear hm O2 N3 r1 r2 r3 n1 hI hN hp hl h2 he
  go_wp2_with (at_builtin; refine wpList_catI (base := w.heap.size) rfl _ _ rfl (.slice (some ⟨g2, 0, none⟩) m m) m _ rfl HO2.out _ m m _ g3 rfl HN3.out (by intro h; cases h) hsz (by omega) ?_)
  intro v' w3 ho3 f3
  rw [HMM.out] at ho3
  have F3 := F2.trans f3 (fun i hi e => by simp [Value.ownBlock] at e; omega)
  obtain ⟨a', cap', b', rfl, ol⟩ := OwnL.of_owns ho3
  have HL := hid ol
  clear ol ho3 HO2 HN3 f3 f1 f2
  go_wp2
  go_ret
  exact ⟨a', cap', b', rfl, HL.out.nums.congr fun j _ => HV.out j, HL.out.nil, fun h => ⟨(HL.out.row h).2.2, (HL.out.row h).2.1.intB⟩, F3⟩

theorem woven_weave {n m : Nat} (hm : n / 2 = m) (U : Nat → Int) : weaveV U (fun j => U (m + j)) = wovenV n U := by
  funext j
  unfold weaveV wovenV
  rw [hm]

set_option maxHeartbeats 1000000 in
/-- A line back. -/
theorem wback1_any (fi p : Nat) (hf : fi ≤ 4) (a : Option Addr) (n cap : Nat) (U : Nat → Int) (b : Nat) (w : World) (hp : w.cell? ⟨p, 0, none⟩ = some (.int .i64 (fi : Int))) (hN : Nums w a n cap U b) (hl : lineB n = true) (hn : n ≤ 1024) (hI : ∀ j, j < n → I64 (U j)) :
    Calls Try.prog 49 #[.slice a n cap, .pointer (some ⟨p, 0, none⟩)] w fun e w' => MadeL w w' e n (bwdL fi n U) := by
  have h2 : 2 ≤ n := by have := lineB_iff.1 hl; omega
  have he : n % 2 = 0 := (lineB_iff.1 hl).2
  obtain ⟨off, rfl, hc⟩ := hN.at' (by omega)
  obtain ⟨m, hm⟩ : ∃ m, m = n / 2 := ⟨_, rfl⟩
  have hnm : 2 * m = n := by omega
  have hm1 : 0 < m := by omega
  have hm2 : m ≤ n := by omega
  have hmc : m ≤ cap := by have := hN.le; omega
  have hmc2 : ¬ cap = m := by have := hN.le; omega
  have hmn : n - m = m := by omega
  have hq : (n : Int).tdiv 2 = (m : Int) := by rw [Int.tdiv_eq_ediv_of_nonneg (by omega)]; omega
  have hq2 : (n : Int) / 2 = (m : Int) := by omega
  have hnc := hN.le
  have hcm := hN.most
  have HK : Hid (∀ wq, Fr (fun _ => False) w.drew wq → wq.cell? ⟨p, 0, none⟩ = some (.int .i64 (fi : Int))) := fun wq f => (f.cell (p := ⟨p, 0, none⟩) (cell_lt hp) (fun h => h)).trans hp
  have HWv : Hid (∀ wq, Fr (fun _ => False) w.drew wq → Calls Try.prog 51 #[.slice (some ⟨b, off, none⟩) m cap, .slice (some ⟨b, off + m, none⟩) m (cap - m)] wq fun e w' => ∃ g, e = .returned (.slice (some ⟨g, 0, none⟩) n n) ∧ Row w' g n (wovenV n U) ∧ wq.heap.size ≤ g ∧ Fr (fun _ => False) wq w') := by
    intro wq fq
    have hNq := hN.quiet ((Fr.refl _ w).drew.trans' fq)
    obtain ⟨off', e, hcq⟩ := hNq.at' (by omega)
    obtain rfl : off = off' := by simpa using e
    have := lweave_go wq (some ⟨b, off, none⟩) m cap U b (some ⟨b, off + m, none⟩) (cap - m) (fun j => U (m + j)) b ⟨by omega, by omega, fun _ => ⟨off, rfl, fun j hj => hcq j (by omega)⟩⟩ ⟨by omega, by omega, fun _ => ⟨off + m, rfl, fun j hj => by rw [Nat.add_assoc]; exact hcq (m + j) (by omega)⟩⟩ hm1 (by omega)
    rw [hnm, woven_weave (n := n) hm.symm] at this
    exact this
  have HInv : Hid (∀ wq g, Row wq g n (wovenV n U) → Calls Try.prog 50 #[.int .i64 (fi : Int), .slice (some ⟨g, 0, none⟩) n n] wq fun e w' => ∃ g, e = .returned (.slice (some ⟨g, 0, none⟩) n n) ∧ Row w' g n (bwdL fi n U) ∧ wq.heap.size ≤ g ∧ Fr (fun _ => False) wq w') := by
    intro wq g r
    exact linverse_go wq _ n n _ g (r.nums (by unfold maxLen; omega)) hl (by omega) (fun j hj => wovenV_all he hI hj) fi hf
  clear hnm hm hp hN hI hl he hc
  go_enter Try.func49, Try.ntmps49
  go_wp2
  refine weaveS 9 [.eq (Value.int .i64 (fi : Int)), .eq (Value.slice (some ⟨b, off, none⟩) n cap), .eq (Value.int .i64 (m : Int)), .eq (Value.slice (some ⟨b, off, none⟩) m cap), .eq (Value.slice (some ⟨b, off, none⟩) n cap), .eq (Value.int .i64 (m : Int)), .eq (Value.slice (some ⟨b, off + m, none⟩) m (cap - m)), .row n (wovenV n U), .newRow w.heap.size n (bwdL fi n U)] (by kernel_rfl) (by kernel_rfl) ?obls ?tail
  case obls =>
    simp only [List.take_succ_cons, List.take_zero]
    refine ⟨?_, ?_, ?_, ?_, ?_, ?_, ?_, ?_, ?_, trivial⟩
    · intro vals wq f h
      simp only [fillA, fillT, List.setIfInBounds_toArray, List.set_cons_succ, List.set_cons_zero, Option.getD_some, Nat.zero_add, Nat.reduceAdd]
      have k0 := HK.out wq f
      clear h
      go_wp2
      exact ⟨rfl, rfl, _, rfl, Fr.refl _ _, rfl⟩
    · intro vals wq f h
      simp only [fillA, fillT, List.setIfInBounds_toArray, List.set_cons_succ, List.set_cons_zero, Option.getD_some, Nat.zero_add, Nat.reduceAdd]
      have k0 := HK.out wq f
      clear h
      go_wp2
      exact ⟨rfl, rfl, _, rfl, Fr.refl _ _, rfl⟩
    · intro vals wq f h
      simp only [fillA, fillT, List.setIfInBounds_toArray, List.set_cons_succ, List.set_cons_zero, Option.getD_some, Nat.zero_add, Nat.reduceAdd]
      have k0 := HK.out wq f
      clear h
      go_wp2
      exact ⟨rfl, rfl, _, rfl, Fr.refl _ _, rfl⟩
    · intro vals wq f h
      simp only [fillA, fillT, List.setIfInBounds_toArray, List.set_cons_succ, List.set_cons_zero, Option.getD_some, Nat.zero_add, Nat.reduceAdd]
      have h1 : vals 1 = Value.slice (some ⟨b, off, none⟩) n cap := h 1 (by kernel_rfl)
      rw [h1]
      have h2 : vals 2 = Value.int .i64 (m : Int) := h 2 (by kernel_rfl)
      rw [h2]
      have k0 := HK.out wq f
      clear h
      go_wp2
      exact ⟨rfl, rfl, _, rfl, Fr.refl _ _, rfl⟩
    · intro vals wq f h
      simp only [fillA, fillT, List.setIfInBounds_toArray, List.set_cons_succ, List.set_cons_zero, Option.getD_some, Nat.zero_add, Nat.reduceAdd]
      have k0 := HK.out wq f
      clear h
      go_wp2
      exact ⟨rfl, rfl, _, rfl, Fr.refl _ _, rfl⟩
    · intro vals wq f h
      simp only [fillA, fillT, List.setIfInBounds_toArray, List.set_cons_succ, List.set_cons_zero, Option.getD_some, Nat.zero_add, Nat.reduceAdd]
      have k0 := HK.out wq f
      clear h
      go_wp2
      exact ⟨rfl, rfl, _, rfl, Fr.refl _ _, rfl⟩
    · intro vals wq f h
      simp only [fillA, fillT, List.setIfInBounds_toArray, List.set_cons_succ, List.set_cons_zero, Option.getD_some, Nat.zero_add, Nat.reduceAdd]
      have h4 : vals 4 = Value.slice (some ⟨b, off, none⟩) n cap := h 4 (by kernel_rfl)
      rw [h4]
      have h5 : vals 5 = Value.int .i64 (m : Int) := h 5 (by kernel_rfl)
      rw [h5]
      have k0 := HK.out wq f
      clear h
      go_wp2
      exact ⟨rfl, rfl, _, rfl, Fr.refl _ _, rfl⟩
    · intro vals wq f h
      simp only [fillA, fillT, List.setIfInBounds_toArray, List.set_cons_succ, List.set_cons_zero, Option.getD_some, Nat.zero_add, Nat.reduceAdd]
      have h3 : vals 3 = Value.slice (some ⟨b, off, none⟩) m cap := h 3 (by kernel_rfl)
      rw [h3]
      have h6 : vals 6 = Value.slice (some ⟨b, off + m, none⟩) m (cap - m) := h 6 (by kernel_rfl)
      rw [h6]
      have k0 := HK.out wq f
      clear h
      go_wp2_with fail
      refine (HWv.out wq f).mono ?_
      rintro e w6 ⟨g, rfl, r6, _, f6⟩
      have HR6 := hid r6
      clear r6
      go_wp2
      exact ⟨rfl, rfl, _, rfl, f6, g, rfl, HR6.out⟩
    · intro vals wq f h
      simp only [fillA, fillT, List.setIfInBounds_toArray, List.set_cons_succ, List.set_cons_zero, Option.getD_some, Nat.zero_add, Nat.reduceAdd]
      have h0 : vals 0 = Value.int .i64 (fi : Int) := h 0 (by kernel_rfl)
      rw [h0]
      obtain ⟨g7, h7, r7⟩ : RowAt wq (vals 7) n (wovenV n U) := h 7 (by kernel_rfl)
      rw [h7]
      have k0 := HK.out wq f
      clear h
      have HB8 := hid (HInv.out wq g7 r7)
      have hsz := f.size
      clear r7
      go_wp2_with fail
      refine (HB8.out).mono ?_
      rintro e w6 ⟨g, rfl, r6, lg, f6⟩
      have HR6 := hid r6
      clear r6
      go_wp2
      exact ⟨rfl, rfl, _, rfl, f6, g, rfl, HR6.out, Nat.le_trans hsz lg⟩
  case tail =>
    intro vals wq f h
    simp only [List.take_succ_cons, List.take_zero, fillA, fillT, List.setIfInBounds_toArray, List.set_cons_succ, List.set_cons_zero, List.drop_succ_cons, List.drop_zero, Nat.zero_add, Nat.reduceAdd]
    obtain ⟨g8, h8, r8, l8⟩ : NewRow wq (vals 8) w.heap.size n (bwdL fi n U) := h 8 (by omega)
    rw [h8]
    have HR8 := hid r8
    clear h h8 r8
    gi_wp2
    go_wp2
    go_ret
    exact MadeL.row HR8.out (by unfold maxLen; omega) l8 ((Fr.refl _ w).drew.trans' f)

theorem wthere2_any (z : Int) (w : World) :
    Calls Try.prog 46 #[.int .i64 z] w fun e w' => e = .returned (.int .i64 (wrap64 (2 * z))) ∧ w' = w := by
  have HC : Hid (wrap64 (z * 2) = wrap64 (2 * z)) := by show _ = _; rw [Int.mul_comm]
  go_enter Try.func46, Try.ntmps46
  go_wp2
  go_ret
  exact ⟨ret_int HC.out, rfl⟩
theorem wback2_any (z : Int) (w : World) :
    Calls Try.prog 52 #[.int .i64 z] w fun e w' => e = .returned (.int .i64 (wrap64 (z + 1) / 2)) ∧ w' = w := by
  go_enter Try.func52, Try.ntmps52
  go_wp2
  go_ret
  exact ⟨rfl, rfl⟩
theorem fn_there1 (x : Array Value) (w : World) : Sem.run Try.prog (callFunc 41 x) w = .ok (.enter 41 x) w := by rfl
theorem fn_there2 (x : Array Value) (w : World) : Sem.run Try.prog (callFunc 46 x) w = .ok (.enter 46 x) w := by rfl
theorem fn_back1 (x : Array Value) (w : World) : Sem.run Try.prog (callFunc 49 x) w = .ok (.enter 49 x) w := by rfl
theorem fn_back2 (x : Array Value) (w : World) : Sem.run Try.prog (callFunc 52 x) w = .ok (.enter 52 x) w := by rfl
end Go.Proofs.Ytonalomagfekaaa
