/-
  The document's answer for layer 9: each row turned: forward, or back.
-/
import Derived.Test.YtonalomagfekaaaRef9C
import Derived.Test.YtonalomagfekaaaRef8F
import Derived.Test.YtonalomagfekaaaWeaveT
import Derived.OwnWalkIn
namespace Go.Proofs.Ytonalomagfekaaa
open Go.RowKit

/-- What a call that makes a plane leaves, with room behind it perhaps. -/
def MadeC (w w' : World) (e : Ending) (X Y : Int) (n : Nat) (V : Nat → Int) : Prop :=
  ∃ g cap, e = .returned (.agg #[.int .i64 X, .int .i64 Y, .slice (some ⟨g, 0, none⟩) n cap]) ∧ RowC w' g n V ∧ n ≤ cap ∧ cap ≤ maxLen ∧ w.heap.size ≤ g ∧ Fr (fun _ => False) w w'

/-- 'append(l, k...)' onto a list of one's own, inside a fence. -/
theorem wpListIn_catI {F : Fence} {N base : Nat} {w : World} {ops : Array Oper} {rest : List Oper} {o : Oper} {A : Act} {Q : Exit → Act → World → Prop} (hgd : o.guard = none) (s x : Operand) (ho : o.op = .call { callee := .builtin .append, args := #[s, x], argTypes := #[23, 23] })
    (v : Value) (n : Nat) (U : Nat → Int) (hs : A.eval s = v) (hown : w.ownsRow base 3 1 v n (mapV n U)) (g m cap : Nat) (V : Nat → Int) (hx : A.eval x = .slice (some ⟨g, 0, none⟩) m cap) (hN : Nums w (some ⟨g, 0, none⟩) m cap V g) (hbase : base ≤ w.heap.size) (hn : n + m ≤ 10000000)
    (h : ∀ v' w', w'.ownsRow base 3 1 v' (n + m) (mapV (n + m) (catV n U V)) → Fr (fun k => v.ownBlock = some k) w w' → wpListIn F N Try.prog ops Q rest (A.put o.dst v') w') : wpListIn F N Try.prog ops Q (o :: rest) A w := by
  obtain ⟨i0, hi, hz0, hz1, hz2⟩ := info_parts Try.info_int
  have hsrc : ∀ j u, (mapV m V)[j]? = some u → w.cell? ((⟨g, 0, none⟩ : Addr).add j) = some u := by
    intro j u hu
    have hj : j < m := by
      have := (List.getElem?_eq_some_iff.1 hu).1
      rwa [mapV_length] at this
    obtain ⟨off, e, hc⟩ := hN.at' (by omega)
    obtain rfl : 0 = off := by simpa using e
    rw [addr_add, hc j hj, ← hu, mapV_get hj]
  refine wpListIn_append_own _ hgd s x 23 ho base 3 i0 (.int .i64 0) 1 8 Try.underlying23 hi hz0 hz1 hz2 rfl (by decide) v n _ hs hown ⟨g, 0, none⟩ m cap (mapV m V) hx (by rw [mapV_length]; omega) hsrc (mapV_one m V) (by unfold maxLen; omega) (by omega) hbase (fun v' w' h2 h3 _ => ?_)
  rw [mapV_cat] at h2
  exact h v' w' h2 ((Fr.refl _ w).grown h3 (fun k hk _ => hk))

/-- A row behind the rows ahead of it. -/
theorem row_cat {x k : Nat} {R : Grid} {U : Nat → Int} (hU : ∀ j, j < x → U j = R k j) {j : Nat} (hj : j < k * x + x) : catV (k * x) (flatG x R) U j = flatG x R j := by
  unfold catV
  by_cases h1 : j < k * x
  · rw [if_pos h1]
  · rw [if_neg h1, hU _ (by omega)]
    have hx : j - k * x < x := by omega
    have := flatG_at (G := R) (y := k) hx
    rw [← this]
    congr 1; omega
/-- A row of two halves behind the rows ahead of it. -/
theorem row_cat2 {x h2 k : Nat} {R : Grid} {X : Nat → Int} (hx : 2 * h2 = x) (hR : ∀ j, j < x → partedV x X j = R k j) {j : Nat} (hj : j < k * x + x) :
    catV (k * x + h2) (catV (k * x) (flatG x R) fun j => X (2 * j + 0)) (fun j => X (2 * j + 1)) j = flatG x R j := by
  rw [← row_cat (U := partedV x X) hR hj]
  have e2 : x / 2 = h2 := by omega
  unfold catV partedV
  rw [e2]
  by_cases h1 : j < k * x
  · rw [if_pos (by omega), if_pos h1, if_pos h1]
  · by_cases h3 : j < k * x + h2
    · rw [if_pos h3, if_neg h1, if_neg h1, if_pos (by omega)]; rfl
    · rw [if_neg h3, if_neg h1, if_neg (by omega)]
      congr 1; omega
theorem woven_cat {x h2 q : Nat} {U V2 : Nat → Int} (hx : x / 2 = h2) (h0 : V2 0 = U q) (h1 : V2 1 = U (h2 + q)) {j : Nat} (hj : j < 2 * q + 2) : catV (2 * q) (wovenV x U) V2 j = wovenV x U j := by
  unfold catV
  by_cases h : j < 2 * q
  · rw [if_pos h]
  · rw [if_neg h]
    unfold wovenV
    rw [hx]
    by_cases e : j = 2 * q
    · rw [e, Nat.sub_self, h0, if_pos (by omega)]; congr 1; omega
    · have e : j = 2 * q + 1 := by omega
      rw [e, show 2 * q + 1 - 2 * q = 1 by omega, h1, if_neg (by omega)]
      congr 1; omega

set_option maxHeartbeats 2000000 in
theorem rrowsF_go (f : Nat) (hf : f ≤ 4) (x y : Nat) (a : Option Addr) (m cap : Nat) (V : Nat → Int) (b : Nat) (w : World) (ex : Even2 x) (hx' : x ≤ 1024) (hy : 1 ≤ y) (hy' : y ≤ 1024) (hm : x * y = m) (h : Nums w a m cap V b) :
    Calls Try.prog 37 #[.int .i64 (f : Int), .agg #[.int .i64 (x : Int), .int .i64 (y : Int), .slice a m cap], .bool false] w fun e w' => MadeC w w' e x y m (flatG x (rowsF f x (gridV x V))) := by
  have hx1 : 2 ≤ x := ex.1
  have hlx : lineB x = true := ex.line
  have hff : filtB (f : Int) = true := filtB_iff.2 (by omega)
  have hln : liftN (f : Int) x = x := liftN_in hff hlx
  have hmm : m ≤ 1048576 := by rw [← hm]; exact mul_most hx' hy'
  have hpos : 0 < m := by rw [← hm]; exact Nat.mul_pos (by omega) (by omega)
  obtain ⟨h2, hh2⟩ : ∃ h2, h2 = x / 2 := ⟨_, rfl⟩
  have HX2 : Hid (2 * h2 = x) := by have := ex.2; show _ = _; omega
  have HH2 : Hid (x / 2 = h2) := hh2.symm
  have hq2 : (x : Int) / 2 = (h2 : Int) := by omega
  have hq2' : (x : Int).tdiv 2 = (h2 : Int) := by rw [Int.tdiv_eq_ediv_of_nonneg (by omega)]; omega
  have hh2m : h2 ≤ 512 := by omega
  have hh21 : 1 ≤ h2 := by omega
  have hh2x : h2 + h2 ≤ x := by omega
  have hcap := h.le
  have hcm := h.most
  obtain ⟨off, rfl, hc⟩ := h.at' hpos
  have hbl := h.lt hpos
  have HN := hid h
  obtain ⟨R, hR⟩ : ∃ R, R = rowsF f x (gridV x V) := ⟨_, rfl⟩
  rw [← hR]
  have HRR := hid hR
  have HM := hid hm
  obtain ⟨W, hW⟩ : ∃ W, W = (w.alloc (.cells #[.int .i64 (x : Int), .int .i64 (y : Int), .slice (some ⟨b, off, none⟩) m cap] 25)).alloc (.cells #[.int .i64 0, .int .i64 0, .slice none 0 0] 25) := ⟨_, rfl⟩
  have F0 : Fr (fun _ => False) w W := by rw [hW]; exact ((Fr.refl _ w).alloc _).alloc _
  have O0 : Blk W w.heap.size #[.int .i64 (x : Int), .int .i64 (y : Int), .slice (some ⟨b, off, none⟩) m cap] 25 := by rw [hW]; exact (Blk.new _ _ _).alloc _
  have O1 : Blk W (w.heap.size + 1) #[.int .i64 0, .int .i64 0, .slice none 0 0] 25 := by
    rw [hW]
    have := Blk.new (w.alloc (.cells #[.int .i64 (x : Int), .int .i64 (y : Int), .slice (some ⟨b, off, none⟩) m cap] 25)) #[.int .i64 0, .int .i64 0, .slice none 0 0] 25
    simpa using this
  have hs0 := O1.lt
  have HC : Hid (∀ wr, Fr (fun _ => False) W wr → (wr.cell? ⟨w.heap.size, 0, none⟩ = some (.int .i64 (x : Int)) ∧ wr.cell? ⟨w.heap.size, 1, none⟩ = some (.int .i64 (y : Int)) ∧ wr.cell? ⟨w.heap.size, 2, none⟩ = some (.slice (some ⟨b, off, none⟩) m cap)) ∧ Blk wr (w.heap.size + 1) #[.int .i64 0, .int .i64 0, .slice none 0 0] 25) := by
    intro wr f
    have B0 := O0.fr f (fun h => h)
    exact ⟨⟨by rw [B0.cell]; rfl, by rw [B0.cell]; rfl, by rw [B0.cell]; rfl⟩, O1.fr f (fun h => h)⟩
  have HW := hid hW
  have HLine : Hid (∀ wr k, Fr (fun _ => False) W wr → k < y → Nums wr (some ⟨b, off + k * x, none⟩) x (cap - k * x) (gridV x V k) b) := by
    intro wr k f hk
    have hend := row_end hm hk
    have hN2 := HN.out.quiet (F0.trans' f)
    refine ⟨by omega, by omega, fun _ => ⟨off + k * x, rfl, fun j hj => ?_⟩⟩
    obtain ⟨off', e, hcc⟩ := hN2.at' hpos
    obtain rfl : off = off' := by simpa using e
    rw [Nat.add_assoc]
    exact hcc (k * x + j) (by omega)
  clear hW h hh2 hc hR O0 O1 hm HN
  go_enter Try.func37, Try.ntmps37
  go_wp2
  rw [← HW.out]
  go_loopw [7, 8] (fun v i wr => ∃ k : Nat, k ≤ y ∧ i = .int .i64 (k : Int) ∧ wr.ownsRow W.heap.size 3 1 v (k * x) (mapV (k * x) (flatG x R)) ∧ Fr (fun _ => False) W wr) (fun _ i _ => y - (intOf i).toNat)
  case atStart => exact ⟨0, Nat.zero_le _, rfl, by rw [Nat.zero_mul]; exact World.ownsRow_nil _ _ _ _, Fr.refl _ _⟩
  case round =>
    obtain ⟨k, hk, rfl, ho, F⟩ := hrel
    obtain ⟨⟨c0, c1, c2⟩, BZ⟩ := HC.out wr F
    by_cases hlt : k < y
    · have hki : (k : Int) < (y : Int) := by omega
      have hend := row_end HM.out hlt
      have NL := HLine.out wr k F hlt
      have HEnd : Hid (k * x + x = (k + 1) * x) := by show _ = _; rw [Nat.add_mul, Nat.one_mul]
      have HRow : Hid (∀ j, j < x → partedV x (forwardL f x (gridV x V k)) j = R k j) := fun j _ => by rw [HRR.out]; rfl
      have HEv : Hid (∀ (c : Nat) wq a1 cap1 b1 U, c ≤ 1 → Nums wq a1 x cap1 U b1 → Calls Try.prog 57 #[.slice a1 x cap1, .int .i64 (c : Int)] wq fun e w' => MadeL wq w' e h2 (fun j => U (2 * j + c))) := by
        intro c wq a1 cap1 b1 U hc h1
        rw [← HX2.out] at h1 ⊢
        exact r8every_any wq a1 h2 cap1 U b1 h1 (by omega) c hc
      have HFw := hid (r8forward_any wr (some ⟨b, off + k * x, none⟩) x (cap - k * x) (gridV x V k) b NL (by omega) (f : Int))
      rw [hln, Int.toNat_natCast] at HFw
      have HO := hid ho
      have hol := ho.lt
      have hne : ¬ cap = k * x := by omega
      have HCat : Hid (∀ j, j < k * x + x → catV (k * x + h2) (catV (k * x) (flatG x R) fun j => forwardL f x (gridV x V k) (2 * j + 0)) (fun j => forwardL f x (gridV x V k) (2 * j + 1)) j = flatG x R j) := fun j hj => row_cat2 HX2.out HRow.out hj
      obtain ⟨s, hs⟩ : ∃ s, s = k * x := ⟨_, rfl⟩
      have hsI : (k : Int) * (x : Int) = (s : Int) := by rw [hs, Int.natCast_mul]
      rw [← hs] at hend NL HEnd HFw HO hne HCat ho
      obtain ⟨q, hq⟩ : ∃ q, q = s + x := ⟨_, rfl⟩
      have hqI : (s : Int) + (x : Int) = (q : Int) := by omega
      have hqs : q - s = x := by omega
      have hq1 : s ≤ q := by omega
      have hq2 : q ≤ m := by omega
      have HFF := hid F
      clear hs hq NL BZ ho
      go_wp2_with fail
      refine (HFw.out).mono ?_
      rintro e w1 ⟨a1, cap1, b1, rfl, N1, _, hb1, f1⟩
      have hb1' := (hb1 (by omega)).1
      have F1 := F.trans' f1
      go_wp2_with fail
      refine (HEv.out 0 w1 a1 cap1 b1 _ (by omega) N1).mono ?_
      rintro e w2 ⟨a2, cap2, b2, rfl, N2, n2, _, f2⟩
      have F2 := F1.trans' f2
      have O2 := ownsRow_fr (ownsRow_fr HO.out f1 (fun _ _ h => h)) f2 (fun _ _ h => h)
      have hsz2 := F2.size
      clear c0 c1 c2
      go_wp2_with (at_builtin; refine wpList_catI (base := W.heap.size) rfl _ _ rfl u7 s _ rfl O2 a2 h2 cap2 _ b2 rfl N2 n2 hsz2 (by omega) ?_)
      intro v3 w3 O3 f3
      have N3 := (N1.quiet f2).fr f3 (fun _ e => by have := (hol _ e).2; omega)
      have F3 := F2.trans f3 (fun i hi e => by have := (hol _ e).1; omega)
      have hol3 := O3.lt
      clear N2 n2 O2 f2 f3 HO hol
      go_wp2_with fail
      refine (HEv.out 1 w3 a1 cap1 b1 _ (by omega) N3).mono ?_
      rintro e w4 ⟨a4, cap4, b4, rfl, N4, n4, _, f4⟩
      have F4 := F3.trans' f4
      have O4 := ownsRow_fr O3 f4 (fun _ _ h => h)
      have hsz4 := F4.size
      go_wp2_with (at_builtin; refine wpList_catI (base := W.heap.size) rfl _ _ rfl v3 (s + h2) _ rfl O4 a4 h2 cap4 _ b4 rfl N4 n4 hsz4 (by omega) ?_)
      intro v5 w5 O5 f5
      have F5 := F4.trans f5 (fun i hi e => by have := (hol3 _ e).1; omega)
      have e5 : s + h2 + h2 = s + x := by have := HX2.out; omega
      have em := mapV_congr (n := s + x) HCat.out
      rw [e5] at O5
      have O5 : w5.ownsRow W.heap.size 3 1 v5 (s + x) (mapV (s + x) (flatG x R)) := by rw [← em]; exact O5
      rw [HEnd.out] at O5
      have HO5 := hid O5
      clear N1 N3 N4 n4 O3 O4 O5 f1 f4 f5 e5 em hol3 F1 F2 F3 F4 hsz2 hsz4
      go_wp2
      go_roundw
      case rel => exact ⟨k + 1, by omega, by go_num, HO5.out, F5⟩
      case measure => simp [intOf]; omega
    · have hki : ¬ (k : Int) < (y : Int) := by omega
      have hke : k * x = m := by
        have : k = y := by omega
        rw [this, Nat.mul_comm]; exact HM.out
      rw [hke] at ho
      obtain ⟨a', cap', b', rfl, ol⟩ := OwnL.of_owns ho
      have HL := hid ol
      have z0 : wr.cell? ⟨w.heap.size + 1, 0, none⟩ = some (.int .i64 0) := by rw [BZ.cell]; rfl
      have z1 : wr.cell? ⟨w.heap.size + 1, 1, none⟩ = some (.int .i64 0) := by rw [BZ.cell]; rfl
      have z2 : wr.cell? ⟨w.heap.size + 1, 2, none⟩ = some (.slice none 0 0) := by rw [BZ.cell]; rfl
      have zf := BZ.thaw
      have HBZ := hid BZ
      have HFE := hid (F0.trans' F)
      have hb' : w.heap.size + 1 < b' := by have := (ol.row hpos).2.2; omega
      obtain ⟨rfl, hrc, _⟩ := ol.row hpos
      have hcl := ol.nums.le
      have hcm2 := ol.nums.most
      have HRC := hid hrc
      clear BZ F ho ol hke hrc HL
      go_wp2
      refine bodyPost_ret (v := .agg #[.int .i64 (x : Int), .int .i64 (y : Int), .slice (some ⟨b', 0, none⟩) m cap']) ?_ rfl ⟨b', cap', rfl, HRC.out.fr (fr_put3 _ _ _ _ _) (by omega), hcl, hcm2, by omega, HFE.out.put3New (by omega) _ _ _⟩
      exact results_cell_row rfl _ _ (w.heap.size + 1) 25 _ (0, 0) _ rfl (show Blk _ _ _ _ from HBZ.out.put3 _ _ _) Try.underlying25 rfl Try.info_plane

set_option maxHeartbeats 2000000 in
theorem rrowsB_go (f : Nat) (hf : f ≤ 4) (x y : Nat) (a : Option Addr) (m cap : Nat) (V : Nat → Int) (b : Nat) (w : World) (ex : Even2 x) (hx' : x ≤ 1024) (hy : 1 ≤ y) (hy' : y ≤ 1024) (hm : x * y = m) (h : Nums w a m cap V b) :
    Calls Try.prog 37 #[.int .i64 (f : Int), .agg #[.int .i64 (x : Int), .int .i64 (y : Int), .slice a m cap], .bool true] w fun e w' => MadeC w w' e x y m (flatG x (rowsB f x (gridV x V))) := by
  have hx1 : 2 ≤ x := ex.1
  have hlx : lineB x = true := ex.line
  have hff : filtB (f : Int) = true := filtB_iff.2 (by omega)
  have hln : liftN (f : Int) x = x := liftN_in hff hlx
  have hmm : m ≤ 1048576 := by rw [← hm]; exact mul_most hx' hy'
  have hpos : 0 < m := by rw [← hm]; exact Nat.mul_pos (by omega) (by omega)
  obtain ⟨h2, hh2⟩ : ∃ h2, h2 = x / 2 := ⟨_, rfl⟩
  have HX2 : Hid (2 * h2 = x) := by have := ex.2; show _ = _; omega
  have HH2 : Hid (x / 2 = h2) := hh2.symm
  have hq2 : (x : Int) / 2 = (h2 : Int) := by omega
  have hq2' : (x : Int).tdiv 2 = (h2 : Int) := by rw [Int.tdiv_eq_ediv_of_nonneg (by omega)]; omega
  have hh2m : h2 ≤ 512 := by omega
  have hh21 : 1 ≤ h2 := by omega
  have hh2x : h2 + h2 ≤ x := by omega
  have hcap := h.le
  have hcm := h.most
  obtain ⟨off, rfl, hc⟩ := h.at' hpos
  have hbl := h.lt hpos
  have HN := hid h
  obtain ⟨R, hR⟩ : ∃ R, R = rowsB f x (gridV x V) := ⟨_, rfl⟩
  rw [← hR]
  have HRR := hid hR
  have HM := hid hm
  obtain ⟨W, hW⟩ : ∃ W, W = (w.alloc (.cells #[.int .i64 (x : Int), .int .i64 (y : Int), .slice (some ⟨b, off, none⟩) m cap] 25)).alloc (.cells #[.int .i64 0, .int .i64 0, .slice none 0 0] 25) := ⟨_, rfl⟩
  have F0 : Fr (fun _ => False) w W := by rw [hW]; exact ((Fr.refl _ w).alloc _).alloc _
  have O0 : Blk W w.heap.size #[.int .i64 (x : Int), .int .i64 (y : Int), .slice (some ⟨b, off, none⟩) m cap] 25 := by rw [hW]; exact (Blk.new _ _ _).alloc _
  have O1 : Blk W (w.heap.size + 1) #[.int .i64 0, .int .i64 0, .slice none 0 0] 25 := by
    rw [hW]
    have := Blk.new (w.alloc (.cells #[.int .i64 (x : Int), .int .i64 (y : Int), .slice (some ⟨b, off, none⟩) m cap] 25)) #[.int .i64 0, .int .i64 0, .slice none 0 0] 25
    simpa using this
  have hs0 := O1.lt
  have HC : Hid (∀ wr, Fr (fun _ => False) W wr → (wr.cell? ⟨w.heap.size, 0, none⟩ = some (.int .i64 (x : Int)) ∧ wr.cell? ⟨w.heap.size, 1, none⟩ = some (.int .i64 (y : Int)) ∧ wr.cell? ⟨w.heap.size, 2, none⟩ = some (.slice (some ⟨b, off, none⟩) m cap)) ∧ Blk wr (w.heap.size + 1) #[.int .i64 0, .int .i64 0, .slice none 0 0] 25) := by
    intro wr f
    have B0 := O0.fr f (fun h => h)
    exact ⟨⟨by rw [B0.cell]; rfl, by rw [B0.cell]; rfl, by rw [B0.cell]; rfl⟩, O1.fr f (fun h => h)⟩
  have HW := hid hW
  have HLine : Hid (∀ wr k, Fr (fun _ => False) W wr → k < y → Nums wr (some ⟨b, off + k * x, none⟩) x (cap - k * x) (gridV x V k) b) := by
    intro wr k f hk
    have hend := row_end hm hk
    have hN2 := HN.out.quiet (F0.trans' f)
    refine ⟨by omega, by omega, fun _ => ⟨off + k * x, rfl, fun j hj => ?_⟩⟩
    obtain ⟨off', e, hcc⟩ := hN2.at' hpos
    obtain rfl : off = off' := by simpa using e
    rw [Nat.add_assoc]
    exact hcc (k * x + j) (by omega)
  clear hW h hh2 hc hR O0 O1 hm HN
  go_enter Try.func37, Try.ntmps37
  go_wp2
  rw [← HW.out]
  go_loopw [7, 8] (fun v i wr => ∃ k : Nat, k ≤ y ∧ i = .int .i64 (k : Int) ∧ wr.ownsRow W.heap.size 3 1 v (k * x) (mapV (k * x) (flatG x R)) ∧ Fr (fun _ => False) W wr) (fun _ i _ => y - (intOf i).toNat)
  case atStart => exact ⟨0, Nat.zero_le _, rfl, by rw [Nat.zero_mul]; exact World.ownsRow_nil _ _ _ _, Fr.refl _ _⟩
  case round =>
    obtain ⟨k, hk, rfl, ho, F⟩ := hrel
    obtain ⟨⟨c0, c1, c2⟩, BZ⟩ := HC.out wr F
    by_cases hlt : k < y
    · have hki : (k : Int) < (y : Int) := by omega
      have hend := row_end HM.out hlt
      have NL := HLine.out wr k F hlt
      have HEnd : Hid (k * x + x = (k + 1) * x) := by show _ = _; rw [Nat.add_mul, Nat.one_mul]
      have HRow : Hid (∀ j, j < x → inverseL f x (wovenV x (gridV x V k)) j = R k j) := fun j _ => by rw [HRR.out]; rfl
      have HCat : Hid (∀ j, j < k * x + x → catV (k * x) (flatG x R) (inverseL f x (wovenV x (gridV x V k))) j = flatG x R j) := fun j hj => row_cat HRow.out hj
      have HO := hid ho
      have hol := ho.lt
      have hne : ¬ cap = k * x := by omega
      obtain ⟨U, hU⟩ : ∃ U, U = gridV x V k := ⟨_, rfl⟩
      rw [← hU] at HCat NL
      have HNL : Hid (∀ wq, Fr (fun _ => False) wr wq → Nums wq (some ⟨b, off + k * x, none⟩) x (cap - k * x) U b) := fun wq fq => NL.quiet fq
      obtain ⟨s, hs⟩ : ∃ s, s = k * x := ⟨_, rfl⟩
      have hsI : (k : Int) * (x : Int) = (s : Int) := by rw [hs, Int.natCast_mul]
      rw [← hs] at hend HNL HEnd HO hne HCat ho
      obtain ⟨q, hq⟩ : ∃ q, q = s + x := ⟨_, rfl⟩
      have hqI : (s : Int) + (x : Int) = (q : Int) := by omega
      have hqs : q - s = x := by omega
      have hq1 : s ≤ q := by omega
      have hq2m : q ≤ m := by omega
      obtain ⟨wk, hwk⟩ : ∃ wk, wk = wr := ⟨_, rfl⟩
      have HFK := hid F
      rw [← hwk] at HO HNL hol HFK
      have HCX : Hid (∀ wq, Fr (fun _ => False) wk wq → wq.cell? ⟨w.heap.size, 0, none⟩ = some (.int .i64 (x : Int))) := fun wq fq => (HC.out wq (HFK.out.trans' fq)).1.1
      have HWK := hid hwk
      clear hs hq NL BZ ho hwk hU
      go_wp2
      rw [← HWK.out]
      clear c0 c1 c2
      go_loopw [10, 11] (fun v t wr => ∃ i : Nat, i ≤ h2 ∧ t = .int .i64 (i : Int) ∧ wr.ownsRow wk.heap.size 3 1 v (2 * i) (mapV (2 * i) (wovenV x U)) ∧ Fr (fun _ => False) wk wr) (fun _ t _ => h2 - (intOf t).toNat)
      case atStart => exact ⟨0, Nat.zero_le _, rfl, World.ownsRow_nil _ _ _ _, Fr.refl _ _⟩
      case round =>
        obtain ⟨i, hi, rfl, hox, F2⟩ := hrel
        have c0 := HCX.out wr F2
        by_cases hil : i < h2
        · have hii : (i : Int) < (h2 : Int) := by omega
          obtain ⟨t, ht⟩ : ∃ t, t = h2 + i := ⟨_, rfl⟩
          have htI : (h2 : Int) + (i : Int) = (t : Int) := by omega
          have htx : (t : Int) < (x : Int) := by omega
          have hix : (i : Int) < (x : Int) := by omega
          have hih : i < x := by omega
          have hth : t < x := by omega
          have HWC : Hid (∀ j, j < 2 * i + 2 → catV (2 * i) (wovenV x U) (fun j => [U i, U t].getD j 0) j = wovenV x U j) := fun j hj => woven_cat (q := i) (U := U) (V2 := fun j => [U i, U t].getD j 0) HH2.out rfl (by rw [ht]; rfl) hj
          obtain ⟨z0, hz0⟩ : ∃ z0, z0 = U i := ⟨_, rfl⟩
          obtain ⟨z1, hz1⟩ : ∃ z1, z1 = U t := ⟨_, rfl⟩
          have HCC : Hid (∀ wq, Fr (fun _ => False) wr.drew wq → wq.cell? ⟨w.heap.size, 0, none⟩ = some (.int .i64 (x : Int)) ∧ wq.cell? ⟨b, off + s + i, none⟩ = some (.int .i64 z0) ∧ wq.cell? ⟨b, off + s + t, none⟩ = some (.int .i64 z1)) := by
            intro wq fq
            have fk := F2.trans' ((Fr.refl (fun _ => False) wr).drew.trans' fq)
            obtain ⟨o', e, hcc⟩ := (HNL.out wq fk).at' (by omega)
            obtain rfl : off + s = o' := by simpa using e
            exact ⟨HCX.out wq fk, by rw [hz0]; exact hcc i hih, by rw [hz1]; exact hcc t hth⟩
          rw [← hz0, ← hz1] at HWC
          have HOX := hid hox
          have hox := hox.lt
          have HF2 := hid F2
          clear hz0 hz1 ht
          go_wp2
          clear c0
          refine weaveST 14 [.eq (u10), .eq (Value.slice (some ⟨b, off + s, none⟩) x (cap - s)), .eq (Value.int .i64 (i : Int)), .eq (Value.pointer (some ⟨b, off + s + i, none⟩)), .eq (Value.int .i64 z0), .eq (Value.slice (some ⟨b, off + s, none⟩) x (cap - s)), .eq (Value.pointer (some ⟨w.heap.size, 0, none⟩)), .eq (Value.int .i64 (x : Int)), .eq (Value.int .i64 (h2 : Int)), .eq (Value.int .i64 (i : Int)), .eq (Value.int .i64 (t : Int)), .eq (Value.pointer (some ⟨b, off + s + t, none⟩)), .eq (Value.int .i64 z1), .row 2 (fun j => [z0, z1].getD j 0)] (by kernel_rfl) (by kernel_rfl) ?obls ?tail
          case obls =>
            simp only [List.take_succ_cons, List.take_zero]
            refine ⟨?_, ?_, ?_, ?_, ?_, ?_, ?_, ?_, ?_, ?_, ?_, ?_, ?_, ?_, trivial⟩
            · intro vals wq f h
              simp only [fillA, fillT, List.setIfInBounds_toArray, List.set_cons_succ, List.set_cons_zero, Option.getD_some, Nat.zero_add, Nat.reduceAdd]
              obtain ⟨c0, ck0, ck1⟩ := HCC.out wq f
              clear h
              go_wp2
              exact ⟨rfl, rfl, _, rfl, Fr.refl _ _, rfl⟩
            · intro vals wq f h
              simp only [fillA, fillT, List.setIfInBounds_toArray, List.set_cons_succ, List.set_cons_zero, Option.getD_some, Nat.zero_add, Nat.reduceAdd]
              obtain ⟨c0, ck0, ck1⟩ := HCC.out wq f
              clear h
              go_wp2
              exact ⟨rfl, rfl, _, rfl, Fr.refl _ _, rfl⟩
            · intro vals wq f h
              simp only [fillA, fillT, List.setIfInBounds_toArray, List.set_cons_succ, List.set_cons_zero, Option.getD_some, Nat.zero_add, Nat.reduceAdd]
              obtain ⟨c0, ck0, ck1⟩ := HCC.out wq f
              clear h
              go_wp2
              exact ⟨rfl, rfl, _, rfl, Fr.refl _ _, rfl⟩
            · intro vals wq f h
              simp only [fillA, fillT, List.setIfInBounds_toArray, List.set_cons_succ, List.set_cons_zero, Option.getD_some, Nat.zero_add, Nat.reduceAdd]
              have h1 : vals 1 = Value.slice (some ⟨b, off + s, none⟩) x (cap - s) := h 1 (by kernel_rfl)
              rw [h1]
              have h2 : vals 2 = Value.int .i64 (i : Int) := h 2 (by kernel_rfl)
              rw [h2]
              obtain ⟨c0, ck0, ck1⟩ := HCC.out wq f
              clear h
              go_wp2
              exact ⟨rfl, rfl, _, rfl, Fr.refl _ _, rfl⟩
            · intro vals wq f h
              simp only [fillA, fillT, List.setIfInBounds_toArray, List.set_cons_succ, List.set_cons_zero, Option.getD_some, Nat.zero_add, Nat.reduceAdd]
              have h3 : vals 3 = Value.pointer (some ⟨b, off + s + i, none⟩) := h 3 (by kernel_rfl)
              rw [h3]
              obtain ⟨c0, ck0, ck1⟩ := HCC.out wq f
              clear h
              go_wp2
              exact ⟨rfl, rfl, _, rfl, Fr.refl _ _, rfl⟩
            · intro vals wq f h
              simp only [fillA, fillT, List.setIfInBounds_toArray, List.set_cons_succ, List.set_cons_zero, Option.getD_some, Nat.zero_add, Nat.reduceAdd]
              obtain ⟨c0, ck0, ck1⟩ := HCC.out wq f
              clear h
              go_wp2
              exact ⟨rfl, rfl, _, rfl, Fr.refl _ _, rfl⟩
            · intro vals wq f h
              simp only [fillA, fillT, List.setIfInBounds_toArray, List.set_cons_succ, List.set_cons_zero, Option.getD_some, Nat.zero_add, Nat.reduceAdd]
              obtain ⟨c0, ck0, ck1⟩ := HCC.out wq f
              clear h
              go_wp2
              exact ⟨rfl, rfl, _, rfl, Fr.refl _ _, rfl⟩
            · intro vals wq f h
              simp only [fillA, fillT, List.setIfInBounds_toArray, List.set_cons_succ, List.set_cons_zero, Option.getD_some, Nat.zero_add, Nat.reduceAdd]
              have h6 : vals 6 = Value.pointer (some ⟨w.heap.size, 0, none⟩) := h 6 (by kernel_rfl)
              rw [h6]
              obtain ⟨c0, ck0, ck1⟩ := HCC.out wq f
              clear h
              go_wp2
              exact ⟨rfl, rfl, _, rfl, Fr.refl _ _, rfl⟩
            · intro vals wq f h
              simp only [fillA, fillT, List.setIfInBounds_toArray, List.set_cons_succ, List.set_cons_zero, Option.getD_some, Nat.zero_add, Nat.reduceAdd]
              have h7 : vals 7 = Value.int .i64 (x : Int) := h 7 (by kernel_rfl)
              rw [h7]
              obtain ⟨c0, ck0, ck1⟩ := HCC.out wq f
              clear h
              go_wp2
              exact ⟨rfl, rfl, _, rfl, Fr.refl _ _, by first | rfl | (show Value.int .i64 _ = Value.int .i64 _; rw [hq2]) | (show Value.int .i64 _ = Value.int .i64 _; rw [hq2'])⟩
            · intro vals wq f h
              simp only [fillA, fillT, List.setIfInBounds_toArray, List.set_cons_succ, List.set_cons_zero, Option.getD_some, Nat.zero_add, Nat.reduceAdd]
              obtain ⟨c0, ck0, ck1⟩ := HCC.out wq f
              clear h
              go_wp2
              exact ⟨rfl, rfl, _, rfl, Fr.refl _ _, rfl⟩
            · intro vals wq f h
              simp only [fillA, fillT, List.setIfInBounds_toArray, List.set_cons_succ, List.set_cons_zero, Option.getD_some, Nat.zero_add, Nat.reduceAdd]
              have h8 : vals 8 = Value.int .i64 (h2 : Int) := h 8 (by kernel_rfl)
              rw [h8]
              have h9 : vals 9 = Value.int .i64 (i : Int) := h 9 (by kernel_rfl)
              rw [h9]
              obtain ⟨c0, ck0, ck1⟩ := HCC.out wq f
              clear h
              go_wp2
              exact ⟨rfl, rfl, _, rfl, Fr.refl _ _, rfl⟩
            · intro vals wq f h
              simp only [fillA, fillT, List.setIfInBounds_toArray, List.set_cons_succ, List.set_cons_zero, Option.getD_some, Nat.zero_add, Nat.reduceAdd]
              have h5 : vals 5 = Value.slice (some ⟨b, off + s, none⟩) x (cap - s) := h 5 (by kernel_rfl)
              rw [h5]
              have h10 : vals 10 = Value.int .i64 (t : Int) := h 10 (by kernel_rfl)
              rw [h10]
              obtain ⟨c0, ck0, ck1⟩ := HCC.out wq f
              clear h
              go_wp2
              exact ⟨rfl, rfl, _, rfl, Fr.refl _ _, rfl⟩
            · intro vals wq f h
              simp only [fillA, fillT, List.setIfInBounds_toArray, List.set_cons_succ, List.set_cons_zero, Option.getD_some, Nat.zero_add, Nat.reduceAdd]
              have h11 : vals 11 = Value.pointer (some ⟨b, off + s + t, none⟩) := h 11 (by kernel_rfl)
              rw [h11]
              obtain ⟨c0, ck0, ck1⟩ := HCC.out wq f
              clear h
              go_wp2
              exact ⟨rfl, rfl, _, rfl, Fr.refl _ _, rfl⟩
            · intro vals wq f h
              simp only [fillA, fillT, List.setIfInBounds_toArray, List.set_cons_succ, List.set_cons_zero, Option.getD_some, Nat.zero_add, Nat.reduceAdd]
              have h4 : vals 4 = Value.int .i64 z0 := h 4 (by kernel_rfl)
              rw [h4]
              have h12 : vals 12 = Value.int .i64 z1 := h 12 (by kernel_rfl)
              rw [h12]
              obtain ⟨c0, ck0, ck1⟩ := HCC.out wq f
              clear h
              have HB := hid (Blk.new wq #[.int .i64 z0, .int .i64 z1] 3)
              go_wp2
              exact ⟨rfl, rfl, _, rfl, (Fr.refl _ wq).alloc _, _, rfl, Row.of_blk (l := [z0, z1]) HB.out⟩
          case tail =>
            intro vals wq f h
            simp only [List.take_succ_cons, List.take_zero, fillA, fillT, List.setIfInBounds_toArray, List.set_cons_succ, List.set_cons_zero, List.drop_succ_cons, List.drop_zero, Nat.zero_add, Nat.reduceAdd]
            have h0 : vals 0 = u10 := h 0 (by omega)
            rw [h0]
            obtain ⟨g13, h13, r13⟩ : RowAt wq (vals 13) 2 (fun j => [z0, z1].getD j 0) := h 13 (by omega)
            rw [h13]
            have f' := (Fr.refl (fun _ => False) wr).drew.trans' f
            have O7 := ownsRow_fr HOX.out f' (fun _ _ h => h)
            have N7 := r13.nums (by unfold maxLen; omega)
            have F7 := HF2.out.trans' f'
            have hsz7 := F7.size
            clear h h0 h13 r13
            refine wpListIn_catI (base := wk.heap.size) rfl _ _ rfl u10 (2 * i) _ rfl O7 g13 2 2 _ rfl N7 hsz7 (by omega) ?_
            intro v8 w8 O8 f8
            have F8 := F7.trans f8 (fun i hi e => by have := (hox _ e).1; omega)
            rw [mapV_congr (n := 2 * i + 2) HWC.out] at O8
            have HO8 := hid O8
            clear O7 N7 O8 f8 f F7
            gi_wp2
            go_wp2
            go_roundw
            case rel => exact ⟨i + 1, by omega, by go_num, HO8.out, F8⟩
            case measure => simp [intOf]; omega
        · have hii : ¬ (i : Int) < (h2 : Int) := by omega
          have hie : 2 * i = x := by have := HX2.out; omega
          rw [hie] at hox
          obtain ⟨a8, cap8, b8, rfl, ol⟩ := OwnL.of_owns hox
          have HIn := hid (r8inverse_any wr a8 x cap8 (wovenV x U) b8 ol.nums (by omega) (f : Int))
          rw [hln, Int.toNat_natCast] at HIn
          have O2 := ownsRow_fr HO.out F2 (fun _ _ h => h)
          clear hie ol hox
          go_wp2_with fail
          refine (HIn.out).mono ?_
          rintro e w9 ⟨a9, cap9, b9, rfl, N9, n9, _, f9⟩
          have F9 := (HFK.out.trans' F2).trans' f9
          have O9 := ownsRow_fr O2 f9 (fun _ _ h => h)
          have hsz9 := F9.size
          clear O2 HIn
          go_wp2_with (at_builtin; refine wpList_catI (base := W.heap.size) rfl _ _ rfl u7 s _ rfl O9 a9 x cap9 _ b9 rfl N9 n9 hsz9 (by omega) ?_)
          intro v5 w5 O5 f5
          have F5 := F9.trans f5 (fun i hi e => by have := (hol _ e).1; omega)
          rw [mapV_congr (n := s + x) HCat.out, HEnd.out] at O5
          have HO5 := hid O5
          clear N9 n9 O9 O5 f9 f5 F9 hsz9
          go_wp2
          go_roundw
          case rel => exact ⟨k + 1, by omega, by go_num, HO5.out, F5⟩
          case measure => simp [intOf]; omega
    · have hki : ¬ (k : Int) < (y : Int) := by omega
      have hke : k * x = m := by
        have : k = y := by omega
        rw [this, Nat.mul_comm]; exact HM.out
      rw [hke] at ho
      obtain ⟨a', cap', b', rfl, ol⟩ := OwnL.of_owns ho
      have HL := hid ol
      have z0 : wr.cell? ⟨w.heap.size + 1, 0, none⟩ = some (.int .i64 0) := by rw [BZ.cell]; rfl
      have z1 : wr.cell? ⟨w.heap.size + 1, 1, none⟩ = some (.int .i64 0) := by rw [BZ.cell]; rfl
      have z2 : wr.cell? ⟨w.heap.size + 1, 2, none⟩ = some (.slice none 0 0) := by rw [BZ.cell]; rfl
      have zf := BZ.thaw
      have HBZ := hid BZ
      have HFE := hid (F0.trans' F)
      have hb' : w.heap.size + 1 < b' := by have := (ol.row hpos).2.2; omega
      obtain ⟨rfl, hrc, _⟩ := ol.row hpos
      have hcl := ol.nums.le
      have hcm2 := ol.nums.most
      have HRC := hid hrc
      clear BZ F ho ol hke hrc HL
      go_wp2
      refine bodyPost_ret (v := .agg #[.int .i64 (x : Int), .int .i64 (y : Int), .slice (some ⟨b', 0, none⟩) m cap']) ?_ rfl ⟨b', cap', rfl, HRC.out.fr (fr_put3 _ _ _ _ _) (by omega), hcl, hcm2, by omega, HFE.out.put3New (by omega) _ _ _⟩
      exact results_cell_row rfl _ _ (w.heap.size + 1) 25 _ (0, 0) _ rfl (show Blk _ _ _ _ from HBZ.out.put3 _ _ _) Try.underlying25 rfl Try.info_plane
end Go.Proofs.Ytonalomagfekaaa
