/-
  BandsCut: its walk.
-/
import Derived.Test.YtgmainbgliejhaaFirst10
import Derived.Test.YtgmainbgliejhaaRef10F
import Derived.Test.YtgmainbgliejhaaCopyE
namespace Go.Proofs.Ytgmainbgliejhaa
open Go.RowKit

set_option maxRecDepth 100000 in
set_option maxHeartbeats 1000000 in
/-- Once the two sides' calls are known. -/
theorem cut10_core (X Y : Int) (a : Option Addr) (n cap : Nat) (V : Nat → Int) (p : Nat) (lv o bx by' bw bh : Int) (QX QY : Int) (a' : Option Addr) (m cap' : Nat) (w : World)
    (h : Nums w a n cap V p) (hf : a = none → n = 0 ∧ cap = 0) (hn3 : n ≤ 3000) (hm3 : m ≤ 3000)
    (ok : Bool) (V2 : Nat → Int) (CX CY : Int) (cn : Nat) (CV : Nat → Int)
    (hCut : ∀ w1, Fr (fun _ => False) w w1 → Calls Try.prog 16 #[.agg #[.int .i64 X, .int .i64 Y, .slice a n cap], .agg #[.int .i64 lv, .int .i64 o, .int .i64 bx, .int .i64 by', .int .i64 bw, .int .i64 bh]] w1 fun e w' => Made w1 w' e CX CY cn CV)
    (hRef : ∀ w1, Fr (fun _ => False) w w1 → Calls Try.prog 18 #[.agg #[.int .i64 X, .int .i64 Y, .slice a n cap], .agg #[.int .i64 lv, .int .i64 o, .int .i64 bx, .int .i64 by', .int .i64 bw, .int .i64 bh]] w1 fun e w' => Made w1 w' e CX CY cn CV)
    (hLay : ∀ w1 a1 cap1 b1 base, OwnL w1 base a1 n cap1 V b1 → Fr (fun _ => False) w w1 → Calls Try.prog 19 #[.agg #[.int .i64 X, .int .i64 Y, .slice a1 n cap1], .agg #[.int .i64 lv, .int .i64 o, .int .i64 bx, .int .i64 by', .int .i64 bw, .int .i64 bh], .agg #[.int .i64 QX, .int .i64 QY, .slice a' m cap']] w1 fun e w' => e = .returned (.bool ok) ∧ OwnL w' base a1 n cap1 V2 b1 ∧ Fr (fun j => 0 < n ∧ j = b1) w1 w')
    (hLaid : ∀ w1, Fr (fun _ => False) w w1 → Calls Try.prog 20 #[.agg #[.int .i64 X, .int .i64 Y, .slice a n cap], .agg #[.int .i64 lv, .int .i64 o, .int .i64 bx, .int .i64 by', .int .i64 bw, .int .i64 bh], .agg #[.int .i64 QX, .int .i64 QY, .slice a' m cap']] w1 fun e w' => ∃ a2 cap2 b2, e = .returned (.tuple #[.agg #[.int .i64 X, .int .i64 Y, .slice a2 n cap2], .bool ok]) ∧ Nums w' a2 n cap2 V2 b2 ∧ Fr (fun _ => False) w1 w')
    (hBack : 0 < cn → ∀ w1 a1 cap1 b1 base ac kc bc, OwnL w1 base a1 n cap1 V2 b1 → Nums w1 ac cn kc CV bc → Calls Try.prog 19 #[.agg #[.int .i64 X, .int .i64 Y, .slice a1 n cap1], .agg #[.int .i64 lv, .int .i64 o, .int .i64 bx, .int .i64 by', .int .i64 bw, .int .i64 bh], .agg #[.int .i64 CX, .int .i64 CY, .slice ac cn kc]] w1 fun e w' => ∃ r, e = .returned (.bool r) ∧ OwnL w' base a1 n cap1 V b1 ∧ Fr (fun j => 0 < n ∧ j = b1) w1 w') :
    Calls Try.prog 4 #[.agg #[.int .i64 X, .int .i64 Y, .slice a n cap], .agg #[.int .i64 lv, .int .i64 o, .int .i64 bx, .int .i64 by', .int .i64 bw, .int .i64 bh], .agg #[.int .i64 QX, .int .i64 QY, .slice a' m cap']] w fun e w' => e = .returned (.bool true) ∧ Below w.heap.size w w' := by
  have HN := hid h
  have HF0 := hid hf
  have HCut := hid hCut
  have HRef := hid hRef
  have HLay := hid hLay
  have HLaid := hid hLaid
  have HBack := hid hBack
  have hn3' : (n : Int) ≤ 3000 := by omega
  have hm3' : (m : Int) ≤ 3000 := by omega
  have hng : ¬ (3000 : Int) < (n : Int) := by omega
  have hmg : ¬ (3000 : Int) < (m : Int) := by omega
  obtain ⟨W, hW⟩ : ∃ W, W = ((w.alloc (.cells #[.int .i64 X, .int .i64 Y, .slice a n cap] 38)).alloc (.cells #[.int .i64 lv, .int .i64 o, .int .i64 bx, .int .i64 by', .int .i64 bw, .int .i64 bh] 31)).alloc (.cells #[.int .i64 QX, .int .i64 QY, .slice a' m cap'] 38) := ⟨_, rfl⟩
  have F0 : Fr (fun _ => False) w W := by rw [hW]; exact (((Fr.refl _ w).alloc _).alloc _).alloc _
  have O0 : Blk W w.heap.size #[.int .i64 X, .int .i64 Y, .slice a n cap] 38 := by rw [hW]; exact ((Blk.new _ _ _).alloc _).alloc _
  have O1 : Blk W (w.heap.size + 1) #[.int .i64 lv, .int .i64 o, .int .i64 bx, .int .i64 by', .int .i64 bw, .int .i64 bh] 31 := by
    rw [hW]
    have := Blk.new (w.alloc (.cells #[.int .i64 X, .int .i64 Y, .slice a n cap] 38)) #[.int .i64 lv, .int .i64 o, .int .i64 bx, .int .i64 by', .int .i64 bw, .int .i64 bh] 31
    simp at this
    exact this.alloc _
  have O2 : Blk W (w.heap.size + 2) #[.int .i64 QX, .int .i64 QY, .slice a' m cap'] 38 := by
    rw [hW]
    have := Blk.new ((w.alloc (.cells #[.int .i64 X, .int .i64 Y, .slice a n cap] 38)).alloc (.cells #[.int .i64 lv, .int .i64 o, .int .i64 bx, .int .i64 by', .int .i64 bw, .int .i64 bh] 31)) #[.int .i64 QX, .int .i64 QY, .slice a' m cap'] 38
    simpa using this
  have HW := hid hW
  clear hW h hf hCut hRef hLay hLaid hBack
  go_enter Try.func4, Try.ntmps4
  go_wp2_with fail
  rw [← HW.out]
  refine (first10_any W).mono ?_
  rintro e w1 ⟨rfl, f1⟩
  have P1 := O0.fr f1 (fun h => h)
  have X1 := O1.fr f1 (fun h => h)
  have Q1 := O2.fr f1 (fun h => h)
  have F1 := F0.trans' f1
  have p0 : w1.cell? ⟨w.heap.size, 0, none⟩ = some (.int .i64 X) := by rw [P1.cell]; rfl
  have p1 : w1.cell? ⟨w.heap.size, 1, none⟩ = some (.int .i64 Y) := by rw [P1.cell]; rfl
  have p2 : w1.cell? ⟨w.heap.size, 2, none⟩ = some (.slice a n cap) := by rw [P1.cell]; rfl
  have x0 : w1.cell? ⟨w.heap.size + 1, 0, none⟩ = some (.int .i64 lv) := by rw [X1.cell]; rfl
  have x1 : w1.cell? ⟨w.heap.size + 1, 1, none⟩ = some (.int .i64 o) := by rw [X1.cell]; rfl
  have x2 : w1.cell? ⟨w.heap.size + 1, 2, none⟩ = some (.int .i64 bx) := by rw [X1.cell]; rfl
  have x3 : w1.cell? ⟨w.heap.size + 1, 3, none⟩ = some (.int .i64 by') := by rw [X1.cell]; rfl
  have x4 : w1.cell? ⟨w.heap.size + 1, 4, none⟩ = some (.int .i64 bw) := by rw [X1.cell]; rfl
  have x5 : w1.cell? ⟨w.heap.size + 1, 5, none⟩ = some (.int .i64 bh) := by rw [X1.cell]; rfl
  have q0 : w1.cell? ⟨w.heap.size + 2, 0, none⟩ = some (.int .i64 QX) := by rw [Q1.cell]; rfl
  have q1 : w1.cell? ⟨w.heap.size + 2, 1, none⟩ = some (.int .i64 QY) := by rw [Q1.cell]; rfl
  have q2 : w1.cell? ⟨w.heap.size + 2, 2, none⟩ = some (.slice a' m cap') := by rw [Q1.cell]; rfl
  clear O0 O1 O2 F0 f1 HW
  go_wp2_with fail
  refine (HCut.out w1 F1).mono ?_
  rintro e w2 ⟨ac, kc, bc, rfl, nc, ic, f2⟩
  obtain ⟨W5, hW5⟩ : ∃ W5, W5 = w2.alloc (.cells #[.int .i64 CX, .int .i64 CY, .slice ac cn kc] 38) := ⟨_, rfl⟩
  obtain ⟨b7, hb7'⟩ : ∃ b, b = w2.heap.size := ⟨_, rfl⟩
  have f5 : Fr (fun _ => False) w1 W5 := by rw [hW5]; exact f2.alloc _
  have C5 : Blk W5 b7 #[.int .i64 CX, .int .i64 CY, .slice ac cn kc] 38 := by rw [hW5, hb7']; exact Blk.new _ _ _
  have NC5 : Nums W5 ac cn kc CV bc := by rw [hW5]; exact nc.quiet ((Fr.refl _ w2).alloc _)
  have HP5 := hid (P1.fr f5 (fun h => h))
  have HX5 := hid (X1.fr f5 (fun h => h))
  have HQ5 := hid (Q1.fr f5 (fun h => h))
  have HF5 := hid (F1.trans' f5)
  have HC5 := hid C5
  have HNC5 := hid NC5
  have HW5 := hid hW5
  have HB7 := hid hb7'
  have hwb7 : w.heap.size ≤ b7 := by rw [hb7']; exact Nat.le_trans F1.size f2.size
  have HQ : Hid (∀ wq, Fr (fun _ => False) W5.drew wq → (wq.cell? ⟨b7, 0, none⟩ = some (.int .i64 CX) ∧ wq.cell? ⟨b7, 1, none⟩ = some (.int .i64 CY) ∧ wq.cell? ⟨b7, 2, none⟩ = some (.slice ac cn kc)) ∧ (wq.cell? ⟨w.heap.size, 0, none⟩ = some (.int .i64 X) ∧ wq.cell? ⟨w.heap.size, 1, none⟩ = some (.int .i64 Y) ∧ wq.cell? ⟨w.heap.size, 2, none⟩ = some (.slice a n cap)) ∧ (wq.cell? ⟨w.heap.size + 1, 0, none⟩ = some (.int .i64 lv) ∧ wq.cell? ⟨w.heap.size + 1, 1, none⟩ = some (.int .i64 o) ∧ wq.cell? ⟨w.heap.size + 1, 2, none⟩ = some (.int .i64 bx) ∧ wq.cell? ⟨w.heap.size + 1, 3, none⟩ = some (.int .i64 by') ∧ wq.cell? ⟨w.heap.size + 1, 4, none⟩ = some (.int .i64 bw) ∧ wq.cell? ⟨w.heap.size + 1, 5, none⟩ = some (.int .i64 bh)) ∧ Hid (Nums wq ac cn kc CV bc) ∧ Fr (fun _ => False) w wq) := by
    intro wq f
    have f' := (Fr.refl _ W5).drew.trans' f
    have S0 := HP5.out.fr f' (fun h => h)
    have S1 := HX5.out.fr f' (fun h => h)
    have S2 := HC5.out.fr f' (fun h => h)
    exact ⟨⟨by rw [S2.cell]; rfl, by rw [S2.cell]; rfl, by rw [S2.cell]; rfl⟩, ⟨by rw [S0.cell]; rfl, by rw [S0.cell]; rfl, by rw [S0.cell]; rfl⟩, ⟨by rw [S1.cell]; rfl, by rw [S1.cell]; rfl, by rw [S1.cell]; rfl, by rw [S1.cell]; rfl, by rw [S1.cell]; rfl, by rw [S1.cell]; rfl⟩, HNC5.out.quiet f', HF5.out.trans' f'⟩
  clear P1 X1 Q1 F1 C5 NC5 f5 nc ic f2 hW5 hb7' HCut p0 p1 p2 x0 x1 x2 x3 x4 x5 q0 q1 q2
  go_wp2
  rw [← HW5.out, ← HB7.out]
  refine weaveS 6 [.eq (Value.agg #[.int .i64 CX, .int .i64 CY, .slice ac cn kc]), .eq (Value.agg #[.int .i64 X, .int .i64 Y, .slice a n cap]), .eq (Value.agg #[.int .i64 lv, .int .i64 o, .int .i64 bx, .int .i64 by', .int .i64 bw, .int .i64 bh]), .plane (CX) (CY) (cn) (CV), .eq (Value.bool true), .eq (Value.bool false)] (by kernel_rfl) (by kernel_rfl) ?obls ?tail
  case obls =>
    simp only [List.take_succ_cons, List.take_zero]
    refine ⟨?_, ?_, ?_, ?_, ?_, ?_, trivial⟩
    · intro vals wq f h
      simp only [fillA, fillT, List.setIfInBounds_toArray, List.set_cons_succ, List.set_cons_zero, Option.getD_some, Nat.zero_add, Nat.reduceAdd]
      obtain ⟨⟨c0, c1, c2⟩, ⟨p0, p1, p2⟩, ⟨x0, x1, x2, x3, x4, x5⟩, nC, fW⟩ := HQ.out wq f
      clear h
      go_wp2
      exact ⟨rfl, rfl, _, rfl, Fr.refl _ _, rfl⟩
    · intro vals wq f h
      simp only [fillA, fillT, List.setIfInBounds_toArray, List.set_cons_succ, List.set_cons_zero, Option.getD_some, Nat.zero_add, Nat.reduceAdd]
      obtain ⟨⟨c0, c1, c2⟩, ⟨p0, p1, p2⟩, ⟨x0, x1, x2, x3, x4, x5⟩, nC, fW⟩ := HQ.out wq f
      clear h
      go_wp2
      exact ⟨rfl, rfl, _, rfl, Fr.refl _ _, rfl⟩
    · intro vals wq f h
      simp only [fillA, fillT, List.setIfInBounds_toArray, List.set_cons_succ, List.set_cons_zero, Option.getD_some, Nat.zero_add, Nat.reduceAdd]
      obtain ⟨⟨c0, c1, c2⟩, ⟨p0, p1, p2⟩, ⟨x0, x1, x2, x3, x4, x5⟩, nC, fW⟩ := HQ.out wq f
      clear h
      go_wp2
      exact ⟨rfl, rfl, _, rfl, Fr.refl _ _, rfl⟩
    · intro vals wq f h
      simp only [fillA, fillT, List.setIfInBounds_toArray, List.set_cons_succ, List.set_cons_zero, Option.getD_some, Nat.zero_add, Nat.reduceAdd]
      have h1 : vals 1 = Value.agg #[.int .i64 X, .int .i64 Y, .slice a n cap] := h 1 (by kernel_rfl)
      rw [h1]
      have h2 : vals 2 = Value.agg #[.int .i64 lv, .int .i64 o, .int .i64 bx, .int .i64 by', .int .i64 bw, .int .i64 bh] := h 2 (by kernel_rfl)
      rw [h2]
      obtain ⟨⟨c0, c1, c2⟩, ⟨p0, p1, p2⟩, ⟨x0, x1, x2, x3, x4, x5⟩, nC, fW⟩ := HQ.out wq f
      clear h
      go_wp2_with fail
      refine (HRef.out wq fW).mono ?_
      rintro e w6 ⟨a6, cap6, b6, rfl, n6, i6, f6⟩
      have HN6 := hid n6
      have HI6 := hid i6
      clear n6 i6
      go_wp2
      exact ⟨rfl, rfl, _, rfl, f6, _, _, _, rfl, HN6.out, fun hp => (HI6.out hp).2⟩
    · intro vals wq f h
      simp only [fillA, fillT, List.setIfInBounds_toArray, List.set_cons_succ, List.set_cons_zero, Option.getD_some, Nat.zero_add, Nat.reduceAdd]
      have h0 : vals 0 = Value.agg #[.int .i64 CX, .int .i64 CY, .slice ac cn kc] := h 0 (by kernel_rfl)
      rw [h0]
      obtain ⟨a3, cap3, b3, h3, n3, i3⟩ : PlaneAt wq (vals 3) (CX) (CY) (cn) (CV) := h 3 (by kernel_rfl)
      rw [h3]
      obtain ⟨⟨c0, c1, c2⟩, ⟨p0, p1, p2⟩, ⟨x0, x1, x2, x3, x4, x5⟩, nC, fW⟩ := HQ.out wq f
      clear h
      have HS := hid (rsame_any CX CY ac cn kc CV bc CX CY _ cn _ CV _ wq nC.out n3)
      rw [sameV_self] at HS
      clear n3 i3
      go_wp2_with fail
      refine HS.out.mono ?_
      rintro e w6 ⟨rfl, f6⟩
      go_wp2
      exact ⟨rfl, rfl, _, rfl, f6, rfl⟩
    · intro vals wq f h
      simp only [fillA, fillT, List.setIfInBounds_toArray, List.set_cons_succ, List.set_cons_zero, Option.getD_some, Nat.zero_add, Nat.reduceAdd]
      have h4 : vals 4 = Value.bool true := h 4 (by kernel_rfl)
      rw [h4]
      obtain ⟨⟨c0, c1, c2⟩, ⟨p0, p1, p2⟩, ⟨x0, x1, x2, x3, x4, x5⟩, nC, fW⟩ := HQ.out wq f
      clear h
      go_wp2
      exact ⟨rfl, rfl, _, rfl, Fr.refl _ _, rfl⟩
  case tail =>
    intro vals wq f h
    simp only [List.take_succ_cons, List.take_zero, fillA, fillT, List.setIfInBounds_toArray, List.set_cons_succ, List.set_cons_zero, List.drop_succ_cons, List.drop_nil, Nat.zero_add, Nat.reduceAdd]
    have h5 : vals 5 = Value.bool false := h 5 (by omega)
    rw [h5]
    have f56 := (Fr.refl _ W5).drew.trans' f
    obtain ⟨W6, hW6⟩ : ∃ W6, W6 = wq := ⟨_, rfl⟩
    rw [← hW6] at f56 ⊢
    clear h h5 hW6 f HQ
    gi_wp2
    have HP6 := hid (HP5.out.fr f56 (fun h => h))
    have HX6 := hid (HX5.out.fr f56 (fun h => h))
    have HQ6 := hid (HQ5.out.fr f56 (fun h => h))
    have HC6 := hid (HC5.out.fr f56 (fun h => h))
    have HF6 := hid (HF5.out.trans' f56)
    have HNC := hid (HNC5.out.quiet f56)
    have hb7 : b7 < W6.heap.size := HC6.out.lt
    have hqs : w.heap.size + 2 < W6.heap.size := HQ6.out.lt
    have hb3 : 0 < cn → bc < W6.heap.size := fun hp => HNC.out.lt hp
    have HQ8 : Hid (∀ wq, Fr (fun _ => False) W6.drew wq → (wq.cell? ⟨w.heap.size, 0, none⟩ = some (.int .i64 X) ∧ wq.cell? ⟨w.heap.size, 1, none⟩ = some (.int .i64 Y) ∧ wq.cell? ⟨w.heap.size, 2, none⟩ = some (.slice a n cap)) ∧ Hid (Nums wq a n cap V p)) := by
      intro wq f
      have f' := (Fr.refl _ W6).drew.trans' f
      have S0 := HP6.out.fr f' (fun h => h)
      exact ⟨⟨by rw [S0.cell]; rfl, by rw [S0.cell]; rfl, by rw [S0.cell]; rfl⟩, HN.out.quiet (HF6.out.trans' f')⟩
    clear HP5 HX5 HQ5 HC5 HF5 HNC5 f56 HRef
    go_wp2
    refine weaveST 10 [.eq (Value.pointer (some ⟨w.heap.size, 0, none⟩)), .eq (Value.int .i64 X), .eq (Value.pointer (some ⟨w.heap.size, 1, none⟩)), .eq (Value.int .i64 Y), .emp W6.heap.size, .eq (Value.pointer (some ⟨w.heap.size, 2, none⟩)), .eq (Value.slice a n cap), .own W6.heap.size n V, .ownP X Y W6.heap.size n V, .box W6.heap.size #[.int .i64 0, .int .i64 0, .slice none 0 0] 38] (by kernel_rfl) (by kernel_rfl) ?obls ?tail
    case obls =>
      simp only [List.take_succ_cons, List.take_zero]
      refine ⟨?_, ?_, ?_, ?_, ?_, ?_, ?_, ?_, ?_, ?_, trivial⟩
      · intro vals wq f h
        simp only [fillA, fillT, List.setIfInBounds_toArray, List.set_cons_succ, List.set_cons_zero, Option.getD_some, Nat.zero_add, Nat.reduceAdd]
        obtain ⟨⟨p0, p1, p2⟩, nP⟩ := HQ8.out wq f
        clear h
        go_wp2
        exact ⟨rfl, rfl, _, rfl, Fr.refl _ _, rfl⟩
      · intro vals wq f h
        simp only [fillA, fillT, List.setIfInBounds_toArray, List.set_cons_succ, List.set_cons_zero, Option.getD_some, Nat.zero_add, Nat.reduceAdd]
        have h0 : vals 0 = Value.pointer (some ⟨w.heap.size, 0, none⟩) := h 0 (by kernel_rfl)
        rw [h0]
        obtain ⟨⟨p0, p1, p2⟩, nP⟩ := HQ8.out wq f
        clear h
        go_wp2
        exact ⟨rfl, rfl, _, rfl, Fr.refl _ _, rfl⟩
      · intro vals wq f h
        simp only [fillA, fillT, List.setIfInBounds_toArray, List.set_cons_succ, List.set_cons_zero, Option.getD_some, Nat.zero_add, Nat.reduceAdd]
        obtain ⟨⟨p0, p1, p2⟩, nP⟩ := HQ8.out wq f
        clear h
        go_wp2
        exact ⟨rfl, rfl, _, rfl, Fr.refl _ _, rfl⟩
      · intro vals wq f h
        simp only [fillA, fillT, List.setIfInBounds_toArray, List.set_cons_succ, List.set_cons_zero, Option.getD_some, Nat.zero_add, Nat.reduceAdd]
        have h2 : vals 2 = Value.pointer (some ⟨w.heap.size, 1, none⟩) := h 2 (by kernel_rfl)
        rw [h2]
        obtain ⟨⟨p0, p1, p2⟩, nP⟩ := HQ8.out wq f
        clear h
        go_wp2
        exact ⟨rfl, rfl, _, rfl, Fr.refl _ _, rfl⟩
      · intro vals wq f h
        simp only [fillA, fillT, List.setIfInBounds_toArray, List.set_cons_succ, List.set_cons_zero, Option.getD_some, Nat.zero_add, Nat.reduceAdd]
        obtain ⟨⟨p0, p1, p2⟩, nP⟩ := HQ8.out wq f
        clear h
        have hsz := f.size
        go_wp2
        exact ⟨rfl, rfl, _, rfl, (Fr.refl _ wq).alloc _, _, rfl, Blk.new _ _ _, hsz⟩
      · intro vals wq f h
        simp only [fillA, fillT, List.setIfInBounds_toArray, List.set_cons_succ, List.set_cons_zero, Option.getD_some, Nat.zero_add, Nat.reduceAdd]
        obtain ⟨⟨p0, p1, p2⟩, nP⟩ := HQ8.out wq f
        clear h
        go_wp2
        exact ⟨rfl, rfl, _, rfl, Fr.refl _ _, rfl⟩
      · intro vals wq f h
        simp only [fillA, fillT, List.setIfInBounds_toArray, List.set_cons_succ, List.set_cons_zero, Option.getD_some, Nat.zero_add, Nat.reduceAdd]
        have h5 : vals 5 = Value.pointer (some ⟨w.heap.size, 2, none⟩) := h 5 (by kernel_rfl)
        rw [h5]
        obtain ⟨⟨p0, p1, p2⟩, nP⟩ := HQ8.out wq f
        clear h
        go_wp2
        exact ⟨rfl, rfl, _, rfl, Fr.refl _ _, rfl⟩
      · intro vals wq f h
        simp only [fillA, fillT, List.setIfInBounds_toArray, List.set_cons_succ, List.set_cons_zero, Option.getD_some, Nat.zero_add, Nat.reduceAdd]
        obtain ⟨z4, h4, n4, g4⟩ : EmpAt wq (vals 4) W6.heap.size := h 4 (by kernel_rfl)
        rw [h4]
        have h6 : vals 6 = Value.slice a n cap := h 6 (by kernel_rfl)
        rw [h6]
        obtain ⟨⟨p0, p1, p2⟩, nP⟩ := HQ8.out wq f
        clear h
        have HN4 := hid n4
        clear n4
        go_wp2_with (at_builtin; refine wpList_copyE rfl _ _ rfl z4 W6.heap.size rfl HN4.out g4 a n cap V p rfl nP.out HF0.out (by omega) ?_)
        intro a7 cap7 b7 w7 ol f7
        have HOL := hid ol
        clear ol
        go_wp2
        exact ⟨rfl, rfl, _, rfl, f7, _, _, _, rfl, HOL.out⟩
      · intro vals wq f h
        simp only [fillA, fillT, List.setIfInBounds_toArray, List.set_cons_succ, List.set_cons_zero, Option.getD_some, Nat.zero_add, Nat.reduceAdd]
        have h1 : vals 1 = Value.int .i64 X := h 1 (by kernel_rfl)
        rw [h1]
        have h3 : vals 3 = Value.int .i64 Y := h 3 (by kernel_rfl)
        rw [h3]
        obtain ⟨a7, k7, b7, h7, n7⟩ : OwnAt wq (vals 7) W6.heap.size n V := h 7 (by kernel_rfl)
        rw [h7]
        obtain ⟨⟨p0, p1, p2⟩, nP⟩ := HQ8.out wq f
        clear h
        have HOL := hid n7
        clear n7
        go_wp2
        exact ⟨rfl, rfl, _, rfl, Fr.refl _ _, _, _, _, rfl, HOL.out⟩
      · intro vals wq f h
        simp only [fillA, fillT, List.setIfInBounds_toArray, List.set_cons_succ, List.set_cons_zero, Option.getD_some, Nat.zero_add, Nat.reduceAdd]
        obtain ⟨⟨p0, p1, p2⟩, nP⟩ := HQ8.out wq f
        clear h
        have hsz := f.size
        go_wp2
        exact ⟨rfl, rfl, _, rfl, (Fr.refl _ wq).alloc _, _, rfl, Blk.new _ _ _, hsz⟩
    case tail =>
      intro vals wq f h
      simp only [List.take_succ_cons, List.take_zero, fillA, fillT, List.setIfInBounds_toArray, List.set_cons_succ, List.set_cons_zero, List.drop_succ_cons, List.drop_zero, Nat.zero_add, Nat.reduceAdd]
      obtain ⟨a8, k8, b8, h8, n8⟩ : OwnP wq (vals 8) X Y W6.heap.size n V := h 8 (by omega)
      rw [h8]
      obtain ⟨b9, h9, n9, g9⟩ : BoxAt wq (vals 9) W6.heap.size #[.int .i64 0, .int .i64 0, .slice none 0 0] 38 := h 9 (by omega)
      rw [h9]
      have f67 := (Fr.refl _ W6).drew.trans' f
      have z0 : wq.cell? ⟨b9, 0, none⟩ = some (.int .i64 0) := by rw [n9.cell]; rfl
      have z1 : wq.cell? ⟨b9, 1, none⟩ = some (.int .i64 0) := by rw [n9.cell]; rfl
      have z2 : wq.cell? ⟨b9, 2, none⟩ = some (.slice none 0 0) := by rw [n9.cell]; rfl
      have zf := n9.thaw
      have hne : 0 < n → b8 ≠ b9 := fun hp e => by
        obtain ⟨cs, hb, _⟩ := (n8.row hp).2.1
        rw [e] at hb
        have hb9 := n9
        unfold Blk at hb hb9
        rw [hb] at hb9
        simp at hb9
      obtain ⟨W7, hW7⟩ : ∃ W7, W7 = stored3 wq b9 (.int .i64 X) (.int .i64 Y) (.slice a8 n k8) := ⟨_, rfl⟩
      have F67 : Fr (fun _ => False) W6 W7 := by rw [hW7]; exact f67.put3New g9 _ _ _
      have B9 : Blk W7 b9 #[.int .i64 X, .int .i64 Y, .slice a8 n k8] 38 := by rw [hW7]; exact n9.put3 _ _ _
      have O7 : OwnL W7 W6.heap.size a8 n k8 V b8 := by rw [hW7]; exact n8.fr (fr_put3 _ _ _ _ _) hne
      have HW7 : Hid (W7 = ((wq.setCell ⟨b9, 0, none⟩ (.int .i64 X)).setCell ⟨b9, 1, none⟩ (.int .i64 Y)).setCell ⟨b9, 2, none⟩ (.slice a8 n k8)) := hW7
      clear h h8 h9 n8 n9 hW7 f f67 HQ8
      gi_wp2
      have P7 := HP6.out.fr F67 (fun h => h)
      have X7 := HX6.out.fr F67 (fun h => h)
      have Q7 := HQ6.out.fr F67 (fun h => h)
      have C7 := HC6.out.fr F67 (fun h => h)
      have F7 := HF6.out.trans' F67
      have hsz6 := HF6.out.size
      have s0 : W7.cell? ⟨b9, 0, none⟩ = some (.int .i64 X) := by rw [B9.cell]; rfl
      have s1 : W7.cell? ⟨b9, 1, none⟩ = some (.int .i64 Y) := by rw [B9.cell]; rfl
      have s2 : W7.cell? ⟨b9, 2, none⟩ = some (.slice a8 n k8) := by rw [B9.cell]; rfl
      have x0 : W7.cell? ⟨w.heap.size + 1, 0, none⟩ = some (.int .i64 lv) := by rw [X7.cell]; rfl
      have x1 : W7.cell? ⟨w.heap.size + 1, 1, none⟩ = some (.int .i64 o) := by rw [X7.cell]; rfl
      have x2 : W7.cell? ⟨w.heap.size + 1, 2, none⟩ = some (.int .i64 bx) := by rw [X7.cell]; rfl
      have x3 : W7.cell? ⟨w.heap.size + 1, 3, none⟩ = some (.int .i64 by') := by rw [X7.cell]; rfl
      have x4 : W7.cell? ⟨w.heap.size + 1, 4, none⟩ = some (.int .i64 bw) := by rw [X7.cell]; rfl
      have x5 : W7.cell? ⟨w.heap.size + 1, 5, none⟩ = some (.int .i64 bh) := by rw [X7.cell]; rfl
      have q0 : W7.cell? ⟨w.heap.size + 2, 0, none⟩ = some (.int .i64 QX) := by rw [Q7.cell]; rfl
      have q1 : W7.cell? ⟨w.heap.size + 2, 1, none⟩ = some (.int .i64 QY) := by rw [Q7.cell]; rfl
      have q2 : W7.cell? ⟨w.heap.size + 2, 2, none⟩ = some (.slice a' m cap') := by rw [Q7.cell]; rfl
      rw [← HW7.out]
      clear z0 z1 z2 zf
      go_wp2_with fail
      refine (HLay.out W7 a8 k8 b8 W6.heap.size O7 F7).mono ?_
      rintro e w8 ⟨rfl, O8, f8⟩
      clear s0 s1 s2 x0 x1 x2 x3 x4 x5 q0 q1 q2 HW7
      have F8 : Fr (fun _ => False) w w8 := F7.trans f8 (fun i hi e => by have := O8.row e.1; omega)
      have P8 := P7.fr f8 (fun e => by have := (O8.row e.1).2.2; omega)
      have X8 := X7.fr f8 (fun e => by have := (O8.row e.1).2.2; omega)
      have Q8 := Q7.fr f8 (fun e => by have := (O8.row e.1).2.2; omega)
      have C8 := C7.fr f8 (fun e => by have := (O8.row e.1).2.2; omega)
      have B8 := B9.fr f8 (fun e => hne e.1 e.2.symm)
      have N8 := (HNC.out.quiet F67).fr f8 (fun hp e => by have := (O8.row e.1).2.2; have := hb3 hp; omega)
      have hs8 := F8.size
      have p0 : w8.cell? ⟨w.heap.size, 0, none⟩ = some (.int .i64 X) := by rw [P8.cell]; rfl
      have p1 : w8.cell? ⟨w.heap.size, 1, none⟩ = some (.int .i64 Y) := by rw [P8.cell]; rfl
      have p2 : w8.cell? ⟨w.heap.size, 2, none⟩ = some (.slice a n cap) := by rw [P8.cell]; rfl
      have x0 : w8.cell? ⟨w.heap.size + 1, 0, none⟩ = some (.int .i64 lv) := by rw [X8.cell]; rfl
      have x1 : w8.cell? ⟨w.heap.size + 1, 1, none⟩ = some (.int .i64 o) := by rw [X8.cell]; rfl
      have x2 : w8.cell? ⟨w.heap.size + 1, 2, none⟩ = some (.int .i64 bx) := by rw [X8.cell]; rfl
      have x3 : w8.cell? ⟨w.heap.size + 1, 3, none⟩ = some (.int .i64 by') := by rw [X8.cell]; rfl
      have x4 : w8.cell? ⟨w.heap.size + 1, 4, none⟩ = some (.int .i64 bw) := by rw [X8.cell]; rfl
      have x5 : w8.cell? ⟨w.heap.size + 1, 5, none⟩ = some (.int .i64 bh) := by rw [X8.cell]; rfl
      have q0 : w8.cell? ⟨w.heap.size + 2, 0, none⟩ = some (.int .i64 QX) := by rw [Q8.cell]; rfl
      have q1 : w8.cell? ⟨w.heap.size + 2, 1, none⟩ = some (.int .i64 QY) := by rw [Q8.cell]; rfl
      have q2 : w8.cell? ⟨w.heap.size + 2, 2, none⟩ = some (.slice a' m cap') := by rw [Q8.cell]; rfl
      clear P7 X7 Q7 C7 F7 F67 B9 O7 f8 HLay
      go_wp2_with fail
      refine (HLaid.out w8 F8).mono ?_
      rintro e w9 ⟨a2, cap2, b2, rfl, N9, f9⟩
      clear p0 p1 p2 x0 x1 x2 x3 x4 x5 q0 q1 q2
      obtain ⟨W10, hW10⟩ : ∃ W10, W10 = w9.alloc (.cells #[.int .i64 X, .int .i64 Y, .slice a2 n cap2] 38) := ⟨_, rfl⟩
      obtain ⟨b10, hb10⟩ : ∃ b, b = w9.heap.size := ⟨_, rfl⟩
      have f10 : Fr (fun _ => False) w8 W10 := by rw [hW10]; exact f9.alloc _
      have N10 : Nums W10 a2 n cap2 V2 b2 := by rw [hW10]; exact N9.quiet ((Fr.refl _ w9).alloc _)
      have B10 : Blk W10 b10 #[.int .i64 X, .int .i64 Y, .slice a2 n cap2] 38 := by rw [hW10, hb10]; exact Blk.new _ _ _
      have P10 := P8.fr f10 (fun h => h)
      have X10 := X8.fr f10 (fun h => h)
      have C10 := C8.fr f10 (fun h => h)
      have B11 := B8.fr f10 (fun h => h)
      have O10 := O8.quiet f10
      have NC10 := N8.quiet f10
      have F10 := F8.trans' f10
      have HW10 := hid hW10
      have HB10 := hid hb10
      have HSame := hid (rsame_any X Y a8 n k8 V2 b8 X Y a2 n cap2 V2 b2 W10 O10.nums N10)
      rw [sameV_self] at HSame
      have s0 : W10.cell? ⟨b9, 0, none⟩ = some (.int .i64 X) := by rw [B11.cell]; rfl
      have s1 : W10.cell? ⟨b9, 1, none⟩ = some (.int .i64 Y) := by rw [B11.cell]; rfl
      have s2 : W10.cell? ⟨b9, 2, none⟩ = some (.slice a8 n k8) := by rw [B11.cell]; rfl
      have t0 : W10.cell? ⟨b10, 0, none⟩ = some (.int .i64 X) := by rw [B10.cell]; rfl
      have t1 : W10.cell? ⟨b10, 1, none⟩ = some (.int .i64 Y) := by rw [B10.cell]; rfl
      have t2 : W10.cell? ⟨b10, 2, none⟩ = some (.slice a2 n cap2) := by rw [B10.cell]; rfl
      rw [HW10.out] at s0 s1 s2
      rw [HW10.out, HB10.out] at t0 t1 t2
      clear hW10 hb10 P8 X8 Q8 C8 B8 N8 O8 F8 f9 f10 N9 N10 B10
      go_wp2_with fail
      rw [← HW10.out]
      refine HSame.out.mono ?_
      rintro e w11 ⟨rfl, f11⟩
      have P11 := P10.fr f11 (fun h => h)
      have X11 := X10.fr f11 (fun h => h)
      have C11 := C10.fr f11 (fun h => h)
      have B12 := B11.fr f11 (fun h => h)
      have O11 := O10.quiet f11
      have NC11 := NC10.quiet f11
      have F11 := F10.trans' f11
      clear s0 s1 s2 t0 t1 t2 HSame HW10 HB10 P10 X10 C10 B11 O10 NC10 F10 f11
      by_cases hcn : cn = 0
      · have c0 : w11.cell? ⟨b7, 0, none⟩ = some (.int .i64 CX) := by rw [C11.cell]; rfl
        have c1 : w11.cell? ⟨b7, 1, none⟩ = some (.int .i64 CY) := by rw [C11.cell]; rfl
        have c2 : w11.cell? ⟨b7, 2, none⟩ = some (.slice ac cn kc) := by rw [C11.cell]; rfl
        have hcn' : ¬ (0 : Int) < (cn : Int) := by omega
        have HE := hid (F11.below (Nat.le_refl _) (fun _ _ h => h))
        clear P11 X11 C11 B12 O11 NC11 F11 hcn
        go_wp2
        go_ret
        exact ⟨rfl, HE.out⟩
      · have hcp : 0 < cn := by omega
        have hcn' : (0 : Int) < (cn : Int) := by omega
        have HBk := hid (HBack.out hcp w11 a8 k8 b8 W6.heap.size ac kc bc O11 NC11)
        have c0 : w11.cell? ⟨b7, 0, none⟩ = some (.int .i64 CX) := by rw [C11.cell]; rfl
        have c1 : w11.cell? ⟨b7, 1, none⟩ = some (.int .i64 CY) := by rw [C11.cell]; rfl
        have c2 : w11.cell? ⟨b7, 2, none⟩ = some (.slice ac cn kc) := by rw [C11.cell]; rfl
        have x0 : w11.cell? ⟨w.heap.size + 1, 0, none⟩ = some (.int .i64 lv) := by rw [X11.cell]; rfl
        have x1 : w11.cell? ⟨w.heap.size + 1, 1, none⟩ = some (.int .i64 o) := by rw [X11.cell]; rfl
        have x2 : w11.cell? ⟨w.heap.size + 1, 2, none⟩ = some (.int .i64 bx) := by rw [X11.cell]; rfl
        have x3 : w11.cell? ⟨w.heap.size + 1, 3, none⟩ = some (.int .i64 by') := by rw [X11.cell]; rfl
        have x4 : w11.cell? ⟨w.heap.size + 1, 4, none⟩ = some (.int .i64 bw) := by rw [X11.cell]; rfl
        have x5 : w11.cell? ⟨w.heap.size + 1, 5, none⟩ = some (.int .i64 bh) := by rw [X11.cell]; rfl
        have s0 : w11.cell? ⟨b9, 0, none⟩ = some (.int .i64 X) := by rw [B12.cell]; rfl
        have s1 : w11.cell? ⟨b9, 1, none⟩ = some (.int .i64 Y) := by rw [B12.cell]; rfl
        have s2 : w11.cell? ⟨b9, 2, none⟩ = some (.slice a8 n k8) := by rw [B12.cell]; rfl
        clear C11 NC11 O11 hcn hcp X11
        go_wp2_with fail
        refine HBk.out.mono ?_
        rintro e w12 ⟨r, rfl, O12, f12⟩
        have F12 : Fr (fun _ => False) w w12 := F11.trans f12 (fun i hi e => by have := (O12.row e.1).2.2; omega)
        have P12 := P11.fr f12 (fun e => by have := (O12.row e.1).2.2; omega)
        have B13 := B12.fr f12 (fun e => hne e.1 e.2.symm)
        have HS := hid (rsame_any X Y a8 n k8 V b8 X Y a n cap V p w12 O12.nums (HN.out.quiet F12))
        rw [sameV_self] at HS
        clear c0 c1 c2 x0 x1 x2 x3 x4 x5 s0 s1 s2
        have s0 : w12.cell? ⟨b9, 0, none⟩ = some (.int .i64 X) := by rw [B13.cell]; rfl
        have s1 : w12.cell? ⟨b9, 1, none⟩ = some (.int .i64 Y) := by rw [B13.cell]; rfl
        have s2 : w12.cell? ⟨b9, 2, none⟩ = some (.slice a8 n k8) := by rw [B13.cell]; rfl
        have p0 : w12.cell? ⟨w.heap.size, 0, none⟩ = some (.int .i64 X) := by rw [P12.cell]; rfl
        have p1 : w12.cell? ⟨w.heap.size, 1, none⟩ = some (.int .i64 Y) := by rw [P12.cell]; rfl
        have p2 : w12.cell? ⟨w.heap.size, 2, none⟩ = some (.slice a n cap) := by rw [P12.cell]; rfl
        clear P11 B12 F11 f12 P12 B13 O12
        go_wp2_with fail
        refine HS.out.mono ?_
        rintro e w13 ⟨rfl, f13⟩
        have HE := hid ((F12.trans' f13).below (Nat.le_refl _) (fun _ _ h => h))
        clear F12 f13 HS
        go_wp2
        go_ret
        exact ⟨rfl, HE.out⟩
end Go.Proofs.Ytgmainbgliejhaa
