/-
  Package bands: Cut.
-/
import Derived.Test.YtgmainbgliejhaaBandsD
namespace Go.Proofs.Ytgmainbgliejhaa
open Go.RowKit

set_option maxRecDepth 100000 in
set_option maxHeartbeats 2000000 in
theorem bcut_go (x y : Nat) (a : Option Addr) (n cap : Nat) (V : Nat → Int) (p : Nat) (lv o : Int) (b : BandN) (w : World) (hx : 1 ≤ x) (hx' : x ≤ 1024) (hy : 1 ≤ y) (hy' : y ≤ 1024) (hm : x * y = n) (h : Nums w a n cap V p) (hw1 : 1 ≤ b.w) (hh1 : 1 ≤ b.h) (hbx : b.x + b.w ≤ x) (hby : b.y + b.h ≤ y) :
    Calls Try.prog 16 #[.agg #[.int .i64 (x : Int), .int .i64 (y : Int), .slice a n cap], .agg #[.int .i64 lv, .int .i64 o, .int .i64 (b.x : Int), .int .i64 (b.y : Int), .int .i64 (b.w : Int), .int .i64 (b.h : Int)]] w fun e w' => Made w w' e b.w b.h (b.w * b.h) (cutF x b V) := by
  have hn : n ≤ 1048576 := by rw [← hm]; exact mul_most hx' hy'
  have hR : rightP x y n = true := by rw [← hm]; exact rightP_of hx hx' hy hy'
  have hpos : 0 < n := by rw [← hm]; exact Nat.mul_pos (by omega) (by omega)
  have hbw' : b.w ≤ 1024 := by omega
  have hbh' : b.h ≤ 1024 := by omega
  have hwi : withinB x y n b.x b.y b.w b.h = true := withinB_iff.2 ⟨hR, by omega, by omega, by omega, by omega, by omega, by omega⟩
  have HNew := hid (fun w => pnew_go b.w b.h hw1 hbw' hh1 hbh' w)
  obtain ⟨m, hm2⟩ : ∃ m, b.w * b.h = m := ⟨_, rfl⟩
  rw [hm2] at HNew ⊢
  have hmm : m ≤ 1048576 := by rw [← hm2]; exact mul_most hbw' hbh'
  obtain ⟨off, rfl, hc⟩ := h.at' hpos
  have hle := h.le
  have HN := hid h
  obtain ⟨W, hW⟩ : ∃ W, W = ((w.alloc (.cells #[.int .i64 (x : Int), .int .i64 (y : Int), .slice (some ⟨p, off, none⟩) n cap] 38)).alloc (.cells #[.int .i64 lv, .int .i64 o, .int .i64 (b.x : Int), .int .i64 (b.y : Int), .int .i64 (b.w : Int), .int .i64 (b.h : Int)] 31)).alloc (.cells #[.int .i64 0, .int .i64 0, .slice none 0 0] 38) := ⟨_, rfl⟩
  have F0 : Fr (fun _ => False) w W := by rw [hW]; exact (((Fr.refl _ w).alloc _).alloc _).alloc _
  have O0 : Blk W w.heap.size #[.int .i64 (x : Int), .int .i64 (y : Int), .slice (some ⟨p, off, none⟩) n cap] 38 := by rw [hW]; exact ((Blk.new _ _ _).alloc _).alloc _
  have O1 : Blk W (w.heap.size + 1) #[.int .i64 lv, .int .i64 o, .int .i64 (b.x : Int), .int .i64 (b.y : Int), .int .i64 (b.w : Int), .int .i64 (b.h : Int)] 31 := by
    rw [hW]
    have := Blk.new (w.alloc (.cells #[.int .i64 (x : Int), .int .i64 (y : Int), .slice (some ⟨p, off, none⟩) n cap] 38)) #[.int .i64 lv, .int .i64 o, .int .i64 (b.x : Int), .int .i64 (b.y : Int), .int .i64 (b.w : Int), .int .i64 (b.h : Int)] 31
    simp at this
    exact this.alloc _
  have O2 : Blk W (w.heap.size + 2) #[.int .i64 0, .int .i64 0, .slice none 0 0] 38 := by
    rw [hW]
    have := Blk.new ((w.alloc (.cells #[.int .i64 (x : Int), .int .i64 (y : Int), .slice (some ⟨p, off, none⟩) n cap] 38)).alloc (.cells #[.int .i64 lv, .int .i64 o, .int .i64 (b.x : Int), .int .i64 (b.y : Int), .int .i64 (b.w : Int), .int .i64 (b.h : Int)] 31)) #[.int .i64 0, .int .i64 0, .slice none 0 0] 38
    simpa using this
  have a0 : W.cell? ⟨w.heap.size, 0, none⟩ = some (.int .i64 (x : Int)) := by rw [O0.cell]; rfl
  have a1 : W.cell? ⟨w.heap.size, 1, none⟩ = some (.int .i64 (y : Int)) := by rw [O0.cell]; rfl
  have a2 : W.cell? ⟨w.heap.size, 2, none⟩ = some (.slice (some ⟨p, off, none⟩) n cap) := by rw [O0.cell]; rfl
  have HW := hid hW
  clear hW h hc
  go_enter Try.func16, Try.ntmps16
  rw [HW.out] at a0 a1 a2
  go_wp2_with fail
  rw [← HW.out]
  refine (bwithin_any x y _ n cap lv o b.x b.y b.w b.h W (by omega) (by omega) (by omega)).mono ?_
  rintro e w1 ⟨rfl, f1⟩
  rw [hwi]
  have P0 := O0.fr f1 (fun h => h)
  have P1 := O1.fr f1 (fun h => h)
  have P2 := O2.fr f1 (fun h => h)
  have F1 := F0.trans' f1
  have g4 : w1.cell? ⟨w.heap.size + 1, 4, none⟩ = some (.int .i64 (b.w : Int)) := by rw [P1.cell]; rfl
  have g5 : w1.cell? ⟨w.heap.size + 1, 5, none⟩ = some (.int .i64 (b.h : Int)) := by rw [P1.cell]; rfl
  clear a0 a1 a2
  go_wp2_with fail
  refine (HNew.out w1).mono ?_
  rintro e w2 ⟨g, rfl, r1, lg, f2⟩
  have hgl := r1.lt
  have hs1 := P2.lt
  have hs2 := f2.size
  have Q0 := P0.fr f2 (fun h => h)
  have Q1 := P1.fr f2 (fun h => h)
  have Q2 := P2.fr f2 (fun h => h)
  have F2 := F1.trans' f2
  obtain ⟨W3, hW3⟩ : ∃ W3, W3 = w2.alloc (.cells #[.int .i64 (b.w : Int), .int .i64 (b.h : Int), .slice (some ⟨g, 0, none⟩) m m] 38) := ⟨_, rfl⟩
  obtain ⟨br, hbr⟩ : ∃ br, br = w2.heap.size := ⟨_, rfl⟩
  have F3 : Fr (fun _ => False) w W3 := by rw [hW3]; exact F2.alloc _
  have S0 : Blk W3 w.heap.size #[.int .i64 (x : Int), .int .i64 (y : Int), .slice (some ⟨p, off, none⟩) n cap] 38 := by rw [hW3]; exact Q0.alloc _
  have S1 : Blk W3 (w.heap.size + 1) #[.int .i64 lv, .int .i64 o, .int .i64 (b.x : Int), .int .i64 (b.y : Int), .int .i64 (b.w : Int), .int .i64 (b.h : Int)] 31 := by rw [hW3]; exact Q1.alloc _
  have S2 : Blk W3 (w.heap.size + 2) #[.int .i64 0, .int .i64 0, .slice none 0 0] 38 := by rw [hW3]; exact Q2.alloc _
  have S3 : Blk W3 br #[.int .i64 (b.w : Int), .int .i64 (b.h : Int), .slice (some ⟨g, 0, none⟩) m m] 38 := by rw [hW3, hbr]; exact Blk.new _ _ _
  have R3 : RowC W3 g m (fun _ => 0) := by rw [hW3]; exact (r1.quiet ((Fr.refl _ w2).alloc _)).rowC
  have hgbr : g < br := by omega
  have hwg : w.heap.size + 2 < g := by omega
  have HC : Hid (∀ wr, Fr (fun j => j = g) W3 wr → (wr.cell? ⟨br, 0, none⟩ = some (.int .i64 (b.w : Int)) ∧ wr.cell? ⟨br, 1, none⟩ = some (.int .i64 (b.h : Int)) ∧ wr.cell? ⟨br, 2, none⟩ = some (.slice (some ⟨g, 0, none⟩) m m)) ∧ (wr.cell? ⟨w.heap.size, 0, none⟩ = some (.int .i64 (x : Int)) ∧ wr.cell? ⟨w.heap.size, 1, none⟩ = some (.int .i64 (y : Int)) ∧ wr.cell? ⟨w.heap.size, 2, none⟩ = some (.slice (some ⟨p, off, none⟩) n cap)) ∧ (wr.cell? ⟨w.heap.size + 1, 0, none⟩ = some (.int .i64 lv) ∧ wr.cell? ⟨w.heap.size + 1, 1, none⟩ = some (.int .i64 o) ∧ wr.cell? ⟨w.heap.size + 1, 2, none⟩ = some (.int .i64 (b.x : Int)) ∧ wr.cell? ⟨w.heap.size + 1, 3, none⟩ = some (.int .i64 (b.y : Int)) ∧ wr.cell? ⟨w.heap.size + 1, 4, none⟩ = some (.int .i64 (b.w : Int)) ∧ wr.cell? ⟨w.heap.size + 1, 5, none⟩ = some (.int .i64 (b.h : Int))) ∧ Blk wr (w.heap.size + 2) #[.int .i64 0, .int .i64 0, .slice none 0 0] 38 ∧ Fr (fun _ => False) w wr) := by
    intro wr f
    have T3 := S3.fr f (by omega)
    have T0 := S0.fr f (by omega)
    have T1 := S1.fr f (by omega)
    exact ⟨⟨by rw [T3.cell]; rfl, by rw [T3.cell]; rfl, by rw [T3.cell]; rfl⟩, ⟨by rw [T0.cell]; rfl, by rw [T0.cell]; rfl, by rw [T0.cell]; rfl⟩, ⟨by rw [T1.cell]; rfl, by rw [T1.cell]; rfl, by rw [T1.cell]; rfl, by rw [T1.cell]; rfl, by rw [T1.cell]; rfl, by rw [T1.cell]; rfl⟩, S2.fr f (by omega), F3.trans f (fun i hi e => by omega)⟩
  have HNw : Hid (∀ wr, Fr (fun j => j = g) W3 wr → Nums wr (some ⟨p, off, none⟩) n cap V p) := fun wr f => HN.out.quiet (HC.out wr f).2.2.2.2
  obtain ⟨⟨d0, d1, d2⟩, _, ⟨b0, b1, b2, b3, b4, b5⟩, _, _⟩ := HC.out W3 (Fr.refl _ _)
  have HBR := hid hbr
  have HW3 := hid hW3
  have HF3 := hid (Fr.refl (fun j => j = g) W3)
  have HR3 := hid R3
  clear O0 O1 O2 P0 P1 P2 Q0 Q1 Q2 S0 S1 S2 S3 F0 F1 F2 F3 f1 f2 r1 R3 hW3 hbr HW HN HNew hs1 hs2 lg
  rw [HW3.out] at d0 d1 d2 b0 b1 b2 b3 b4 b5
  go_wp2
  rw [← HW3.out, ← HBR.out]
  clear d0 d1 d2 b0 b1 b2 b3 b4 b5 g4 g5
  go_loopw [19] (fun i wr => ∃ k : Nat, k ≤ b.h ∧ i = .int .i64 (k : Int) ∧ RowC wr g m (cutK x k b V) ∧ Fr (fun j => j = g) W3 wr) (fun i _ => b.h - (intOf i).toNat)
  case atStart => exact ⟨0, Nat.zero_le _, rfl, HR3.out.congr (fun j _ => (cutK_zero x b V j).symm), HF3.out⟩
  case round =>
    clear HR3 HF3
    obtain ⟨k, hk, rfl, hrr2, F⟩ := hrel
    by_cases hlt : k < b.h
    · have hki : (k : Int) < (b.h : Int) := by omega
      have hend := row_end hm2 hlt
      obtain ⟨s, hs⟩ : ∃ s, s = k * b.w := ⟨_, rfl⟩
      rw [← hs] at hend
      have hsI : (k : Int) * (b.w : Int) = (s : Int) := by rw [hs, Int.natCast_mul]
      have hs' : s ≤ m := by omega
      have hne : ¬ m = s := by omega
      obtain ⟨t, ht⟩ : ∃ t, (b.y + k) * x + b.x = t := ⟨_, rfl⟩
      have HRow := hid (fun w => brow_go x y k lv o b p off n cap w hx' hm hn hle hw1 hbx (by omega) hy' t ht)
      have hte := row_end hm (show b.y + k < y by omega)
      have HNp : Hid (∀ wr, Fr (fun j => j = g) W3 wr → Nums wr (some ⟨p, off + t, none⟩) b.w (cap - t) (fun i => V (t + i)) p) := fun wr f => (HNw.out wr f).part rfl t b.w (by omega)
      have HSET : Hid (∀ j, (if s ≤ j ∧ j < s + b.w then V (t + (j - s)) else cutK x k b V j) = cutK x (k + 1) b V j) := fun j => by
        rw [hs, ← ht]
        exact cutK_step hw1 j
      have HR := hid hrr2
      clear hrr2 hs ht hte
      go_wp2
      refine weaveST 11 [.eq (Value.pointer (some ⟨br, 2, none⟩)), .eq (Value.slice (some ⟨g, 0, none⟩) m m), .eq (Value.int .i64 (k : Int)), .eq (Value.pointer (some ⟨w.heap.size + 1, 4, none⟩)), .eq (Value.int .i64 (b.w : Int)), .eq (Value.int .i64 (s : Int)), .eq (Value.slice (some ⟨g, s, none⟩) (m - s) (m - s)), .eq (Value.agg #[.int .i64 (x : Int), .int .i64 (y : Int), .slice (some ⟨p, off, none⟩) n cap]), .eq (Value.agg #[.int .i64 lv, .int .i64 o, .int .i64 (b.x : Int), .int .i64 (b.y : Int), .int .i64 (b.w : Int), .int .i64 (b.h : Int)]), .eq (Value.int .i64 (k : Int)), .eq (Value.slice (some ⟨p, off + t, none⟩) b.w (cap - t))] (by kernel_rfl) (by kernel_rfl) ?obls ?tail
      case obls =>
        simp only [List.take_succ_cons, List.take_zero]
        refine ⟨?_, ?_, ?_, ?_, ?_, ?_, ?_, ?_, ?_, ?_, ?_, trivial⟩
        · intro vals wq f h
          simp only [fillA, fillT, List.setIfInBounds_toArray, List.set_cons_succ, List.set_cons_zero, Option.getD_some, Nat.zero_add, Nat.reduceAdd]
          have fq := F.trans ((Fr.refl (fun _ => False) _).drew.trans' f) (fun _ _ h => False.elim h)
          obtain ⟨⟨d0, d1, d2⟩, ⟨c0, c1, c2⟩, ⟨b0, b1, b2, b3, b4, b5⟩, _, _⟩ := HC.out wq fq
          clear h
          go_wp2
          exact ⟨rfl, rfl, _, rfl, Fr.refl _ _, rfl⟩
        · intro vals wq f h
          simp only [fillA, fillT, List.setIfInBounds_toArray, List.set_cons_succ, List.set_cons_zero, Option.getD_some, Nat.zero_add, Nat.reduceAdd]
          have h0 : vals 0 = Value.pointer (some ⟨br, 2, none⟩) := h 0 (by kernel_rfl)
          rw [h0]
          have fq := F.trans ((Fr.refl (fun _ => False) _).drew.trans' f) (fun _ _ h => False.elim h)
          obtain ⟨⟨d0, d1, d2⟩, ⟨c0, c1, c2⟩, ⟨b0, b1, b2, b3, b4, b5⟩, _, _⟩ := HC.out wq fq
          clear h
          go_wp2
          exact ⟨rfl, rfl, _, rfl, Fr.refl _ _, rfl⟩
        · intro vals wq f h
          simp only [fillA, fillT, List.setIfInBounds_toArray, List.set_cons_succ, List.set_cons_zero, Option.getD_some, Nat.zero_add, Nat.reduceAdd]
          have fq := F.trans ((Fr.refl (fun _ => False) _).drew.trans' f) (fun _ _ h => False.elim h)
          obtain ⟨⟨d0, d1, d2⟩, ⟨c0, c1, c2⟩, ⟨b0, b1, b2, b3, b4, b5⟩, _, _⟩ := HC.out wq fq
          clear h
          go_wp2
          exact ⟨rfl, rfl, _, rfl, Fr.refl _ _, rfl⟩
        · intro vals wq f h
          simp only [fillA, fillT, List.setIfInBounds_toArray, List.set_cons_succ, List.set_cons_zero, Option.getD_some, Nat.zero_add, Nat.reduceAdd]
          have fq := F.trans ((Fr.refl (fun _ => False) _).drew.trans' f) (fun _ _ h => False.elim h)
          obtain ⟨⟨d0, d1, d2⟩, ⟨c0, c1, c2⟩, ⟨b0, b1, b2, b3, b4, b5⟩, _, _⟩ := HC.out wq fq
          clear h
          go_wp2
          exact ⟨rfl, rfl, _, rfl, Fr.refl _ _, rfl⟩
        · intro vals wq f h
          simp only [fillA, fillT, List.setIfInBounds_toArray, List.set_cons_succ, List.set_cons_zero, Option.getD_some, Nat.zero_add, Nat.reduceAdd]
          have h3 : vals 3 = Value.pointer (some ⟨w.heap.size + 1, 4, none⟩) := h 3 (by kernel_rfl)
          rw [h3]
          have fq := F.trans ((Fr.refl (fun _ => False) _).drew.trans' f) (fun _ _ h => False.elim h)
          obtain ⟨⟨d0, d1, d2⟩, ⟨c0, c1, c2⟩, ⟨b0, b1, b2, b3, b4, b5⟩, _, _⟩ := HC.out wq fq
          clear h
          go_wp2
          exact ⟨rfl, rfl, _, rfl, Fr.refl _ _, rfl⟩
        · intro vals wq f h
          simp only [fillA, fillT, List.setIfInBounds_toArray, List.set_cons_succ, List.set_cons_zero, Option.getD_some, Nat.zero_add, Nat.reduceAdd]
          have h2 : vals 2 = Value.int .i64 (k : Int) := h 2 (by kernel_rfl)
          rw [h2]
          have h4 : vals 4 = Value.int .i64 (b.w : Int) := h 4 (by kernel_rfl)
          rw [h4]
          have fq := F.trans ((Fr.refl (fun _ => False) _).drew.trans' f) (fun _ _ h => False.elim h)
          obtain ⟨⟨d0, d1, d2⟩, ⟨c0, c1, c2⟩, ⟨b0, b1, b2, b3, b4, b5⟩, _, _⟩ := HC.out wq fq
          clear h
          go_wp2
          exact ⟨rfl, rfl, _, rfl, Fr.refl _ _, rfl⟩
        · intro vals wq f h
          simp only [fillA, fillT, List.setIfInBounds_toArray, List.set_cons_succ, List.set_cons_zero, Option.getD_some, Nat.zero_add, Nat.reduceAdd]
          have h1 : vals 1 = Value.slice (some ⟨g, 0, none⟩) m m := h 1 (by kernel_rfl)
          rw [h1]
          have h5 : vals 5 = Value.int .i64 (s : Int) := h 5 (by kernel_rfl)
          rw [h5]
          have fq := F.trans ((Fr.refl (fun _ => False) _).drew.trans' f) (fun _ _ h => False.elim h)
          obtain ⟨⟨d0, d1, d2⟩, ⟨c0, c1, c2⟩, ⟨b0, b1, b2, b3, b4, b5⟩, _, _⟩ := HC.out wq fq
          clear h
          go_wp2
          exact ⟨rfl, rfl, _, rfl, Fr.refl _ _, rfl⟩
        · intro vals wq f h
          simp only [fillA, fillT, List.setIfInBounds_toArray, List.set_cons_succ, List.set_cons_zero, Option.getD_some, Nat.zero_add, Nat.reduceAdd]
          have fq := F.trans ((Fr.refl (fun _ => False) _).drew.trans' f) (fun _ _ h => False.elim h)
          obtain ⟨⟨d0, d1, d2⟩, ⟨c0, c1, c2⟩, ⟨b0, b1, b2, b3, b4, b5⟩, _, _⟩ := HC.out wq fq
          clear h
          go_wp2
          exact ⟨rfl, rfl, _, rfl, Fr.refl _ _, rfl⟩
        · intro vals wq f h
          simp only [fillA, fillT, List.setIfInBounds_toArray, List.set_cons_succ, List.set_cons_zero, Option.getD_some, Nat.zero_add, Nat.reduceAdd]
          have fq := F.trans ((Fr.refl (fun _ => False) _).drew.trans' f) (fun _ _ h => False.elim h)
          obtain ⟨⟨d0, d1, d2⟩, ⟨c0, c1, c2⟩, ⟨b0, b1, b2, b3, b4, b5⟩, _, _⟩ := HC.out wq fq
          clear h
          go_wp2
          exact ⟨rfl, rfl, _, rfl, Fr.refl _ _, rfl⟩
        · intro vals wq f h
          simp only [fillA, fillT, List.setIfInBounds_toArray, List.set_cons_succ, List.set_cons_zero, Option.getD_some, Nat.zero_add, Nat.reduceAdd]
          have fq := F.trans ((Fr.refl (fun _ => False) _).drew.trans' f) (fun _ _ h => False.elim h)
          obtain ⟨⟨d0, d1, d2⟩, ⟨c0, c1, c2⟩, ⟨b0, b1, b2, b3, b4, b5⟩, _, _⟩ := HC.out wq fq
          clear h
          go_wp2
          exact ⟨rfl, rfl, _, rfl, Fr.refl _ _, rfl⟩
        · intro vals wq f h
          simp only [fillA, fillT, List.setIfInBounds_toArray, List.set_cons_succ, List.set_cons_zero, Option.getD_some, Nat.zero_add, Nat.reduceAdd]
          have h7 : vals 7 = Value.agg #[.int .i64 (x : Int), .int .i64 (y : Int), .slice (some ⟨p, off, none⟩) n cap] := h 7 (by kernel_rfl)
          rw [h7]
          have h8 : vals 8 = Value.agg #[.int .i64 lv, .int .i64 o, .int .i64 (b.x : Int), .int .i64 (b.y : Int), .int .i64 (b.w : Int), .int .i64 (b.h : Int)] := h 8 (by kernel_rfl)
          rw [h8]
          have h9 : vals 9 = Value.int .i64 (k : Int) := h 9 (by kernel_rfl)
          rw [h9]
          have fq := F.trans ((Fr.refl (fun _ => False) _).drew.trans' f) (fun _ _ h => False.elim h)
          obtain ⟨⟨d0, d1, d2⟩, ⟨c0, c1, c2⟩, ⟨b0, b1, b2, b3, b4, b5⟩, _, _⟩ := HC.out wq fq
          clear h
          go_wp2_with fail
          refine (HRow.out wq).mono ?_
          rintro e w6 ⟨rfl, f6⟩
          go_wp2
          exact ⟨rfl, rfl, _, rfl, f6, rfl⟩
      case tail =>
        intro vals wq f h
        simp only [List.take_succ_cons, List.take_zero, fillA, fillT, List.setIfInBounds_toArray, List.set_cons_succ, List.set_cons_zero, List.drop_succ_cons, List.drop_zero, Nat.zero_add, Nat.reduceAdd]
        have h6 : vals 6 = Value.slice (some ⟨g, s, none⟩) (m - s) (m - s) := h 6 (by omega)
        rw [h6]
        have h10 : vals 10 = Value.slice (some ⟨p, off + t, none⟩) b.w (cap - t) := h 10 (by omega)
        rw [h10]
        have F7 := F.trans ((Fr.refl (fun _ => False) _).drew.trans' f) (fun _ _ h => False.elim h)
        have r7 := HR.out.quiet ((Fr.refl (fun _ => False) _).drew.trans' f)
        obtain ⟨w8, hrun, R8, f8⟩ := copy_part r7 s b.w (m - s) (m - s) hend (by omega) (HNp.out wq F7) hw1 3
        have HR8 := hid R8
        have F8 := F7.trans f8 (fun _ _ h => h)
        clear h h6 h10 r7 R8 f8 F7
        gi_wp2
        go_wp2
        go_roundw
        case rel => exact ⟨k + 1, by omega, by go_num, HR8.out.congr fun j _ => HSET.out j, F8⟩
        case measure => simp [intOf]; omega
    · have hki : ¬ (k : Int) < (b.h : Int) := by omega
      have hke : k = b.h := by omega
      rw [hke] at hrr2
      have HR := hid (hrr2.congr (V' := cutF x b V) fun j hj => cutK_end (by rw [hm2]; exact hj))
      obtain ⟨⟨d0, d1, d2⟩, _, _, BZ, FE⟩ := HC.out wr F
      have z0 : wr.cell? ⟨w.heap.size + 2, 0, none⟩ = some (.int .i64 0) := by rw [BZ.cell]; rfl
      have z1 : wr.cell? ⟨w.heap.size + 2, 1, none⟩ = some (.int .i64 0) := by rw [BZ.cell]; rfl
      have z2 : wr.cell? ⟨w.heap.size + 2, 2, none⟩ = some (.slice none 0 0) := by rw [BZ.cell]; rfl
      have zf := BZ.thaw
      have HBZ := hid BZ
      have HFE := hid FE
      clear BZ FE hrr2 F hke
      go_wp2
      refine bodyPost_ret (v := .agg #[.int .i64 (b.w : Int), .int .i64 (b.h : Int), .slice (some ⟨g, 0, none⟩) m m]) ?_ rfl ⟨some ⟨g, 0, none⟩, m, g, rfl, (HR.out.fr (fr_put3 _ _ _ _ _) (by omega)).nums (Nat.le_refl _) (by unfold maxLen; omega), fun _ => ⟨by omega, (HR.out.fr (fr_put3 _ _ _ _ _) (by omega)).intB⟩, HFE.out.put3New (by omega) _ _ _⟩
      exact results_cell_row rfl _ _ (w.heap.size + 2) 38 _ (0, 0) _ rfl (show Blk _ _ _ _ from HBZ.out.put3 _ _ _) Try.underlying38 rfl Try.info_plane

set_option maxHeartbeats 1000000 in
/-- Where the band doesn't lie in the plane there is none. -/
theorem bcut_no (X Y : Int) (a : Option Addr) (n cap : Nat) (V : Nat → Int) (lv o bx by' bw bh : Int) (w : World) (ux : bx ≤ 9223372036854775807) (uw : bw ≤ 9223372036854775807) (uh : bh ≤ 9223372036854775807) (hwi : withinB X Y n bx by' bw bh = false) :
    Calls Try.prog 16 #[.agg #[.int .i64 X, .int .i64 Y, .slice a n cap], .agg #[.int .i64 lv, .int .i64 o, .int .i64 bx, .int .i64 by', .int .i64 bw, .int .i64 bh]] w fun e w' => Made w w' e 0 0 0 V := by
  obtain ⟨W, hW⟩ : ∃ W, W = ((w.alloc (.cells #[.int .i64 X, .int .i64 Y, .slice a n cap] 38)).alloc (.cells #[.int .i64 lv, .int .i64 o, .int .i64 bx, .int .i64 by', .int .i64 bw, .int .i64 bh] 31)).alloc (.cells #[.int .i64 0, .int .i64 0, .slice none 0 0] 38) := ⟨_, rfl⟩
  have F0 : Fr (fun _ => False) w W := by rw [hW]; exact (((Fr.refl _ w).alloc _).alloc _).alloc _
  have O2 : Blk W (w.heap.size + 2) #[.int .i64 0, .int .i64 0, .slice none 0 0] 38 := by
    rw [hW]
    have := Blk.new ((w.alloc (.cells #[.int .i64 X, .int .i64 Y, .slice a n cap] 38)).alloc (.cells #[.int .i64 lv, .int .i64 o, .int .i64 bx, .int .i64 by', .int .i64 bw, .int .i64 bh] 31)) #[.int .i64 0, .int .i64 0, .slice none 0 0] 38
    simpa using this
  have HW := hid hW
  clear hW
  go_enter Try.func16, Try.ntmps16
  go_wp2_with fail
  rw [← HW.out]
  refine (bwithin_any X Y a n cap lv o bx by' bw bh W ux uw uh).mono ?_
  rintro e w1 ⟨rfl, f1⟩
  rw [hwi]
  have BZ := O2.fr f1 (fun h => h)
  have FE := F0.trans' f1
  have z0 : w1.cell? ⟨w.heap.size + 2, 0, none⟩ = some (.int .i64 0) := by rw [BZ.cell]; rfl
  have z1 : w1.cell? ⟨w.heap.size + 2, 1, none⟩ = some (.int .i64 0) := by rw [BZ.cell]; rfl
  have z2 : w1.cell? ⟨w.heap.size + 2, 2, none⟩ = some (.slice none 0 0) := by rw [BZ.cell]; rfl
  have zf := BZ.thaw
  have HBZ := hid BZ
  have HFE := hid FE
  clear BZ FE f1 F0 O2 HW hwi
  go_wp2
  refine bodyPost_ret (v := .agg #[.int .i64 0, .int .i64 0, .slice none 0 0]) ?_ rfl (Made.zero (HFE.out.put3New (by omega) _ _ _) V)
  exact results_cell_row rfl _ _ (w.heap.size + 2) 38 _ (0, 0) _ rfl (show Blk _ _ _ _ from HBZ.out.put3 (.int .i64 0) (.int .i64 0) (.slice none 0 0)) Try.underlying38 rfl Try.info_plane
end Go.Proofs.Ytgmainbgliejhaa
