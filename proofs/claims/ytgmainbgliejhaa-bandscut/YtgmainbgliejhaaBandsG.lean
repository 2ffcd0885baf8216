/-
  Package bands: Lay.
-/
import Derived.Test.YtgmainbgliejhaaBandsF
import Derived.Test.YtgmainbgliejhaaBandsE
namespace Go.Proofs.Ytgmainbgliejhaa
open Go.RowKit Go.Shelf

attribute [local go_sem] Oper.semAt_some

theorem keepsFrom_of_fr {S : Nat → Prop} {B : Nat} {A C : World} (f : Fr S A C) (hS : ∀ k, B ≤ k → ¬ S k) : KeepsFrom B A C := ⟨f.size, fun k _ hB hk _ => (f.block k (Array.getElem?_eq_some_iff.1 hk).1 (hS k hB)).trans hk⟩

set_option maxRecDepth 100000 in
set_option maxHeartbeats 2000000 in
theorem blay_go (x y : Nat) (g n cap : Nat) (V : Nat → Int) (lv o : Int) (b : BandN) (a' : Option Addr) (m cap' : Nat) (Q : Nat → Int) (p' : Nat) (w : World) (hx : 1 ≤ x) (hx' : x ≤ 1024) (hy : 1 ≤ y) (hy' : y ≤ 1024) (hm : x * y = n) (h : RowC w g n V) (hle : n ≤ cap) (hw1 : 1 ≤ b.w) (hh1 : 1 ≤ b.h) (hbx : b.x + b.w ≤ x) (hby : b.y + b.h ≤ y) (hm2 : b.w * b.h = m) (h' : Nums w a' m cap' Q p') :
    Calls Try.prog 19 #[.agg #[.int .i64 (x : Int), .int .i64 (y : Int), .slice (some ⟨g, 0, none⟩) n cap], .agg #[.int .i64 lv, .int .i64 o, .int .i64 (b.x : Int), .int .i64 (b.y : Int), .int .i64 (b.w : Int), .int .i64 (b.h : Int)], .agg #[.int .i64 (b.w : Int), .int .i64 (b.h : Int), .slice a' m cap']] w fun e w' => e = .returned (.bool true) ∧ RowC w' g n (putF x b V Q) ∧ Fr (fun j => j = g) w w' := by
  have hn : n ≤ 1048576 := by rw [← hm]; exact mul_most hx' hy'
  have hR : rightP x y n = true := by rw [← hm]; exact rightP_of hx hx' hy hy'
  have hbw' : b.w ≤ 1024 := by omega
  have hbh' : b.h ≤ 1024 := by omega
  have hR2 : rightP b.w b.h m = true := by rw [← hm2]; exact rightP_of hw1 hbw' hh1 hbh'
  have hmm : m ≤ 1048576 := by rw [← hm2]; exact mul_most hbw' hbh'
  have hwi : withinB x y n b.x b.y b.w b.h = true := withinB_iff.2 ⟨hR, by omega, by omega, by omega, by omega, by omega, by omega⟩
  have hgl := h.lt
  have HG := hid h
  have HQ := hid h'
  clear h h'
  obtain ⟨W, hW⟩ : ∃ W, W = ((w.alloc (.cells #[.int .i64 (x : Int), .int .i64 (y : Int), .slice (some ⟨g, 0, none⟩) n cap] 38)).alloc (.cells #[.int .i64 lv, .int .i64 o, .int .i64 (b.x : Int), .int .i64 (b.y : Int), .int .i64 (b.w : Int), .int .i64 (b.h : Int)] 31)).alloc (.cells #[.int .i64 (b.w : Int), .int .i64 (b.h : Int), .slice a' m cap'] 38) := ⟨_, rfl⟩
  have F0 : Fr (fun _ => False) w W := by rw [hW]; exact (((Fr.refl _ w).alloc _).alloc _).alloc _
  have O0 : Blk W w.heap.size #[.int .i64 (x : Int), .int .i64 (y : Int), .slice (some ⟨g, 0, none⟩) n cap] 38 := by rw [hW]; exact ((Blk.new _ _ _).alloc _).alloc _
  have O1 : Blk W (w.heap.size + 1) #[.int .i64 lv, .int .i64 o, .int .i64 (b.x : Int), .int .i64 (b.y : Int), .int .i64 (b.w : Int), .int .i64 (b.h : Int)] 31 := by
    rw [hW]
    have := Blk.new (w.alloc (.cells #[.int .i64 (x : Int), .int .i64 (y : Int), .slice (some ⟨g, 0, none⟩) n cap] 38)) #[.int .i64 lv, .int .i64 o, .int .i64 (b.x : Int), .int .i64 (b.y : Int), .int .i64 (b.w : Int), .int .i64 (b.h : Int)] 31
    simp at this
    exact this.alloc _
  have O2 : Blk W (w.heap.size + 2) #[.int .i64 (b.w : Int), .int .i64 (b.h : Int), .slice a' m cap'] 38 := by
    rw [hW]
    have := Blk.new ((w.alloc (.cells #[.int .i64 (x : Int), .int .i64 (y : Int), .slice (some ⟨g, 0, none⟩) n cap] 38)).alloc (.cells #[.int .i64 lv, .int .i64 o, .int .i64 (b.x : Int), .int .i64 (b.y : Int), .int .i64 (b.w : Int), .int .i64 (b.h : Int)] 31)) #[.int .i64 (b.w : Int), .int .i64 (b.h : Int), .slice a' m cap'] 38
    simpa using this
  have HW := hid hW
  clear hW
  refine (callsIn_wide (n := 5)).1 ?_
  refine callsIn_of_wp_marks Try.func19 rfl trivial ?_ rfl
  simp only [Try.ntmps19, List.size_toArray, List.length_cons, List.length_nil, Nat.reduceAdd, Nat.reduceSub, Array.replicate_succ, Array.replicate_zero, List.push_toArray, List.append_toArray, List.nil_append, List.cons_append]
  gi_wp2_with fail
  refine ⟨trivial, ?_⟩
  rw [← HW.out]
  refine (callsIn_wide.2 (bwithin_any x y _ n cap lv o b.x b.y b.w b.h W (by omega) (by omega) (by omega))).mono ?_
  rintro e w1 ⟨rfl, f1⟩
  rw [hwi]
  have P0 := O0.fr f1 (fun h => h)
  have P1 := O1.fr f1 (fun h => h)
  have P2 := O2.fr f1 (fun h => h)
  have F1 := F0.trans' f1
  have c0 : w1.cell? ⟨w.heap.size + 2, 0, none⟩ = some (.int .i64 (b.w : Int)) := by rw [P2.cell]; rfl
  have c1 : w1.cell? ⟨w.heap.size + 2, 1, none⟩ = some (.int .i64 (b.h : Int)) := by rw [P2.cell]; rfl
  have c2 : w1.cell? ⟨w.heap.size + 2, 2, none⟩ = some (.slice a' m cap') := by rw [P2.cell]; rfl
  gi_wp2_with fail
  refine ⟨trivial, ?_⟩
  refine (callsIn_wide.2 (pright_any b.w b.h a' m cap' w1)).mono ?_
  rintro e w2 ⟨rfl, f2⟩
  rw [hR2]
  have Q0 := P0.fr f2 (fun h => h)
  have Q1 := P1.fr f2 (fun h => h)
  have Q2 := P2.fr f2 (fun h => h)
  have F2 := F1.trans' f2
  have e0 : w2.cell? ⟨w.heap.size + 2, 0, none⟩ = some (.int .i64 (b.w : Int)) := by rw [Q2.cell]; rfl
  have e1 : w2.cell? ⟨w.heap.size + 2, 1, none⟩ = some (.int .i64 (b.h : Int)) := by rw [Q2.cell]; rfl
  have e2 : w2.cell? ⟨w.heap.size + 2, 2, none⟩ = some (.slice a' m cap') := by rw [Q2.cell]; rfl
  have e4 : w2.cell? ⟨w.heap.size + 1, 4, none⟩ = some (.int .i64 (b.w : Int)) := by rw [Q1.cell]; rfl
  have e5 : w2.cell? ⟨w.heap.size + 1, 5, none⟩ = some (.int .i64 (b.h : Int)) := by rw [Q1.cell]; rfl
  have HP := hid (And.intro Q0 Q1)
  have HF2 := hid F2
  clear P0 P1 P2 Q0 Q1 Q2 F0 F1 F2 O0 O1 O2 f1 f2 c0 c1 c2 HW
  gi_wp2_with fail
  refine ⟨trivial, ?_⟩
  refine (callsIn_wide.2 (prows_go b.w b.h a' m cap' Q p' w2 hR2 (HQ.out.quiet HF2.out) hmm)).mono ?_
  rintro e w4 ⟨bh, bv, bw, gc, rfl, B0, B1, B2, r4, g0, g1, g2, g3, _, _, _, _, _, _, f4⟩
  have hs2 := HF2.out.size
  have l0 := B1.lt
  have l1 := B2.lt
  have l2 := r4.lt
  have s1 := HP.out.2.lt
  have s4 := f4.size
  have HF4 := hid (HF2.out.trans' f4)
  have HR4 := hid (HG.out.quiet HF4.out)
  have HSeq : Hid (∀ (l : Nat) (J : Nat → World → Prop), AbidesFrom (w4.heap.size + 2) J → (∀ k r W1, k < b.h → J k W1 → RowTold Q b.w w4.heap.size k r W1 → YieldAt Fence.wide (5 - 1 - 1) Try.prog l #[.int .i64 (k : Int), .slice (some ⟨r, 0, none⟩) b.w b.w] W1 fun e W' => e = .returned (.bool true) ∧ J (k + 1) W' ∧ KeepR bv bw gc W1 W') → ∀ W, Below w4.heap.size w4 W → J 0 W →
      CallsIn Fence.wide (5 - 1) Try.prog 40 (#[.func (.yield l) #[] #[]] ++ #[.pointer (some ⟨bh, 0, none⟩), .pointer (some ⟨bv, 0, none⟩), .pointer (some ⟨bw, 0, none⟩)]) W fun e W' => (∃ v, e = .returned v) ∧ J b.h W') := by
    intro l J hA hY W hW h0
    obtain ⟨cs, hb, hsz, hc⟩ := r4
    exact prows1_val 4 (by omega) l bh bv bw gc b.w b.h m w4.heap.size _ Q hw1 hbw' hbh' hm2 J hA hY W hW.size (B0.of_block (hW.block bh B0.lt)) (B1.of_block (hW.block bv B1.lt)) (B2.of_block (hW.block bw B2.lt)) ⟨cs, hb.of_block (hW.block gc hb.lt), hsz, hc⟩ h0
  have HK : Hid (∀ wr, Fr (fun j => j = g) w4 wr → Blk wr w.heap.size #[.int .i64 (x : Int), .int .i64 (y : Int), .slice (some ⟨g, 0, none⟩) n cap] 38 ∧ Blk wr (w.heap.size + 1) #[.int .i64 lv, .int .i64 o, .int .i64 (b.x : Int), .int .i64 (b.y : Int), .int .i64 (b.w : Int), .int .i64 (b.h : Int)] 31) := fun wr f => ⟨(HP.out.1.fr f4 (fun h => h)).fr f (by omega), (HP.out.2.fr f4 (fun h => h)).fr f (by omega)⟩
  clear B0 B1 B2 r4 f4 HP HQ HG
  gi_wp2_with fail
  refine wpIn_rangeVal rfl (by omega) (gf := 40) (lb := #[.pointer (some ⟨bh, 0, none⟩), .pointer (some ⟨bv, 0, none⟩), .pointer (some ⟨bw, 0, none⟩)]) rfl trivial (enters_of Try.func40 (by kernel_rfl) rfl)
    b.h (fun k r => #[.int .i64 (k : Int), .slice (some ⟨r, 0, none⟩) b.w b.w]) (fun k r => RowTold Q b.w w4.heap.size k r) (KeepR bv bw gc) HSeq.out KeepR.trans (KeepR.put l0 l1 l2) (fun _ _ => rfl)
    (fun k W => RowC W g n (putK x k b V Q) ∧ Fr (fun j => j = g) w4 W)
    (fun s A B row hs hgr hr => ⟨hs.1.fr (fr_of_grown hgr hr) (by omega), fr_owned hs.2 (Nat.le_refl _) hgr hr⟩)
    (fun k r => rowTold_own _ _ _ _ _ _)
    ⟨HR4.out.congr (fun j _ => (putK_zero x b V Q j).symm), Fr.refl _ _⟩
    (fun k r => { tmps := #[.agg #[.int .i64 (x : Int), .int .i64 (y : Int), .slice (some ⟨g, 0, none⟩) n cap], .agg #[.int .i64 lv, .int .i64 o, .int .i64 (b.x : Int), .int .i64 (b.y : Int), .int .i64 (b.w : Int), .int .i64 (b.h : Int)], .agg #[.int .i64 (b.w : Int), .int .i64 (b.h : Int), .slice a' m cap'], .pointer (some ⟨w.heap.size, 0, none⟩), .pointer (some ⟨w.heap.size + 1, 0, none⟩), .pointer (some ⟨w.heap.size + 1 + 1, 0, none⟩), .bool false, .int .i64 (k : Int), .slice (some ⟨r, 0, none⟩) b.w b.w, .agg #[.int .i64 (x : Int), .int .i64 (y : Int), .slice (some ⟨g, 0, none⟩) n cap], .agg #[.int .i64 lv, .int .i64 o, .int .i64 (b.x : Int), .int .i64 (b.y : Int), .int .i64 (b.w : Int), .int .i64 (b.h : Int)], .bool true, .bool false, .bool false, .agg #[.int .i64 (b.w : Int), .int .i64 (b.h : Int), .slice a' m cap'], .bool true, .bool false, .bool false, .bool false, .pointer (some ⟨w.heap.size + 1 + 1, 0, none⟩), .int .i64 (b.w : Int), .pointer (some ⟨w.heap.size + 1, 4, none⟩), .int .i64 (b.w : Int), .bool false, .bool false, .bool false, .pointer (some ⟨w.heap.size + 1 + 1, 1, none⟩), .int .i64 (b.h : Int), .pointer (some ⟨w.heap.size + 1, 5, none⟩), .int .i64 (b.h : Int), .bool false, .bool false, .agg #[.int .i64 (b.w : Int), .int .i64 (b.h : Int), .slice a' m cap'], .func (.func 40) #[] #[.pointer (some ⟨bh, 0, none⟩), .pointer (some ⟨bv, 0, none⟩), .pointer (some ⟨bw, 0, none⟩)], .int .i64 (k : Int), .slice (some ⟨r, 0, none⟩) b.w b.w, undef, undef, undef, undef, undef, undef], defers := [] }) ?assign ?body ?done
  case assign =>
    intro l k r W K hK
    gi_wp2
    exact hK
  case body =>
    rintro l k r W hk ⟨hr, F⟩ hv
    obtain ⟨K0, K1⟩ := HK.out W F
    obtain ⟨t, ht⟩ : ∃ t, (b.y + k) * x + b.x = t := ⟨_, rfl⟩
    have HRow := hid (brow_go x y k lv o b g 0 n cap W hx' hm hn hle hw1 hbx (by omega) hy' t ht)
    have hte := row_end hm (show b.y + k < y by omega)
    have HSET : Hid (∀ j, (if t ≤ j ∧ j < t + b.w then Q (k * b.w + (j - t)) else putK x k b V Q j) = putK x (k + 1) b V Q j) := fun j => by
      rw [← ht]
      exact putK_step hw1 hbx hk j
    have htn : t + b.w ≤ n := by omega
    have c0 : W.cell? ⟨w.heap.size, 0, none⟩ = some (.int .i64 (x : Int)) := by rw [K0.cell]; rfl
    have c1 : W.cell? ⟨w.heap.size, 1, none⟩ = some (.int .i64 (y : Int)) := by rw [K0.cell]; rfl
    have c2 : W.cell? ⟨w.heap.size, 2, none⟩ = some (.slice (some ⟨g, 0, none⟩) n cap) := by rw [K0.cell]; rfl
    have d0 : W.cell? ⟨w.heap.size + 1, 0, none⟩ = some (.int .i64 lv) := by rw [K1.cell]; rfl
    have d1 : W.cell? ⟨w.heap.size + 1, 1, none⟩ = some (.int .i64 o) := by rw [K1.cell]; rfl
    have d2 : W.cell? ⟨w.heap.size + 1, 2, none⟩ = some (.int .i64 (b.x : Int)) := by rw [K1.cell]; rfl
    have d3 : W.cell? ⟨w.heap.size + 1, 3, none⟩ = some (.int .i64 (b.y : Int)) := by rw [K1.cell]; rfl
    have d4 : W.cell? ⟨w.heap.size + 1, 4, none⟩ = some (.int .i64 (b.w : Int)) := by rw [K1.cell]; rfl
    have d5 : W.cell? ⟨w.heap.size + 1, 5, none⟩ = some (.int .i64 (b.h : Int)) := by rw [K1.cell]; rfl
    have HR := hid hr
    have HV := hid hv
    have hFs := F.size
    clear hr hv K0 K1 ht hte
    gi_wp2_with fail
    refine ⟨trivial, ?_⟩
    refine (CallsIn.inRound l (callsIn_wide.2 HRow.out)).mono ?_
    rintro e w6 ⟨rfl, f6⟩
    obtain ⟨w8, hrun, R8, f8⟩ := copy_part (HR.out.quiet f6) t b.w b.w (cap - t) htn (Nat.le_refl _) ((HV.out.1.quiet f6).nums (by unfold maxLen; omega)) hw1 3
    have f9 : Fr (fun j => j = g) W w8 := (f6.mono (S' := fun j => j = g) (fun _ _ h => h.elim)).trans f8 (fun _ _ h => h)
    have HE : Hid (KeepsFrom w4.heap.size W w8 ∧ KeepR bv bw gc W w8 ∧ RowC w8 g n (putK x (k + 1) b V Q) ∧ Fr (fun j => j = g) w4 w8) :=
      ⟨keepsFrom_of_fr f9 (fun k hk e => by omega), ⟨f9.size, Keep3.of_fr f9 ⟨by omega, by omega⟩ ⟨by omega, by omega⟩ ⟨by omega, by omega⟩⟩, R8.congr (fun j _ => HSET.out j), F.trans f9 (fun _ _ h => h)⟩
    clear R8 f8 f9 f6 F
    rw [Nat.zero_add]
    gi_wp2
    exact HE.out
  case done =>
    rintro D W hD ⟨hr, F⟩ hK
    have HR := hid (hr.congr (V' := putF x b V Q) (fun j _ => putK_end x b V Q j))
    have HD := hid hK
    have HF := hid F
    clear hr hK F
    gi_wp2
    refine ⟨by simp, .inl ⟨_, _, rfl, run_takeDeferred HD.out, ?_⟩⟩
    have fE : Fr (fun j => j = D) W (W.putObj D (.deferred none)) := (Fr.refl _ W).grown (grownBy_putObj' _ D (.deferred none)) (fun k e _ => by cases e; rfl)
    refine ⟨_, results_tmp rfl _ _ _, rfl, HR.out.fr fE (by omega), ?_⟩
    exact (((HF4.out.mono (S' := fun j => j = g) (fun _ _ h => h.elim)).trans HF.out (fun _ _ h => h)).mono (S' := fun j => j = g ∨ j = D) (fun _ _ h => .inl h)).trans fE (fun i hi e => .inr e) |>.mono (fun i hi e => by omega)

/-- May a plane be laid into another? -/
def layB (X Y : Int) (n : Nat) (bx by' bw bh QX QY : Int) (m : Nat) : Bool := withinB X Y n bx by' bw bh && rightP QX QY m && decide (QX = bw) && decide (QY = bh)
theorem layB_iff {X Y : Int} {n : Nat} {bx by' bw bh QX QY : Int} {m : Nat} : layB X Y n bx by' bw bh QX QY m = true ↔ withinB X Y n bx by' bw bh = true ∧ rightP QX QY m = true ∧ QX = bw ∧ QY = bh := by
  simp [layB, and_assoc]

set_option maxHeartbeats 1000000 in
theorem blay_no (X Y : Int) (a : Option Addr) (n cap : Nat) (lv o bx by' bw bh QX QY : Int) (a' : Option Addr) (m cap' : Nat) (w : World) (ux : bx ≤ 9223372036854775807) (uw : bw ≤ 9223372036854775807) (uh : bh ≤ 9223372036854775807) (hno : layB X Y n bx by' bw bh QX QY m = false) :
    Calls Try.prog 19 #[.agg #[.int .i64 X, .int .i64 Y, .slice a n cap], .agg #[.int .i64 lv, .int .i64 o, .int .i64 bx, .int .i64 by', .int .i64 bw, .int .i64 bh], .agg #[.int .i64 QX, .int .i64 QY, .slice a' m cap']] w fun e w' => e = .returned (.bool false) ∧ Fr (fun _ => False) w w' := by
  obtain ⟨W, hW⟩ : ∃ W, W = ((w.alloc (.cells #[.int .i64 X, .int .i64 Y, .slice a n cap] 38)).alloc (.cells #[.int .i64 lv, .int .i64 o, .int .i64 bx, .int .i64 by', .int .i64 bw, .int .i64 bh] 31)).alloc (.cells #[.int .i64 QX, .int .i64 QY, .slice a' m cap'] 38) := ⟨_, rfl⟩
  have F0 : Fr (fun _ => False) w W := by rw [hW]; exact (((Fr.refl _ w).alloc _).alloc _).alloc _
  have O0 : Blk W w.heap.size #[.int .i64 X, .int .i64 Y, .slice a n cap] 38 := by rw [hW]; exact ((Blk.new _ _ _).alloc _).alloc _
  have O1 : Blk W (w.heap.size + 1) #[.int .i64 lv, .int .i64 o, .int .i64 bx, .int .i64 by', .int .i64 bw, .int .i64 bh] 31 := by
    rw [hW]
    have := Blk.new (w.alloc (.cells #[.int .i64 X, .int .i64 Y, .slice a n cap] 38)) #[.int .i64 lv, .int .i64 o, .int .i64 bx, .int .i64 by', .int .i64 bw, .int .i64 bh] 31
    simp at this
    exact this.alloc _
  have O2 : Blk W (w.heap.size + 2) #[.int .i64 QX, .int .i64 QY, .slice a' m cap'] 38 := by
    rw [hW]
    have := Blk.new ((w.alloc (.cells #[.int .i64 X, .int .i64 Y, .slice a n cap] 38)).alloc (.cells #[.int .i64 lv, .int .i64 o, .int .i64 bx, .int .i64 by', .int .i64 bw, .int .i64 bh] 31)) #[.int .i64 QX, .int .i64 QY, .slice a' m cap'] 38
    simpa using this
  have HW := hid hW
  clear hW
  cases hwi : withinB X Y n bx by' bw bh with
  | false =>
    clear hno
    go_enter Try.func19, Try.ntmps19
    go_wp2_with fail
    rw [← HW.out]
    refine (bwithin_any X Y a n cap lv o bx by' bw bh W ux uw uh).mono ?_
    rintro e w1 ⟨rfl, f1⟩
    rw [hwi]
    have HF := hid (F0.trans' f1)
    clear f1 F0 O0 O1 O2 HW hwi
    go_wp2
    go_ret
    exact ⟨rfl, HF.out⟩
  | true =>
    cases hR2 : rightP QX QY m with
    | false =>
      clear hno
      go_enter Try.func19, Try.ntmps19
      go_wp2_with fail
      rw [← HW.out]
      refine (bwithin_any X Y a n cap lv o bx by' bw bh W ux uw uh).mono ?_
      rintro e w1 ⟨rfl, f1⟩
      rw [hwi]
      have P0 := O0.fr f1 (fun h => h)
      have P1 := O1.fr f1 (fun h => h)
      have P2 := O2.fr f1 (fun h => h)
      have F1 := F0.trans' f1
      have c0 : w1.cell? ⟨w.heap.size + 2, 0, none⟩ = some (.int .i64 QX) := by rw [P2.cell]; rfl
      have c1 : w1.cell? ⟨w.heap.size + 2, 1, none⟩ = some (.int .i64 QY) := by rw [P2.cell]; rfl
      have c2 : w1.cell? ⟨w.heap.size + 2, 2, none⟩ = some (.slice a' m cap') := by rw [P2.cell]; rfl
      clear O0 O1 O2 F0 f1 HW
      go_wp2_with fail
      refine (pright_any QX QY a' m cap' w1).mono ?_
      rintro e w2 ⟨rfl, f2⟩
      rw [hR2]
      have HF := hid (F1.trans' f2)
      clear P0 P1 P2 F1 f2
      go_wp2
      go_ret
      exact ⟨rfl, HF.out⟩
    | true =>
      by_cases hq : QX = bw
      · have hh : ¬ QY = bh := fun h => by rw [← Bool.not_eq_true, layB_iff] at hno; exact hno ⟨hwi, hR2, hq, h⟩
        subst hq
        clear hno
        go_enter Try.func19, Try.ntmps19
        go_wp2_with fail
        rw [← HW.out]
        refine (bwithin_any X Y a n cap lv o bx by' QX bh W ux uw uh).mono ?_
        rintro e w1 ⟨rfl, f1⟩
        rw [hwi]
        have P0 := O0.fr f1 (fun h => h)
        have P1 := O1.fr f1 (fun h => h)
        have P2 := O2.fr f1 (fun h => h)
        have F1 := F0.trans' f1
        have c0 : w1.cell? ⟨w.heap.size + 2, 0, none⟩ = some (.int .i64 QX) := by rw [P2.cell]; rfl
        have c1 : w1.cell? ⟨w.heap.size + 2, 1, none⟩ = some (.int .i64 QY) := by rw [P2.cell]; rfl
        have c2 : w1.cell? ⟨w.heap.size + 2, 2, none⟩ = some (.slice a' m cap') := by rw [P2.cell]; rfl
        clear O0 O1 O2 F0 f1 HW
        go_wp2_with fail
        refine (pright_any QX QY a' m cap' w1).mono ?_
        rintro e w2 ⟨rfl, f2⟩
        rw [hR2]
        have HF := hid (F1.trans' f2)
        have Q1 := P1.fr f2 (fun h => h)
        have Q2 := P2.fr f2 (fun h => h)
        have e0 : w2.cell? ⟨w.heap.size + 2, 0, none⟩ = some (.int .i64 QX) := by rw [Q2.cell]; rfl
        have e1 : w2.cell? ⟨w.heap.size + 2, 1, none⟩ = some (.int .i64 QY) := by rw [Q2.cell]; rfl
        have e4 : w2.cell? ⟨w.heap.size + 1, 4, none⟩ = some (.int .i64 QX) := by rw [Q1.cell]; rfl
        have e5 : w2.cell? ⟨w.heap.size + 1, 5, none⟩ = some (.int .i64 bh) := by rw [Q1.cell]; rfl
        clear P0 P1 P2 F1 f2 Q1 Q2 c0 c1 c2
        go_wp2
        go_ret
        exact ⟨rfl, HF.out⟩
      · clear hno
        go_enter Try.func19, Try.ntmps19
        go_wp2_with fail
        rw [← HW.out]
        refine (bwithin_any X Y a n cap lv o bx by' bw bh W ux uw uh).mono ?_
        rintro e w1 ⟨rfl, f1⟩
        rw [hwi]
        have P0 := O0.fr f1 (fun h => h)
        have P1 := O1.fr f1 (fun h => h)
        have P2 := O2.fr f1 (fun h => h)
        have F1 := F0.trans' f1
        have c0 : w1.cell? ⟨w.heap.size + 2, 0, none⟩ = some (.int .i64 QX) := by rw [P2.cell]; rfl
        have c1 : w1.cell? ⟨w.heap.size + 2, 1, none⟩ = some (.int .i64 QY) := by rw [P2.cell]; rfl
        have c2 : w1.cell? ⟨w.heap.size + 2, 2, none⟩ = some (.slice a' m cap') := by rw [P2.cell]; rfl
        clear O0 O1 O2 F0 f1 HW
        go_wp2_with fail
        refine (pright_any QX QY a' m cap' w1).mono ?_
        rintro e w2 ⟨rfl, f2⟩
        rw [hR2]
        have HF := hid (F1.trans' f2)
        have Q1 := P1.fr f2 (fun h => h)
        have Q2 := P2.fr f2 (fun h => h)
        have e0 : w2.cell? ⟨w.heap.size + 2, 0, none⟩ = some (.int .i64 QX) := by rw [Q2.cell]; rfl
        have e1 : w2.cell? ⟨w.heap.size + 2, 1, none⟩ = some (.int .i64 QY) := by rw [Q2.cell]; rfl
        have e4 : w2.cell? ⟨w.heap.size + 1, 4, none⟩ = some (.int .i64 bw) := by rw [Q1.cell]; rfl
        have e5 : w2.cell? ⟨w.heap.size + 1, 5, none⟩ = some (.int .i64 bh) := by rw [Q1.cell]; rfl
        clear P0 P1 P2 F1 f2 Q1 Q2 c0 c1 c2
        go_wp2
        go_ret
        exact ⟨rfl, HF.out⟩
end Go.Proofs.Ytgmainbgliejhaa
