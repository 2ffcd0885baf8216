/-
  Package wave: the columns of a part of a plane, each turned by a function.
-/
import Derived.Test.YtonalomagfekaaaWaveR
namespace Go.Proofs.Ytonalomagfekaaa
open Go.RowKit

/-- A row of m numbers, the first q of them as f tells. -/
def ColU (w : World) (g m q : Nat) (f : Nat → Int) : Prop := ∃ U, Row w g m U ∧ ∀ j, j < q → U j = f j
theorem ColU.fr {w w' : World} {g m q : Nat} {f : Nat → Int} {S : Nat → Prop} (h : ColU w g m q f) (F : Fr S w w') (hn : ¬ S g) : ColU w' g m q f := by
  obtain ⟨U, r, e⟩ := h
  exact ⟨U, r.fr F hn, e⟩
theorem ColU.set {w : World} {g m q : Nat} {f : Nat → Int} {z : Int} (h : ColU w g m q f) (hz : z = f q) : ColU (w.setCell ⟨g, q, none⟩ (.int .i64 z)) g m (q + 1) f := by
  obtain ⟨U, r, e⟩ := h
  refine ⟨_, r.set q z, fun j hj => ?_⟩
  by_cases ej : j = q
  · rw [if_pos ej, hz, ej]
  · rw [if_neg ej]; exact e j (by omega)

set_option maxHeartbeats 1000000 in
/-- Each column of a part, turned by a function. -/
theorem wcolumns_any (fn p : Nat) (T : (Nat → Int) → Nat → Int) (g n W H w h : Nat) (G : Grid) (hW : W * H = n) (hh1 : 1 ≤ h) (hw : w ≤ W) (hh : h ≤ H) (hW' : W ≤ 1024) (hH' : H ≤ 1024) (hn : n ≤ 1048576) (wd : World) (hr : Row wd g n (flatG W G)) (hI : AllG w h I64 G)
    (HFN : ∀ (x : Array Value) (w' : World), Sem.run Try.prog (callFunc fn x) w' = .ok (.enter fn x) w')
    (HT : ∀ (a : Option Addr) (cap : Nat) (U : Nat → Int) (b : Nat) (w' : World), Fr (fun k => k = g) wd w' → Nums w' a h cap U b → (∀ j, j < h → I64 (U j)) → Calls Try.prog fn #[.slice a h cap, .pointer (some ⟨p, 0, none⟩)] w' fun e w'' => MadeL w' w'' e h (T U)) :
    Calls Try.prog 48 #[.agg #[.slice (some ⟨g, 0, none⟩) n n, .int .i64 (W : Int), .int .i64 (w : Int), .int .i64 (h : Int)], .func (.func fn) #[] #[.pointer (some ⟨p, 0, none⟩)]] wd fun e w' => e = .returned (.tuple #[]) ∧ Row w' g n (flatG W (layG w h G fun y x => T (fun i => G i x) y)) ∧ Fr (fun k => k = g) wd w' := by
  have hgl := hr.lt
  have hmk : ∀ w : World, (Instr.makeSlice 23 (.int .i64 (h : Int)) (.int .i64 (h : Int))).run Try.prog w = .ok (.slice (some ⟨w.heap.size, 0, none⟩) h h) (w.alloc (.cells (madeCells #[.int .i64 0] h) 3)) := run_make_row' (P := Try.prog) 23 3 (.int .i64 0) 8 Try.underlying23 Try.info_int rfl .i64 .i64 h (by omega) (by omega)
  obtain ⟨W0, hW0⟩ : ∃ W0, W0 = (wd.alloc (.cells #[.slice (some ⟨g, 0, none⟩) n n, .int .i64 (W : Int), .int .i64 (w : Int), .int .i64 (h : Int)] 48)).alloc (.cells (madeCells #[.int .i64 0] h) 3) := ⟨_, rfl⟩
  have B0 : Blk W0 wd.heap.size #[.slice (some ⟨g, 0, none⟩) n n, .int .i64 (W : Int), .int .i64 (w : Int), .int .i64 (h : Int)] 48 := by rw [hW0]; exact (Blk.new _ _ _).alloc _
  have R0 : Row W0 g n (flatG W G) := by rw [hW0]; exact hr.quiet (((Fr.refl _ wd).alloc _).alloc _)
  have C0 : ColU W0 (wd.heap.size + 1) h 0 (fun _ => 0) := by
    rw [hW0]
    have := Row.made (wd.alloc (.cells #[.slice (some ⟨g, 0, none⟩) n n, .int .i64 (W : Int), .int .i64 (w : Int), .int .i64 (h : Int)] 48)) h
    exact ⟨_, by simpa using this, fun j hj => by omega⟩
  have F0 : Fr (fun k => k = g) wd W0 := by rw [hW0]; exact ((Fr.refl _ wd).alloc _).alloc _
  obtain ⟨gc, hgc⟩ : ∃ gc, gc = wd.heap.size + 1 := ⟨_, rfl⟩
  have hgc1 : wd.heap.size < gc := by omega
  have hgc2 : gc < W0.heap.size := by obtain ⟨U, r, _⟩ := C0; rw [hgc]; exact r.lt
  rw [← hgc] at C0
  have HB : Hid (∀ wr, Fr (fun k => k = g ∨ k = gc) W0 wr → wr.cell? ⟨wd.heap.size, 0, none⟩ = some (.slice (some ⟨g, 0, none⟩) n n) ∧ wr.cell? ⟨wd.heap.size, 1, none⟩ = some (.int .i64 (W : Int)) ∧ wr.cell? ⟨wd.heap.size, 2, none⟩ = some (.int .i64 (w : Int)) ∧ wr.cell? ⟨wd.heap.size, 3, none⟩ = some (.int .i64 (h : Int))) := by
    intro wr f
    have B1 := B0.fr f (by omega)
    exact ⟨by rw [B1.cell]; rfl, by rw [B1.cell]; rfl, by rw [B1.cell]; rfl, by rw [B1.cell]; rfl⟩
  have HGC := hid hgc
  have HW0 := hid hW0
  have HF0 := hid F0
  have HT' := hid HT
  have HFN' := hid HFN
  have HWH := hid hW
  have HI := hid hI
  obtain ⟨d0, d1, d2, d3⟩ := HB.out W0 (Fr.refl _ _)
  clear hW0 B0 F0 HT HFN hr hW hI hgc
  have HOUT : Hid (∀ wr, Fr (fun k => k = g ∨ k = gc) W0 wr → Fr (fun k => k = g) wd wr) := fun wr f => HF0.out.trans f (fun i hi e => by rcases e with e | e <;> omega)
  rw [HW0.out] at d0 d1 d2 d3
  go_enter Try.func48, Try.ntmps48
  go_wp2
  rw [← HW0.out, ← HGC.out]
  clear d0 d1 d2 d3
  go_loopw [14] (fun i wr => ∃ k : Nat, k ≤ w ∧ i = .int .i64 (k : Int) ∧ Row wr g n (flatG W (layG k h G fun y x => T (fun i => G i x) y)) ∧ ColU wr gc h 0 (fun _ => 0) ∧ Fr (fun j => j = g ∨ j = gc) W0 wr) (fun i _ => w - (intOf i).toNat)
  case atStart => exact ⟨0, Nat.zero_le _, rfl, R0.congr (fun j _ => by unfold flatG; rw [layG_none']), C0, Fr.refl _ _⟩
  case round =>
    obtain ⟨k, hk, rfl, hr, hcu, F⟩ := hrel
    by_cases hlt : k < w
    · have hki : (k : Int) < (w : Int) := by omega
      have HR := hid hr
      have HCU := hid hcu
      have HF := hid F
      clear hr hcu F R0 C0
      go_wp2
      go_loopw [19] (fun i wr => ∃ q : Nat, q ≤ h ∧ i = .int .i64 (q : Int) ∧ Row wr g n (flatG W (layG k h G fun y x => T (fun i => G i x) y)) ∧ ColU wr gc h q (fun y => G y k) ∧ Fr (fun j => j = g ∨ j = gc) W0 wr) (fun i _ => h - (intOf i).toNat)
      case atStart => 
        obtain ⟨U, r, _⟩ := HCU.out
        exact ⟨0, Nat.zero_le _, rfl, HR.out, ⟨U, r, fun j hj => by omega⟩, HF.out⟩
      case round =>
        clear HR HCU HF
        obtain ⟨q, hq, rfl, hr, hcu, F⟩ := hrel
        by_cases hlq : q < h
        · have hqi : (q : Int) < (h : Int) := by omega
          obtain ⟨c0, c1, c2, c3⟩ := HB.out wr F
          have hend := row_end HWH.out (show q < H by omega)
          obtain ⟨s, hs⟩ : ∃ s, s = q * W := ⟨_, rfl⟩
          rw [← hs] at hend
          have hsI : (q : Int) * (W : Int) = (s : Int) := by rw [hs, Int.natCast_mul]
          obtain ⟨i, hi⟩ : ∃ i, i = s + k := ⟨_, rfl⟩
          have hiI : (s : Int) + (k : Int) = (i : Int) := by omega
          have hin : i < n := by omega
          have ck := hr.cell hin
          have ev : flatG W (layG k h G fun y x => T (fun i => G i x) y) i = G q k := by rw [hi, hs, flatG_at (by omega), layG_out (by omega)]
          rw [ev] at ck
          have HZ : Hid (G q k = (fun y => G y k) q) := Eq.refl (G q k)
          generalize G q k = z at ck HZ
          obtain ⟨U, r, _⟩ := id hcu
          have cc := r.cell hlq
          have cf := r.thaw q
          have hii : (i : Int) < (n : Int) := by omega
          have HR := hid hr
          have HCU := hid hcu
          clear hr hcu r hi hs ev
          generalize U q = old at cc
          go_wp2
          go_roundw
          case rel =>
            refine ⟨q + 1, by omega, by go_num, ?_, HCU.out.set HZ.out, F.setCell (p := ⟨gc, q, none⟩) (fun _ => .inr rfl) _⟩
            exact HR.out.fr ((Fr.refl (fun j => j = gc) _).setCell (p := ⟨gc, q, none⟩) (fun _ => rfl) _) (by omega)
          case measure => simp [intOf]; omega
        · have hqi : ¬ (q : Int) < (h : Int) := by omega
          obtain ⟨U, r, eU⟩ := hcu
          have R1 := r.congr (V' := fun y => G y k) fun j hj => eU j (by omega)
          have N1 := R1.nums (by unfold maxLen; omega)
          have HR := hid hr
          have HF := hid F
          obtain ⟨wm, rfl⟩ : ∃ wm, wm = wr := ⟨_, rfl⟩
          clear hr r eU F
          go_wp2_with fail
          rw [HFN'.out]
          refine (HT'.out _ _ (fun y => G y k) gc _ (HOUT.out _ HF.out) N1 (fun j hj => HI.out j k hj hlt)).mono ?_
          rintro e w2 ⟨a2, cap2, b2, rfl, N2, _, hb2, f2⟩
          have hb2' := (hb2 (by omega)).1
          have hbig := HF.out.size
          obtain ⟨off, rfl, hc2⟩ := N2.at' (by omega)
          have R2 := HR.out.quiet f2
          have F2 := HF.out.trans f2 (fun _ _ h => False.elim h)
          have CU2 : ColU w2 gc h 0 (fun _ => 0) := ⟨_, R1.quiet f2, fun j hj => by omega⟩
          have HL : Hid (∀ wr j, Fr (fun k => k = g) w2 wr → j < h → wr.cell? ⟨b2, off + j, none⟩ = some (.int .i64 (T (fun y => G y k) j))) := by
            intro wr j f hj
            have e1 := hc2 j hj
            exact (f.cell (p := ⟨b2, off + j, none⟩) (cell_lt e1) (by show ¬ b2 = g; omega)).trans e1
          have HR2 := hid R2
          have HF2 := hid F2
          have HCU2 := hid CU2
          clear R1 N1 N2 HR HF hb2 hc2 f2 R2 F2 CU2 hbig
          go_wp2
          go_loopw [40] (fun i wr => ∃ q : Nat, q ≤ h ∧ i = .int .i64 (q : Int) ∧ Row wr g n (flatG W (colN h k q G fun y x => T (fun i => G i x) y)) ∧ Fr (fun j => j = g) w2 wr) (fun i _ => h - (intOf i).toNat)
          case atStart => exact ⟨0, Nat.zero_le _, rfl, HR2.out.congr (fun j _ => by unfold flatG; rw [colN_zero]), Fr.refl _ _⟩
          case round =>
            obtain ⟨q, hq, rfl, hr, F⟩ := hrel
            have F' := HF2.out.trans F (fun _ _ h => .inl h)
            by_cases hlq : q < h
            · have hqi : (q : Int) < (h : Int) := by omega
              obtain ⟨c0, c1, c2, c3⟩ := HB.out wr F'
              have hend := row_end HWH.out (show q < H by omega)
              obtain ⟨s, hs⟩ : ∃ s, s = q * W := ⟨_, rfl⟩
              rw [← hs] at hend
              have hsI : (q : Int) * (W : Int) = (s : Int) := by rw [hs, Int.natCast_mul]
              obtain ⟨i, hi⟩ : ∃ i, i = s + k := ⟨_, rfl⟩
              have hiI : (s : Int) + (k : Int) = (i : Int) := by omega
              have hin : i < n := by omega
              have ck := hr.cell hin
              have cf := hr.thaw i
              generalize flatG W (colN h k q G fun y x => T (fun i => G i x) y) i = old at ck
              have cl := HL.out wr q F hlq
              have HSET : Hid (∀ j, (if j = i then T (fun y => G y k) q else flatG W (colN h k q G fun y x => T (fun i => G i x) y) j) = flatG W (colN h k (q + 1) G fun y x => T (fun i => G i x) y) j) := fun j => by
                rw [hi, hs]
                exact colN_set (B := fun y x => T (fun i => G i x) y) (by omega) j
              generalize T (fun y => G y k) q = z at cl HSET
              have hii : (i : Int) < (n : Int) := by omega
              have HR := hid hr
              clear hr hi hs
              go_wp2
              go_roundw
              case rel =>
                exact ⟨q + 1, by omega, by go_num, (HR.out.set i z).congr fun j _ => HSET.out j, F.setCell (p := ⟨g, i, none⟩) (fun _ => rfl) _⟩
              case measure => simp [intOf]; omega
            · have hqi : ¬ (q : Int) < (h : Int) := by omega
              obtain rfl : q = h := by omega
              have HR := hid (hr.congr (V' := flatG W (layG (k + 1) q G fun y x => T (fun i => G i x) y)) (fun j _ => by unfold flatG; rw [colN_end]))
              have HC := hid (HCU2.out.fr F (by omega))
              clear hr
              go_wp2
              go_roundw
              case rel => exact ⟨k + 1, by omega, by go_num, HR.out, HC.out, F'⟩
              case measure => simp [intOf]; omega
    · have hki : ¬ (k : Int) < (w : Int) := by omega
      obtain rfl : k = w := by omega
      have HR := hid hr
      clear hr
      go_wp2
      go_end0
      exact ⟨rfl, HR.out, HOUT.out _ F⟩
end Go.Proofs.Ytonalomagfekaaa
