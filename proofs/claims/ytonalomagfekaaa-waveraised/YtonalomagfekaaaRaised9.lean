/-
  WaveRaised: its walk.
-/
import Derived.Test.YtonalomagfekaaaFirst9
import Derived.Test.YtonalomagfekaaaWeaveU
namespace Go.Proofs.Ytonalomagfekaaa
open Go.RowKit

theorem dblN_eq (f k : Nat) (c : Int) : dblN f k c = if f = 3 then c else 2 ^ k * c := by
  induction k generalizing c with
  | zero => show c = _; split <;> simp
  | succ k ih =>
    show dblN f k (dblC f c) = _
    rw [ih]
    unfold dblC
    split
    · rfl
    · rw [Int.pow_succ, Int.mul_assoc]
theorem dblN_small {f k : Nat} {c : Int} (hk : k ≤ 6) (hc : Abs 32768 c) : Abs 2097152 (dblN f k c) := by
  rw [dblN_eq]
  unfold Abs at *
  split
  · omega
  · have : k = 0 ∨ k = 1 ∨ k = 2 ∨ k = 3 ∨ k = 4 ∨ k = 5 ∨ k = 6 := by omega
    rcases this with rfl | rfl | rfl | rfl | rfl | rfl | rfl <;> omega
theorem dblN_step {f k : Nat} {c : Int} (h : f ≠ 3) : dblN f (k + 1) c = dblN f k c * 2 := by
  rw [dblN_eq, dblN_eq, if_neg h, if_neg h, Int.pow_succ, Int.mul_comm (2 ^ k * c), ← Int.mul_assoc, Int.mul_comm 2]
theorem dblN_stay {f k : Nat} {c : Int} (h : f = 3) : dblN f (k + 1) c = dblN f k c := by
  rw [dblN_eq, dblN_eq, if_pos h, if_pos h]
theorem raise_room {d : Nat} (hd : d ≤ 4) : ((1099511627776 : Int) + 1) * 13 ^ d ≤ 117093590311632896 ∧ (32768 : Int) * 2 ^ d ≤ 1073741823 := by
  have : d = 0 ∨ d = 1 ∨ d = 2 ∨ d = 3 ∨ d = 4 := by omega
  rcases this with rfl | rfl | rfl | rfl | rfl <;> decide +kernel

set_option maxRecDepth 100000 in
set_option maxHeartbeats 2000000 in
/-- The ways that end at once. -/
theorem raised9_out (k8 : Nat) (X Y : Int) (a : Option Addr) (n cap : Nat) (h0 h1 : Int) (w : World) (hk8 : k8 < 256) (_b0 : -32768 ≤ h0 ∧ h0 ≤ 32767) (b1 : -32768 ≤ h1 ∧ h1 ≤ 32767) (hlen : (n : Int) ≤ 9223372036854775807) (hout : 4200 < n ∨ fitsP X Y n (((h0 % 65536).toNat % 5 : Nat) : Int) = false) :
    Calls Try.prog 6 #[.int .u8 (k8 : Int), .agg #[.int .i64 X, .int .i64 Y, .slice a n cap], .agg #[.int .i16 h0, .int .i16 h1]] w fun e w' => e = .returned (.bool true) ∧ Fr (fun _ => False) w w' := by
  obtain ⟨t0, ht0, ht0'⟩ : ∃ t0 : Nat, h0 % 65536 = (t0 : Int) ∧ t0 < 65536 := ⟨(h0 % 65536).toNat, by omega, by omega⟩
  obtain ⟨fi, hfi⟩ : ∃ fi, fi = k8 % 5 := ⟨_, rfl⟩
  obtain ⟨dd, hdd⟩ : ∃ dd, dd = t0 % 5 := ⟨_, rfl⟩
  have hf : fi ≤ 4 := by omega
  have hd : dd ≤ 4 := by omega
  have hfI : (k8 : Int) % 5 = (fi : Int) := by omega
  have hdI : (t0 : Int) % 5 = (dd : Int) := by omega
  have hU16 : IntKind.u16.wrap h0 = (t0 : Int) := by rw [IntKind.wrap_u16]; omega
  have hddn : dd = (h0 % 65536).toNat % 5 := by omega
  rw [← hddn] at hout
  clear hfi hdd hddn
  obtain ⟨W, hW⟩ : ∃ W, W = (w.alloc (.cells #[.int .i64 X, .int .i64 Y, .slice a n cap] 25)).alloc (.cells #[.int .i16 h0, .int .i16 h1] 37) := ⟨_, rfl⟩
  have F0 : Fr (fun _ => False) w W := by rw [hW]; exact ((Fr.refl _ w).alloc _).alloc _
  have O0 : Blk W w.heap.size #[.int .i64 X, .int .i64 Y, .slice a n cap] 25 := by rw [hW]; exact (Blk.new _ _ _).alloc _
  have O1 : Blk W (w.heap.size + 1) #[.int .i16 h0, .int .i16 h1] 37 := by
    rw [hW]
    have := Blk.new (w.alloc (.cells #[.int .i64 X, .int .i64 Y, .slice a n cap] 25)) #[.int .i16 h0, .int .i16 h1] 37
    simpa using this
  have HW := hid hW
  clear hW
  by_cases hn : 4200 < n
  · have hbig : decide (4200 < n) = true := decide_eq_true hn
    clear hout hn
    go_enter Try.func6, Try.ntmps6
    go_wp2_with fail
    rw [← HW.out]
    refine (first9_any W).mono ?_
    rintro e w1 ⟨rfl, f1⟩
    have P1 := O0.fr f1 (fun h => h)
    have H1 := O1.fr f1 (fun h => h)
    have F1 := F0.trans' f1
    have hs1 := H1.lt
    have i0 : w1.cell? ⟨w.heap.size + 1, 0, none⟩ = some (.int .i16 h0) := by rw [H1.cell]; rfl
    have i1 : w1.cell? ⟨w.heap.size + 1, 1, none⟩ = some (.int .i16 h1) := by rw [H1.cell]; rfl
    go_wp2
    go_quiet (fail)
    obtain ⟨w2, hw2⟩ : ∃ w2, w2 = w1.drewN nq := ⟨_, rfl⟩
    rw [← hw2]
    have P2 : Blk w2 w.heap.size #[.int .i64 X, .int .i64 Y, .slice a n cap] 25 := by rw [hw2]; exact P1.drewN nq
    have F2 : Fr (fun _ => False) w w2 := by rw [hw2]; exact F1.drewN nq
    clear hw2 i0 i1
    have c0 : w2.cell? ⟨w.heap.size, 0, none⟩ = some (.int .i64 X) := by rw [P2.cell]; rfl
    have c1 : w2.cell? ⟨w.heap.size, 1, none⟩ = some (.int .i64 Y) := by rw [P2.cell]; rfl
    have c2 : w2.cell? ⟨w.heap.size, 2, none⟩ = some (.slice a n cap) := by rw [P2.cell]; rfl
    go_wp2_with fail
    refine (big9_any X Y a n cap w2 hlen).mono ?_
    rintro e w3 ⟨rfl, f3⟩
    rw [hbig]
    have F3 := F2.trans' f3
    clear P2 f3 F2 c0 c1 c2 P1 H1 F1 f1
    go_wp2
    go_ret
    exact ⟨rfl, F3⟩
  · have hbig : decide (4200 < n) = false := decide_eq_false hn
    have hfit : fitsP X Y n (dd : Int) = false := by rcases hout with h | h; exact absurd h hn; exact h
    clear hout hn
    go_enter Try.func6, Try.ntmps6
    go_wp2_with fail
    rw [← HW.out]
    refine (first9_any W).mono ?_
    rintro e w1 ⟨rfl, f1⟩
    have P1 := O0.fr f1 (fun h => h)
    have H1 := O1.fr f1 (fun h => h)
    have F1 := F0.trans' f1
    have hs1 := H1.lt
    have i0 : w1.cell? ⟨w.heap.size + 1, 0, none⟩ = some (.int .i16 h0) := by rw [H1.cell]; rfl
    have i1 : w1.cell? ⟨w.heap.size + 1, 1, none⟩ = some (.int .i16 h1) := by rw [H1.cell]; rfl
    go_wp2
    go_quiet (fail)
    obtain ⟨w2, hw2⟩ : ∃ w2, w2 = w1.drewN nq := ⟨_, rfl⟩
    rw [← hw2]
    have P2 : Blk w2 w.heap.size #[.int .i64 X, .int .i64 Y, .slice a n cap] 25 := by rw [hw2]; exact P1.drewN nq
    have F2 : Fr (fun _ => False) w w2 := by rw [hw2]; exact F1.drewN nq
    clear hw2 i0 i1
    have c0 : w2.cell? ⟨w.heap.size, 0, none⟩ = some (.int .i64 X) := by rw [P2.cell]; rfl
    have c1 : w2.cell? ⟨w.heap.size, 1, none⟩ = some (.int .i64 Y) := by rw [P2.cell]; rfl
    have c2 : w2.cell? ⟨w.heap.size, 2, none⟩ = some (.slice a n cap) := by rw [P2.cell]; rfl
    go_wp2_with fail
    refine (big9_any X Y a n cap w2 hlen).mono ?_
    rintro e w3 ⟨rfl, f3⟩
    rw [hbig]
    have F3 := F2.trans' f3
    have P3 := P2.fr f3 (fun h => h)
    clear P2 f3 F2 c0 c1 c2 P1 H1 F1 f1
    have c0 : w3.cell? ⟨w.heap.size, 0, none⟩ = some (.int .i64 X) := by rw [P3.cell]; rfl
    have c1 : w3.cell? ⟨w.heap.size, 1, none⟩ = some (.int .i64 Y) := by rw [P3.cell]; rfl
    have c2 : w3.cell? ⟨w.heap.size, 2, none⟩ = some (.slice a n cap) := by rw [P3.cell]; rfl
    go_wp2_with fail
    refine (wfits_any X Y a n cap (dd : Int) w3).mono ?_
    rintro e w4 ⟨rfl, f4⟩
    rw [hfit]
    have F4 := F3.trans' f4
    clear P3 f4 F3 c0 c1 c2
    go_wp2
    go_ret
    exact ⟨rfl, F4⟩

set_option maxRecDepth 100000 in
set_option maxHeartbeats 4000000 in
theorem raised9_in (k8 : Nat) (x y : Nat) (a : Option Addr) (m cap : Nat) (V : Nat → Int) (b : Nat) (h0 h1 : Int) (w : World) (hk8 : k8 < 256) (_b0 : -32768 ≤ h0 ∧ h0 ≤ 32767) (b1 : Abs 32768 h1) (hN : Nums w a m cap V b) (hV : ∀ j, I64 (V j)) (hn : m ≤ 4200)
    (hx : 1 ≤ x) (hx' : x ≤ 1024) (hy : 1 ≤ y) (hy' : y ≤ 1024) (hm : x * y = m) (fx : FitsN ((h0 % 65536).toNat % 5) x) (fy : FitsN ((h0 % 65536).toNat % 5) y) :
    Calls Try.prog 6 #[.int .u8 (k8 : Int), .agg #[.int .i64 (x : Int), .int .i64 (y : Int), .slice a m cap], .agg #[.int .i16 h0, .int .i16 h1]] w fun e w' => e = .returned (.bool true) ∧ Fr (fun _ => False) w w' := by
  obtain ⟨t0, ht0, ht0'⟩ : ∃ t0 : Nat, h0 % 65536 = (t0 : Int) ∧ t0 < 65536 := ⟨(h0 % 65536).toNat, by omega, by omega⟩
  obtain ⟨fi, hfi⟩ : ∃ fi, fi = k8 % 5 := ⟨_, rfl⟩
  obtain ⟨dd, hdd⟩ : ∃ dd, dd = t0 % 5 := ⟨_, rfl⟩
  have hf : fi ≤ 4 := by omega
  have hd : dd ≤ 4 := by omega
  have hfI : (k8 : Int) % 5 = (fi : Int) := by omega
  have hdI : (t0 : Int) % 5 = (dd : Int) := by omega
  have hU16 : IntKind.u16.wrap h0 = (t0 : Int) := by rw [IntKind.wrap_u16]; omega
  have hddn : dd = (h0 % 65536).toNat % 5 := by omega
  rw [← hddn] at fx fy
  have hpos : 0 < m := by rw [← hm]; exact Nat.mul_pos (by omega) (by omega)
  have hfit := fitsP_go (d := dd) (by omega) hx hx' hy hy' hm fx fy
  have hbig : decide (4200 < m) = false := decide_eq_false (by omega)
  have hlen : (m : Int) ≤ 9223372036854775807 := by omega
  have b1' : -32768 ≤ h1 ∧ h1 ≤ 32768 := b1
  obtain ⟨off, rfl, hc⟩ := hN.at' hpos
  have hbl := hN.lt hpos
  obtain ⟨VA, hVA⟩ : ∃ VA, VA = flatG x (fwdW fi dd x y (gridV x V)) := ⟨_, rfl⟩
  obtain ⟨VB, hVB⟩ : ∃ VB, VB = flatG x (fwdW fi dd x y (gridV x fun j => V j + h1)) := ⟨_, rfl⟩
  have HFA : Hid (∀ w1, Nums w1 (some ⟨b, off, none⟩) m cap V b → Calls Try.prog 12 #[.int .i64 (fi : Int), .agg #[.int .i64 (x : Int), .int .i64 (y : Int), .slice (some ⟨b, off, none⟩) m cap], .int .i64 (dd : Int)] w1 fun e w' => Made w1 w' e x y m VA) := fun w1 h => by
    rw [hVA]
    exact wforward_go fi hf x y dd _ m cap V b w1 hx hx' hy hy' hm (by omega) fx fy h (fun j _ => hV j)
  have HFB0 : Hid ((∀ j, j < m → Abs 1099511627776 (V j)) → ∀ w1 g1, Nums w1 (some ⟨g1, 0, none⟩) m m (fun j => V j + h1) g1 → Calls Try.prog 12 #[.int .i64 (fi : Int), .agg #[.int .i64 (x : Int), .int .i64 (y : Int), .slice (some ⟨g1, 0, none⟩) m m], .int .i64 (dd : Int)] w1 fun e w' => Made w1 w' e x y m VB) := fun hs w1 g1 h => by
    rw [hVB]
    exact wforward_go fi hf x y dd _ m m _ g1 w1 hx hx' hy hy' hm (by omega) fx fy h (fun j hj => by have := hs j hj; unfold Abs at this; show _ ≤ V j + h1 ∧ V j + h1 ≤ _; omega)
  have HRai : Hid ((∀ j, j < m → Abs 1099511627776 (V j)) → ∀ j, j < m → VB j = VA j + (if j % x < x / 2 ^ dd ∧ j / x < y / 2 ^ dd then dblN fi dd h1 else 0)) := fun hs j hj => by
    have room := raise_room (d := dd) (by omega)
    rw [hVA, hVB]
    exact fwdW_raised (f := fi) dd (w := x) (h := y) (A := gridV x V) (B := gridV x fun j => V j + h1) (c := h1) (M := 1099511627776) (N := 32768) fx fy (by decide) room.1 b1 room.2 (fun r c hr hcc => hs _ (by rw [← hm]; exact flat_lt hcc hr)) (fun _ _ _ _ => rfl) _ _ (row_lt (by rw [hm]; exact hj)) (col_lt (by rw [hm]; exact hj))
  have HIB0 : Hid ((∀ j, j < m → Abs 1099511627776 (V j)) → ∀ j, j < m → I64 (VB j)) := fun hs j hj => by
    rw [hVB]
    exact fwdW_i64 dd fx fy (gridV_i64 hm (fun j hj => by have := hs j hj; unfold Abs at this; show _ ≤ V j + h1 ∧ V j + h1 ≤ _; omega)) _ _ (row_lt (by rw [hm]; exact hj)) (col_lt (by rw [hm]; exact hj))
  have HNew := hid (fun w1 => rnew_go x y hx hx' hy hy' w1)
  rw [hm] at HNew
  have HN := hid hN
  clear hVA hVB hfi hdd hddn fx fy hN hc hV hm
  obtain ⟨W, hW⟩ : ∃ W, W = (w.alloc (.cells #[.int .i64 (x : Int), .int .i64 (y : Int), .slice (some ⟨b, off, none⟩) m cap] 25)).alloc (.cells #[.int .i16 h0, .int .i16 h1] 37) := ⟨_, rfl⟩
  have F0 : Fr (fun _ => False) w W := by rw [hW]; exact ((Fr.refl _ w).alloc _).alloc _
  have O0 : Blk W w.heap.size #[.int .i64 (x : Int), .int .i64 (y : Int), .slice (some ⟨b, off, none⟩) m cap] 25 := by rw [hW]; exact (Blk.new _ _ _).alloc _
  have O1 : Blk W (w.heap.size + 1) #[.int .i16 h0, .int .i16 h1] 37 := by
    rw [hW]
    have := Blk.new (w.alloc (.cells #[.int .i64 (x : Int), .int .i64 (y : Int), .slice (some ⟨b, off, none⟩) m cap] 25)) #[.int .i16 h0, .int .i16 h1] 37
    simpa using this
  have HW := hid hW
  clear hW
  go_enter Try.func6, Try.ntmps6
  go_wp2_with fail
  rw [← HW.out]
  refine (first9_any W).mono ?_
  rintro e w1 ⟨rfl, f1⟩
  have P1 := O0.fr f1 (fun h => h)
  have H1 := O1.fr f1 (fun h => h)
  have F1 := F0.trans' f1
  have hs1 := H1.lt
  have i0 : w1.cell? ⟨w.heap.size + 1, 0, none⟩ = some (.int .i16 h0) := by rw [H1.cell]; rfl
  have i1 : w1.cell? ⟨w.heap.size + 1, 1, none⟩ = some (.int .i16 h1) := by rw [H1.cell]; rfl
  go_wp2
  go_quiet (fail)
  obtain ⟨w2, hw2⟩ : ∃ w2, w2 = w1.drewN nq := ⟨_, rfl⟩
  rw [← hw2]
  have P2 : Blk w2 w.heap.size #[.int .i64 (x : Int), .int .i64 (y : Int), .slice (some ⟨b, off, none⟩) m cap] 25 := by rw [hw2]; exact P1.drewN nq
  have F2 : Fr (fun _ => False) w w2 := by rw [hw2]; exact F1.drewN nq
  clear hw2 i0 i1
  have c0 : w2.cell? ⟨w.heap.size, 0, none⟩ = some (.int .i64 (x : Int)) := by rw [P2.cell]; rfl
  have c1 : w2.cell? ⟨w.heap.size, 1, none⟩ = some (.int .i64 (y : Int)) := by rw [P2.cell]; rfl
  have c2 : w2.cell? ⟨w.heap.size, 2, none⟩ = some (.slice (some ⟨b, off, none⟩) m cap) := by rw [P2.cell]; rfl
  go_wp2_with fail
  refine (big9_any x y _ m cap w2 hlen).mono ?_
  rintro e w3 ⟨rfl, f3⟩
  rw [hbig]
  have F3 := F2.trans' f3
  have P3 := P2.fr f3 (fun h => h)
  clear P2 f3 F2 c0 c1 c2 P1 H1 F1 f1
  have c0 : w3.cell? ⟨w.heap.size, 0, none⟩ = some (.int .i64 (x : Int)) := by rw [P3.cell]; rfl
  have c1 : w3.cell? ⟨w.heap.size, 1, none⟩ = some (.int .i64 (y : Int)) := by rw [P3.cell]; rfl
  have c2 : w3.cell? ⟨w.heap.size, 2, none⟩ = some (.slice (some ⟨b, off, none⟩) m cap) := by rw [P3.cell]; rfl
  go_wp2_with fail
  refine (wfits_any x y _ m cap (dd : Int) w3).mono ?_
  rintro e w4 ⟨rfl, f4⟩
  rw [hfit]
  have F4 := F3.trans' f4
  have P4 := P3.fr f4 (fun h => h)
  clear P3 f4 F3 c0 c1 c2
  have c0 : w4.cell? ⟨w.heap.size, 0, none⟩ = some (.int .i64 (x : Int)) := by rw [P4.cell]; rfl
  have c1 : w4.cell? ⟨w.heap.size, 1, none⟩ = some (.int .i64 (y : Int)) := by rw [P4.cell]; rfl
  have c2 : w4.cell? ⟨w.heap.size, 2, none⟩ = some (.slice (some ⟨b, off, none⟩) m cap) := by rw [P4.cell]; rfl
  go_wp2_with fail
  refine (HNew.out w4).mono ?_
  rintro e w5 ⟨g1, rfl, r5, lg, f5⟩
  have hgl := r5.lt
  have F5 := F4.trans' f5
  have P5 := P4.fr f5 (fun h => h)
  have hs4 := P4.lt
  obtain ⟨W6, hW6⟩ : ∃ W6, W6 = w5.alloc (.cells #[.int .i64 (x : Int), .int .i64 (y : Int), .slice (some ⟨g1, 0, none⟩) m m] 25) := ⟨_, rfl⟩
  obtain ⟨bq, hbq⟩ : ∃ bq, bq = w5.heap.size := ⟨_, rfl⟩
  have F6 : Fr (fun _ => False) w W6 := by rw [hW6]; exact F5.alloc _
  have P6 : Blk W6 w.heap.size #[.int .i64 (x : Int), .int .i64 (y : Int), .slice (some ⟨b, off, none⟩) m cap] 25 := by rw [hW6]; exact P5.alloc _
  have Q6 : Blk W6 bq #[.int .i64 (x : Int), .int .i64 (y : Int), .slice (some ⟨g1, 0, none⟩) m m] 25 := by rw [hW6, hbq]; exact Blk.new _ _ _
  have R6 : Row W6 g1 m (fun _ => 0) := by rw [hW6]; exact r5.quiet ((Fr.refl _ w5).alloc _)
  have hgb : g1 < bq := by omega
  have hwg : w.heap.size < g1 := by omega
  have HK : Hid (∀ wr, Fr (fun j => j = g1) W6 wr → Blk wr w.heap.size #[.int .i64 (x : Int), .int .i64 (y : Int), .slice (some ⟨b, off, none⟩) m cap] 25 ∧ Blk wr bq #[.int .i64 (x : Int), .int .i64 (y : Int), .slice (some ⟨g1, 0, none⟩) m m] 25 ∧ Fr (fun _ => False) w wr) := fun wr f => ⟨P6.fr f (by omega), Q6.fr f (by omega), F6.trans f (fun i hi e => by omega)⟩
  have HW6 := hid hW6
  have HBQ := hid hbq
  have d0 : W6.cell? ⟨w.heap.size, 0, none⟩ = some (.int .i64 (x : Int)) := by rw [P6.cell]; rfl
  have d1 : W6.cell? ⟨w.heap.size, 1, none⟩ = some (.int .i64 (y : Int)) := by rw [P6.cell]; rfl
  have d2 : W6.cell? ⟨w.heap.size, 2, none⟩ = some (.slice (some ⟨b, off, none⟩) m cap) := by rw [P6.cell]; rfl
  clear hW6 hbq P4 P5 F4 F5 f5 r5 c0 c1 c2 P6 Q6 F6 HNew lg
  rw [HW6.out] at d0 d1 d2
  go_wp2
  rw [← HW6.out, ← HBQ.out]
  clear d0 d1 d2
  go_loopw [47] (fun i wr => ∃ k : Nat, k ≤ m ∧ i = .int .i64 (k : Int) ∧ Row wr g1 m (fun j => if j < k then V j + h1 else 0) ∧ (∀ j, j < k → Abs 1099511627776 (V j)) ∧ Fr (fun j => j = g1) W6 wr) (fun i _ => m - (intOf i).toNat)
  case atStart => exact ⟨0, Nat.zero_le _, rfl, R6.congr (fun j _ => by simp), fun j hj => absurd hj (by omega), Fr.refl _ _⟩
  case round =>
    obtain ⟨k, hk, rfl, hr, hsm, Fk⟩ := hrel
    have HSm := hid hsm
    obtain ⟨PK, QK, FK⟩ := HK.out wr Fk
    clear hsm
    by_cases hlt : k < m
    · have hki : (k : Int) < (m : Int) := by omega
      obtain ⟨off', eo, hc⟩ := (HN.out.quiet FK).at' (by omega)
      have ev := hc k hlt
      obtain rfl : off = off' := by simpa using eo
      have ck := hr.cell hlt
      have cf := hr.thaw k
      rw [if_neg (Nat.lt_irrefl k)] at ck
      have q2 : wr.cell? ⟨bq, 2, none⟩ = some (.slice (some ⟨g1, 0, none⟩) m m) := by rw [QK.cell]; rfl
      have HR := hid hr
      obtain ⟨v, hv⟩ : ∃ v, V k = v := ⟨_, rfl⟩
      rw [hv] at ev
      have HVk := hid hv
      have HFK := hid FK
      clear hr hc eo hv PK QK FK
      by_cases hv1 : 1099511627776 < v
      · have gg1 : decide ((1099511627776 : Int) < v) = true := decide_eq_true hv1
        go_wp2
        go_ret
        exact ⟨rfl, HFK.out⟩
      · have gg1 : decide ((1099511627776 : Int) < v) = false := decide_eq_false hv1
        by_cases hv2 : v < -1099511627776
        · have gg2 : decide (v < (-1099511627776 : Int)) = true := decide_eq_true hv2
          go_wp2
          go_ret
          exact ⟨rfl, HFK.out⟩
        · have gg2 : decide (v < (-1099511627776 : Int)) = false := decide_eq_false hv2
          go_wp2
          go_roundw
          case rel =>
            refine ⟨k + 1, by omega, by go_num, (HR.out.set k (v + h1)).congr fun j hj => ?_, fun j hj => ?_, Fk.setCell (p := ⟨g1, k, none⟩) (fun _ => rfl) _⟩
            · by_cases ejk : j = k
              · subst ejk; rw [if_pos rfl, if_pos (by omega), HVk.out]
              · rw [if_neg ejk]
                by_cases hjk : j < k
                · rw [if_pos hjk, if_pos (by omega)]
                · rw [if_neg hjk, if_neg (by omega)]
            · by_cases ejk : j = k
              · subst ejk; rw [HVk.out]; unfold Abs; omega
              · exact HSm.out j (by omega)
          case measure => simp [intOf]; omega
    · have hki : ¬ (k : Int) < (m : Int) := by omega
      obtain ⟨w7, rfl⟩ : ∃ w7, w7 = wr := ⟨_, rfl⟩
      have HSm : Hid (∀ j, j < m → Abs 1099511627776 (V j)) := fun j hj => HSm.out j (by omega)
      have HIB := hid (HIB0.out HSm.out)
      have HFB := hid (fun w1 h => HFB0.out HSm.out w1 g1 h)
      have R7 := hr.congr (V' := fun j => V j + h1) fun j hj => if_pos (by omega)
      have HQ : Hid (∀ wq, Fr (fun _ => False) w7.drew wq → (wq.cell? ⟨w.heap.size, 0, none⟩ = some (.int .i64 (x : Int)) ∧ wq.cell? ⟨w.heap.size, 1, none⟩ = some (.int .i64 (y : Int)) ∧ wq.cell? ⟨w.heap.size, 2, none⟩ = some (.slice (some ⟨b, off, none⟩) m cap)) ∧ (wq.cell? ⟨bq, 0, none⟩ = some (.int .i64 (x : Int)) ∧ wq.cell? ⟨bq, 1, none⟩ = some (.int .i64 (y : Int)) ∧ wq.cell? ⟨bq, 2, none⟩ = some (.slice (some ⟨g1, 0, none⟩) m m)) ∧ Hid (Nums wq (some ⟨b, off, none⟩) m cap V b) ∧ Hid (Nums wq (some ⟨g1, 0, none⟩) m m (fun j => V j + h1) g1) ∧ w.heap.size + 1 ≤ wq.heap.size ∧ Fr (fun _ => False) w wq ∧ w.heap.size < wq.heap.size ∧ Blk wq w.heap.size #[.int .i64 (x : Int), .int .i64 (y : Int), .slice (some ⟨b, off, none⟩) m cap] 25) := by
        intro wq f
        have f' := (Fr.refl _ w7).drew.trans' f
        have p7 := PK.fr f' (fun h => h)
        have q7 := QK.fr f' (fun h => h)
        exact ⟨⟨by rw [p7.cell]; rfl, by rw [p7.cell]; rfl, by rw [p7.cell]; rfl⟩, ⟨by rw [q7.cell]; rfl, by rw [q7.cell]; rfl, by rw [q7.cell]; rfl⟩, HN.out.quiet (FK.trans' f'), (R7.quiet f').nums (by unfold maxLen; omega), by have := p7.lt; omega, FK.trans' f', p7.lt, p7⟩
      clear hr Fk PK QK FK R7 HN HIB0 HFB0 HK R6
      go_wp2
      refine weaveSQT 10 [.eq (Value.int .i64 (fi : Int)), .eq (Value.agg #[.int .i64 (x : Int), .int .i64 (y : Int), .slice (some ⟨b, off, none⟩) m cap]), .eq (Value.int .i64 (dd : Int)), .madeV w.heap.size (x : Int) (y : Int) m VA, .eq (Value.int .i64 (fi : Int)), .eq (Value.agg #[.int .i64 (x : Int), .int .i64 (y : Int), .slice (some ⟨g1, 0, none⟩) m m]), .eq (Value.int .i64 (dd : Int)), .madeV w.heap.size (x : Int) (y : Int) m VB, .box (w.heap.size + 1) #[.int .i64 0, .int .i64 0, .slice none 0 0] 25, .box (w.heap.size + 1) #[.int .i64 0, .int .i64 0, .slice none 0 0] 25] [8, 9] (by kernel_rfl) (by kernel_rfl) ?obls ?tail
      case obls =>
        simp only [List.take_succ_cons, List.take_zero]
        refine ⟨?_, ?_, ?_, ?_, ?_, ?_, ?_, ?_, ?_, ?_, trivial⟩
        · intro vals wq f h
          simp only [fillA, fillT, List.setIfInBounds_toArray, List.set_cons_succ, List.set_cons_zero, Option.getD_some, Nat.zero_add, Nat.reduceAdd]
          obtain ⟨⟨k0, k1, k2⟩, ⟨l0, l1, l2⟩, HNp, HNq, hszq, _⟩ := HQ.out wq f
          clear h
          go_wp2
          exact ⟨rfl, rfl, _, rfl, Fr.refl _ _, rfl, NewB.no (by decide)⟩
        · intro vals wq f h
          simp only [fillA, fillT, List.setIfInBounds_toArray, List.set_cons_succ, List.set_cons_zero, Option.getD_some, Nat.zero_add, Nat.reduceAdd]
          obtain ⟨⟨k0, k1, k2⟩, ⟨l0, l1, l2⟩, HNp, HNq, hszq, _⟩ := HQ.out wq f
          clear h
          go_wp2
          exact ⟨rfl, rfl, _, rfl, Fr.refl _ _, rfl, NewB.no (by decide)⟩
        · intro vals wq f h
          simp only [fillA, fillT, List.setIfInBounds_toArray, List.set_cons_succ, List.set_cons_zero, Option.getD_some, Nat.zero_add, Nat.reduceAdd]
          obtain ⟨⟨k0, k1, k2⟩, ⟨l0, l1, l2⟩, HNp, HNq, hszq, _⟩ := HQ.out wq f
          clear h
          go_wp2
          exact ⟨rfl, rfl, _, rfl, Fr.refl _ _, rfl, NewB.no (by decide)⟩
        · intro vals wq f h
          simp only [fillA, fillT, List.setIfInBounds_toArray, List.set_cons_succ, List.set_cons_zero, Option.getD_some, Nat.zero_add, Nat.reduceAdd]
          have h0 : vals 0 = Value.int .i64 (fi : Int) := h 0 (by kernel_rfl)
          rw [h0]
          have h1 : vals 1 = Value.agg #[.int .i64 (x : Int), .int .i64 (y : Int), .slice (some ⟨b, off, none⟩) m cap] := h 1 (by kernel_rfl)
          rw [h1]
          have h2 : vals 2 = Value.int .i64 (dd : Int) := h 2 (by kernel_rfl)
          rw [h2]
          obtain ⟨⟨k0, k1, k2⟩, ⟨l0, l1, l2⟩, HNp, HNq, hszq, _⟩ := HQ.out wq f
          clear h
          go_wp2_with fail
          refine (HFA.out wq HNp.out).mono ?_
          rintro e w6 ⟨a6, cp, b6, rfl, n6, i6, f6⟩
          have HN6 := hid n6
          have HI6 := hid i6
          clear n6 i6
          go_wp2
          exact ⟨rfl, rfl, _, rfl, f6, ⟨_, _, _, rfl, HN6.out, fun h => ⟨by have := (HI6.out h).1; omega, (HI6.out h).2⟩⟩, NewB.no (by decide)⟩
        · intro vals wq f h
          simp only [fillA, fillT, List.setIfInBounds_toArray, List.set_cons_succ, List.set_cons_zero, Option.getD_some, Nat.zero_add, Nat.reduceAdd]
          obtain ⟨⟨k0, k1, k2⟩, ⟨l0, l1, l2⟩, HNp, HNq, hszq, _⟩ := HQ.out wq f
          clear h
          go_wp2
          exact ⟨rfl, rfl, _, rfl, Fr.refl _ _, rfl, NewB.no (by decide)⟩
        · intro vals wq f h
          simp only [fillA, fillT, List.setIfInBounds_toArray, List.set_cons_succ, List.set_cons_zero, Option.getD_some, Nat.zero_add, Nat.reduceAdd]
          obtain ⟨⟨k0, k1, k2⟩, ⟨l0, l1, l2⟩, HNp, HNq, hszq, _⟩ := HQ.out wq f
          clear h
          go_wp2
          exact ⟨rfl, rfl, _, rfl, Fr.refl _ _, rfl, NewB.no (by decide)⟩
        · intro vals wq f h
          simp only [fillA, fillT, List.setIfInBounds_toArray, List.set_cons_succ, List.set_cons_zero, Option.getD_some, Nat.zero_add, Nat.reduceAdd]
          obtain ⟨⟨k0, k1, k2⟩, ⟨l0, l1, l2⟩, HNp, HNq, hszq, _⟩ := HQ.out wq f
          clear h
          go_wp2
          exact ⟨rfl, rfl, _, rfl, Fr.refl _ _, rfl, NewB.no (by decide)⟩
        · intro vals wq f h
          simp only [fillA, fillT, List.setIfInBounds_toArray, List.set_cons_succ, List.set_cons_zero, Option.getD_some, Nat.zero_add, Nat.reduceAdd]
          have h4 : vals 4 = Value.int .i64 (fi : Int) := h 4 (by kernel_rfl)
          rw [h4]
          have h5 : vals 5 = Value.agg #[.int .i64 (x : Int), .int .i64 (y : Int), .slice (some ⟨g1, 0, none⟩) m m] := h 5 (by kernel_rfl)
          rw [h5]
          have h6 : vals 6 = Value.int .i64 (dd : Int) := h 6 (by kernel_rfl)
          rw [h6]
          obtain ⟨⟨k0, k1, k2⟩, ⟨l0, l1, l2⟩, HNp, HNq, hszq, _⟩ := HQ.out wq f
          clear h
          go_wp2_with fail
          refine (HFB.out wq HNq.out).mono ?_
          rintro e w6 ⟨a6, cp, b6, rfl, n6, i6, f6⟩
          have HN6 := hid n6
          have HI6 := hid i6
          clear n6 i6
          go_wp2
          exact ⟨rfl, rfl, _, rfl, f6, ⟨_, _, _, rfl, HN6.out, fun h => ⟨by have := (HI6.out h).1; omega, (HI6.out h).2⟩⟩, NewB.no (by decide)⟩
        · intro vals wq f h
          simp only [fillA, fillT, List.setIfInBounds_toArray, List.set_cons_succ, List.set_cons_zero, Option.getD_some, Nat.zero_add, Nat.reduceAdd]
          obtain ⟨⟨k0, k1, k2⟩, ⟨l0, l1, l2⟩, HNp, HNq, hszq, _⟩ := HQ.out wq f
          clear h
          have HB := hid (Blk.new wq #[.int .i64 0, .int .i64 0, .slice none 0 0] 25)
          go_wp2
          exact ⟨rfl, rfl, _, rfl, (Fr.refl _ wq).alloc _, ⟨wq.heap.size, rfl, HB.out, hszq⟩, fun _ => ⟨wq.heap.size, rfl, Nat.le_refl _, by simp⟩⟩
        · intro vals wq f h
          simp only [fillA, fillT, List.setIfInBounds_toArray, List.set_cons_succ, List.set_cons_zero, Option.getD_some, Nat.zero_add, Nat.reduceAdd]
          obtain ⟨⟨k0, k1, k2⟩, ⟨l0, l1, l2⟩, HNp, HNq, hszq, _⟩ := HQ.out wq f
          clear h
          have HB := hid (Blk.new wq #[.int .i64 0, .int .i64 0, .slice none 0 0] 25)
          go_wp2
          exact ⟨rfl, rfl, _, rfl, (Fr.refl _ wq).alloc _, ⟨wq.heap.size, rfl, HB.out, hszq⟩, fun _ => ⟨wq.heap.size, rfl, Nat.le_refl _, by simp⟩⟩
      case tail =>
        intro vals wq f h hA
        simp only [List.take_succ_cons, List.take_zero, fillA, fillT, List.setIfInBounds_toArray, List.set_cons_succ, List.set_cons_zero, List.drop_succ_cons, List.drop_zero, Nat.zero_add, Nat.reduceAdd]
        obtain ⟨a3, k3, b3, h3, n3, i3⟩ : MadeV wq (vals 3) w.heap.size (x : Int) (y : Int) m VA := h 3 (by omega)
        rw [h3]
        obtain ⟨a7, k7, b7, h7, n7, i7⟩ : MadeV wq (vals 7) w.heap.size (x : Int) (y : Int) m VB := h 7 (by omega)
        rw [h7]
        obtain ⟨q8, h8, o8, l8⟩ : BoxAt wq (vals 8) (w.heap.size + 1) #[.int .i64 0, .int .i64 0, .slice none 0 0] 25 := h 8 (by omega)
        rw [h8]
        obtain ⟨q9, h9, o9, l9⟩ : BoxAt wq (vals 9) (w.heap.size + 1) #[.int .i64 0, .int .i64 0, .slice none 0 0] 25 := h 9 (by omega)
        rw [h9]
        have hne : q8 ≠ q9 := by have := hA 8 9 (by omega) (by omega) rfl rfl (by omega); rw [h8, h9] at this; simpa [atBlock] using this
        obtain ⟨_, _, _, _, _, FQ, PQ⟩ := HQ.out wq f
        obtain ⟨FQ, hpb⟩ : Fr (fun _ => False) w wq ∧ w.heap.size < wq.heap.size := ⟨FQ, PQ.1⟩
        have PB := PQ.2
        have ne3 := (i3 hpos).2.ne o8 (by decide)
        have ne3b := (i3 hpos).2.ne o9 (by decide)
        have ne7 := (i7 hpos).2.ne o8 (by decide)
        have ne7b := (i7 hpos).2.ne o9 (by decide)
        have z0 : wq.cell? ⟨q8, 0, none⟩ = some (.int .i64 0) := by rw [o8.cell]; rfl
        have z1 : wq.cell? ⟨q8, 1, none⟩ = some (.int .i64 0) := by rw [o8.cell]; rfl
        have z2 : wq.cell? ⟨q8, 2, none⟩ = some (.slice none 0 0) := by rw [o8.cell]; rfl
        have y0 : wq.cell? ⟨q9, 0, none⟩ = some (.int .i64 0) := by rw [o9.cell]; rfl
        have y1 : wq.cell? ⟨q9, 1, none⟩ = some (.int .i64 0) := by rw [o9.cell]; rfl
        have y2 : wq.cell? ⟨q9, 2, none⟩ = some (.slice none 0 0) := by rw [o9.cell]; rfl
        have zf := o8.thaw
        have yf := o9.thaw
        obtain ⟨w8, hw8⟩ : ∃ w8, w8 = stored3 (stored3 wq q8 (.int .i64 (x : Int)) (.int .i64 (y : Int)) (.slice a3 m k3)) q9 (.int .i64 (x : Int)) (.int .i64 (y : Int)) (.slice a7 m k7) := ⟨_, rfl⟩
        have A8 : Blk w8 q8 #[.int .i64 (x : Int), .int .i64 (y : Int), .slice a3 m k3] 25 := by rw [hw8]; exact (o8.put3 _ _ _).fr (fr_put3 _ _ _ _ _) (by omega)
        have B8 : Blk w8 q9 #[.int .i64 (x : Int), .int .i64 (y : Int), .slice a7 m k7] 25 := by rw [hw8]; exact Blk.put3 (o9.fr (fr_put3 _ _ _ _ _) (by omega)) _ _ _
        have P8 : Blk w8 w.heap.size #[.int .i64 (x : Int), .int .i64 (y : Int), .slice (some ⟨b, off, none⟩) m cap] 25 := by rw [hw8]; exact (PB.fr (fr_put3 _ _ _ _ _) (by omega)).fr (fr_put3 _ _ _ _ _) (by omega)
        have NA : Nums w8 a3 m k3 VA b3 := by rw [hw8]; exact (n3.fr (fr_put3 _ _ _ _ _) (fun _ => ne3)).fr (fr_put3 _ _ _ _ _) (fun _ => ne3b)
        have NB : Nums w8 a7 m k7 VB b7 := by rw [hw8]; exact (n7.fr (fr_put3 _ _ _ _ _) (fun _ => ne7)).fr (fr_put3 _ _ _ _ _) (fun _ => ne7b)
        have F8 : Fr (fun _ => False) w w8 := by rw [hw8]; exact (FQ.put3New (by omega) _ _ _).put3New (by omega) _ _ _
        have HW8 : Hid (w8 = ((((((wq.setCell ⟨q8, 0, none⟩ (.int .i64 (x : Int))).setCell ⟨q8, 1, none⟩ (.int .i64 (y : Int))).setCell ⟨q8, 2, none⟩ (.slice a3 m k3)).setCell ⟨q9, 0, none⟩ (.int .i64 (x : Int))).setCell ⟨q9, 1, none⟩ (.int .i64 (y : Int))).setCell ⟨q9, 2, none⟩ (.slice a7 m k7))) := hw8
        have HAP : Hid (q8 ≠ q9) := hne
        have hne1 : ¬ q8 = q9 := hne
        have hne2 : ¬ q9 = q8 := fun h => hne h.symm
        clear h h3 h7 h8 h9 n3 n7 i3 i7 o8 o9 hA hw8 ne3 ne3b ne7 ne7b FQ PB PQ hne HQ f
        gi_wp2
        obtain ⟨offA, rfl, cA⟩ := NA.at' hpos
        obtain ⟨offB, rfl, cB⟩ := NB.at' hpos
        have HCC : Hid (∀ wr j, Fr (fun _ => False) w8 wr → j < m → (wr.cell? ⟨w.heap.size, 0, none⟩ = some (.int .i64 (x : Int)) ∧ wr.cell? ⟨w.heap.size, 1, none⟩ = some (.int .i64 (y : Int)) ∧ wr.cell? ⟨w.heap.size, 2, none⟩ = some (.slice (some ⟨b, off, none⟩) m cap)) ∧ wr.cell? ⟨q8, 2, none⟩ = some (.slice (some ⟨b3, offA, none⟩) m k3) ∧ wr.cell? ⟨q9, 2, none⟩ = some (.slice (some ⟨b7, offB, none⟩) m k7) ∧ wr.cell? ⟨b3, offA + j, none⟩ = some (.int .i64 (VA j)) ∧ wr.cell? ⟨b7, offB + j, none⟩ = some (.int .i64 (VB j))) := by
          intro wr j fr hj
          have p8 := P8.fr fr (fun h => h)
          have a8 := A8.fr fr (fun h => h)
          have b8 := B8.fr fr (fun h => h)
          exact ⟨⟨by rw [p8.cell]; rfl, by rw [p8.cell]; rfl, by rw [p8.cell]; rfl⟩, by rw [a8.cell]; rfl, by rw [b8.cell]; rfl, (fr.cell (p := ⟨b3, offA + j, none⟩) (cell_lt (cA j hj)) (fun h => h)).trans (cA j hj), (fr.cell (p := ⟨b7, offB + j, none⟩) (cell_lt (cB j hj)) (fun h => h)).trans (cB j hj)⟩
        clear A8 B8 P8 NA NB cA cB
        go_wp2
        rw [← HW8.out]
        clear z0 z1 z2 y0 y1 y2 zf yf
        go_loopw [75, 9] (fun i v wr => ∃ k : Nat, k ≤ dd ∧ i = .int .i64 (k : Int) ∧ v = .int .i64 (dblN fi k h1) ∧ SameW wr w8) (fun i _ _ => dd - (intOf i).toNat)
        case atStart => exact ⟨0, Nat.zero_le _, rfl, rfl, SameW.rfl⟩
        case round =>
          obtain ⟨k, hk, rfl, rfl, hw⟩ := hrel
          obtain rfl : w8 = wr := Eq.symm hw
          have hsm := dblN_small (f := fi) (k := k) (c := h1) (by omega) b1
          by_cases hlt : k < dd
          · have hki : (k : Int) < (dd : Int) := by omega
            by_cases h3 : fi = 3
            · have e3 := dblN_stay (k := k) (c := h1) h3
              have hb3 : ((fi : Int) == 3) = true := by rw [h3]; rfl
              have hn3 : ((fi : Int) != 3) = false := by rw [h3]; rfl
              have HE3 := hid e3
              obtain ⟨v, hv⟩ : ∃ v, v = dblN fi k h1 := ⟨_, rfl⟩
              rw [← hv] at HE3 ⊢
              clear h3 e3 hw hv hsm
              go_wp2
              go_roundw
              case rel => exact ⟨k + 1, by omega, by go_num, by rw [HE3.out], SameW.rfl⟩
              case measure => simp [intOf]; omega
            · have e3 := dblN_step (k := k) (c := h1) h3
              have hb3 : ((fi : Int) == 3) = false := by simp; omega
              have hn3 : ((fi : Int) != 3) = true := by simp; omega
              have HE3 := hid e3
              obtain ⟨v, hv⟩ : ∃ v, v = dblN fi k h1 := ⟨_, rfl⟩
              rw [← hv] at HE3 hsm ⊢
              have hv1 : -2097152 ≤ v ∧ v ≤ 2097152 := hsm
              clear h3 e3 hw hv hsm
              go_wp2
              go_roundw
              case rel => exact ⟨k + 1, by omega, by go_num, by rw [HE3.out], SameW.rfl⟩
              case measure => simp [intOf]; omega
          · have hki : ¬ (k : Int) < (dd : Int) := by omega
            obtain rfl : k = dd := by omega
            obtain ⟨v, hv⟩ : ∃ v, v = dblN fi k h1 := ⟨_, rfl⟩
            have HVal : Hid (∀ j, j < m → VB j = VA j + (if j % x < x / 2 ^ k ∧ j / x < y / 2 ^ k then v else 0)) := by rw [hv]; exact HRai.out HSm.out
            rw [← hv] at hsm ⊢
            have hv1 : -2097152 ≤ v ∧ v ≤ 2097152 := hsm
            obtain ⟨⟨p0, p1, p2⟩, pa, pb, _, _⟩ := HCC.out w8 0 (Fr.refl _ _) hpos
            clear hw hv hsm
            go_wp2
            clear p0 p1 p2 pa pb
            go_loopw [85] (fun i wr => ∃ j : Nat, j ≤ m ∧ i = .int .i64 (j : Int) ∧ Fr (fun _ => False) w8 wr) (fun i _ => m - (intOf i).toNat)
            case atStart => exact ⟨0, Nat.zero_le _, rfl, Fr.refl _ _⟩
            case round =>
              obtain ⟨j, hj, rfl, Fj⟩ := hrel
              by_cases hjl : j < m
              · have hji : (j : Int) < (m : Int) := by omega
                have hkk : (k : Int) ≤ 64 := by omega
                obtain ⟨⟨p0, p1, p2⟩, pa, pb, ca, cb⟩ := HCC.out wr j Fj hjl
                have hval := HVal.out j hjl
                have hib := HIB.out j hjl
                obtain ⟨u, hu⟩ : ∃ u, u = x / 2 ^ k := ⟨_, rfl⟩
                obtain ⟨t, ht⟩ : ∃ t, t = y / 2 ^ k := ⟨_, rfl⟩
                have hsu : (x : Int) / 2 ^ k = (u : Int) := by rw [hu]; simp
                have hst : (y : Int) / 2 ^ k = (t : Int) := by rw [ht]; simp
                obtain ⟨cx, hcx⟩ : ∃ cx, cx = j % x := ⟨_, rfl⟩
                obtain ⟨ry, hry⟩ : ∃ ry, ry = j / x := ⟨_, rfl⟩
                have hXm : (j : Int) % (x : Int) = (cx : Int) := by rw [hcx, Int.natCast_emod]
                have hXd : (j : Int) / (x : Int) = (ry : Int) := by rw [hry, Int.natCast_ediv]
                have hXt : (j : Int).tdiv (x : Int) = (ry : Int) := by rw [Int.tdiv_eq_ediv_of_nonneg (by omega), hXd]
                have hry2 : ry ≤ j := by rw [hry]; exact Nat.div_le_self _ _
                have hcx2 : cx < 1025 := by have := Nat.mod_lt j (show x > 0 by omega); omega
                have hx0 : ¬ (x : Int) = 0 := by omega
                rw [← hu, ← ht, ← hcx, ← hry] at hval
                obtain ⟨za, hza⟩ : ∃ za, za = VA j := ⟨_, rfl⟩
                obtain ⟨zb, hzb⟩ : ∃ zb, zb = VB j := ⟨_, rfl⟩
                rw [← hza] at hval ca
                rw [← hzb] at hval cb hib
                have hib1 : -9223372036854775808 ≤ zb ∧ zb ≤ 9223372036854775807 := hib
                have Fq := fun nq => Fj.drewN nq
                have HFq := hid Fq
                clear hu ht hcx hry hza hzb Fq hib
                by_cases h1c : cx < u
                · have g1 : decide ((cx : Int) < (u : Int)) = true := decide_eq_true (by omega)
                  by_cases h2c : ry < t
                  · have g2 : decide ((ry : Int) < (t : Int)) = true := decide_eq_true (by omega)
                    rw [if_pos ⟨h1c, h2c⟩] at hval
                    have hne : (zb != za + v) = false := by rw [hval]; simp
                    have hzz : -9223372036854775808 ≤ za + v ∧ za + v ≤ 9223372036854775807 := by rw [← hval]; exact hib1
                    clear hval
                    go_wp2
                    go_quiet (fail)
                    go_wp2
                    go_quiet (fail)
                    go_wp2
                    go_roundw
                    case rel => exact ⟨j + 1, by omega, by go_num, Fj.drewN _⟩
                    case measure => simp [intOf]; omega
                  · have g2 : decide ((ry : Int) < (t : Int)) = false := decide_eq_false (by omega)
                    rw [if_neg (fun h => h2c h.2), Int.add_zero] at hval
                    subst hval
                    have hne : (zb != zb) = false := by simp
                    go_wp2
                    go_quiet (fail)
                    go_wp2
                    go_quiet (fail)
                    go_wp2
                    go_roundw
                    case rel => exact ⟨j + 1, by omega, by go_num, Fj.drewN _⟩
                    case measure => simp [intOf]; omega
                · have g1 : decide ((cx : Int) < (u : Int)) = false := decide_eq_false (by omega)
                  rw [if_neg (fun h => h1c h.1), Int.add_zero] at hval
                  subst hval
                  have hne : (zb != zb) = false := by simp
                  go_wp2
                  go_quiet (fail)
                  go_wp2
                  go_quiet (fail)
                  go_wp2
                  go_roundw
                  case rel => exact ⟨j + 1, by omega, by go_num, Fj.drewN _⟩
                  case measure => simp [intOf]; omega
              · have hji : ¬ (j : Int) < (m : Int) := by omega
                obtain ⟨⟨p0, p1, p2⟩, pa, pb, _, _⟩ := HCC.out wr 0 Fj hpos
                have HFe := hid (F8.trans' Fj)
                go_wp2
                go_ret
                exact ⟨rfl, HFe.out⟩

theorem raised9_walk (k8 : Nat) (X Y : Int) (a : Option Addr) (n cap : Nat) (V : Nat → Int) (h0 h1 : Int) (w : World) (hk8 : k8 < 256) (c : CellsIn w a n cap (fun i => .int .i64 (V i))) (bv : ∀ i, -9223372036854775808 ≤ V i ∧ V i ≤ 9223372036854775807) (b0 : -32768 ≤ h0 ∧ h0 ≤ 32767) (b1 : -32768 ≤ h1 ∧ h1 ≤ 32767) :
    Calls Try.prog 6 #[.int .u8 (k8 : Int), .agg #[.int .i64 X, .int .i64 Y, .slice a n cap], .agg #[.int .i16 h0, .int .i16 h1]] w fun e w' => e = .returned (.bool true) ∧ Below w.heap.size w w' := by
  obtain ⟨b, hN, _⟩ := Nums.of_in c
  have key : Calls Try.prog 6 #[.int .u8 (k8 : Int), .agg #[.int .i64 X, .int .i64 Y, .slice a n cap], .agg #[.int .i16 h0, .int .i16 h1]] w fun e w' => e = .returned (.bool true) ∧ Fr (fun _ => False) w w' := by
    by_cases hout : 4200 < n ∨ fitsP X Y n (((h0 % 65536).toNat % 5 : Nat) : Int) = false
    · exact raised9_out k8 X Y a n cap h0 h1 w hk8 b0 b1 hN.len hout
    · have hfit : fitsP X Y n (((h0 % 65536).toNat % 5 : Nat) : Int) = true := by
        cases h : fitsP X Y n (((h0 % 65536).toNat % 5 : Nat) : Int) with
        | true => rfl
        | false => exact absurd (.inr h) hout
      obtain ⟨x, y, k, rfl, rfl, hk, hx, hx', hy, hy', hm, _, fx, fy⟩ := fitsP_nat hfit
      have ek : (h0 % 65536).toNat % 5 = k := by omega
      rw [← ek] at fx fy
      exact raised9_in k8 x y a n cap V b h0 h1 w hk8 b0 ⟨b1.1, by omega⟩ hN bv (by omega) hx hx' hy hy' hm fx fy
  exact key.mono fun e w' ⟨he, f⟩ => ⟨he, f.below (Nat.le_refl _) (fun _ _ h => h)⟩
end Go.Proofs.Ytonalomagfekaaa
