/-
  Law package 5: the bytes of any bits (ArithPuts): the walk.
-/
import Derived.Test.YtkaldidfpgipfaaFirst5
import Derived.Test.YtkaldidfpgipfaaRef5B
import Derived.Test.YtkaldidfpgipfaaIsBits5
import Derived.Deep.RegionHeldLaw
import Derived.Deep.RegionHeld3
import Derived.Deep.DeepCutAuto
namespace Go.Proofs.Ytkaldidfpgipfaa
open Go.RowKit

theorem rsame_true' (w : World) (v1 v2 : Value) (A : List Int) (h1 : Reads w v1 (intRow A)) (h2 : Reads w v2 (intRow A)) (hA : A.length ≤ 1000000) :
    Calls Try.prog 14 #[v1, v2] w fun e w' => e = .returned (.bool true) ∧ Fr (fun _ => False) w w' := by
  have := rsame_any w v1 v2 A A h1 h2 hA hA
  rw [show decide (A = A) = true by simp] at this
  exact this

set_option maxRecDepth 100000 in
set_option maxHeartbeats 4000000 in
theorem puts5_walk (c : Int) (a : Option Addr) (len cap : Nat) (C : Nat → Int) (B : Nat → Bool) (w : World) (h0 : IsBits w a len C B) :
    Calls Try.prog 3 #[.int .i64 c, .slice a len cap] w fun e w' => e = .returned (.bool true) ∧ Below w.heap.size w w' := by
  have hlen : (len : Int) ≤ 9223372036854775807 := by
    rcases h0 with h | ⟨_, _, _, h, _⟩
    · omega
    · unfold maxLen at h; omega
  have H0 := hid h0
  clear h0
  obtain ⟨n1, n2, _⟩ := ctxN_bounds c
  go_enter Try.func3, Try.ntmps3
  go_wp2_with fail
  refine (first5_any _).mono ?_
  rintro e w1 ⟨rfl, F1⟩
  go_wp2_with fail
  refine (newEnc_any w1 c).mono ?_
  rintro e w3 ⟨p, g, rfl, h3, hg3, f3⟩
  have F3 : Fr (fun _ => False) w w3 := F1.trans' f3
  go_wp2_with fail
  refine (rnewEnc_any w3 c).mono ?_
  rintro e w4 ⟨px, vx, rfl, x4, hpx, hvx, f4⟩
  have h4 := h3.quiet f4
  have F4 := F3.trans' f4
  have hgw : w.heap.size ≤ g := Nat.le_trans F1.size hg3
  have hpl : p < w3.heap.size := h3.blk.lt
  have hwx : w.heap.size ≤ w3.heap.size := F3.size
  have hpxl : px < w4.heap.size := x4.blk.lt
  have hvxl : ∀ k, vx.ownBlock = some k → k < w4.heap.size := fun k hk => (x4.own.lt k hk).2
  have h34 := f4.size
  clear h3 F3 f3 f4 hg3 F1
  generalize ctxN c = n at *
  go_upto_region 4 with (fail)
  iterate 13 (first | go_values | go_skip | go_guarded | go_step | go_upon | go_back)
  go_cut [] (fun wx => ∃ (s : CS) (v : Value) (zs : List Nat) (u : Value), Good n s ∧ s.N ≤ 400 ∧ En wx p g v zs n s ∧ REn wx px u n s ∧ Fr (fun _ => False) w wx)
  case first =>
   go_wp2
   go_loopw [18] (fun i wr => ∃ (k : Nat) (s : CS) (v : Value) (zs : List Nat) (u : Value), k ≤ len ∧ k ≤ 400 ∧ i = .int .i64 (k : Int) ∧ Good n s ∧ s.N ≤ k ∧ En wr p g v zs n s ∧ REn wr px u n s ∧ (∀ j, u.ownBlock = some j → w3.heap.size ≤ j ∧ v.ownBlock ≠ some j) ∧ v.ownBlock ≠ some px ∧ Fr (fun _ => False) w wr) (fun i _ => len - (intOf i).toNat)
   case atStart => exact ⟨0, _, _, _, vx, Nat.zero_le _, Nat.zero_le _, rfl, Good.first _, Nat.le_refl _, h4, x4, fun j hj => ⟨hvx j hj, fun e => by cases e⟩, fun e => (by cases e), F4⟩
   case round =>
     clear h4 x4 F4 hvx hvxl hpxl
     obtain ⟨k, s, v5, zs5, u5, hk, hk4, rfl, hG, hN, h5, x5, hu5, hv5, F5⟩ := hrel
     have hgp := h5.gp
     by_cases hgo : k < len ∧ k < 400
     · obtain ⟨hlt, h400⟩ := hgo
       rcases H0.out with h00 | ⟨b, off, rfl, _, hall⟩
       · omega
       obtain ⟨c0, c1, g1, g2⟩ := hall k hlt
       have hbl : b < w.heap.size := cell_lt c0
       have c0' := (F5.cell (p := ⟨b, off + k * 2, none⟩) hbl (fun h => h)).trans c0
       have c1' := (F5.cell (p := ⟨b, off + k * 2 + 1, none⟩) hbl (fun h => h)).trans c1
       have hki : (k : Int) < (len : Int) := by omega
       have h4i : ¬ (400 : Int) ≤ (k : Int) := by omega
       generalize C k = y at *
       generalize B k = bb at *
       clear c0 c1 hall
       have hpl5 : p < wr.heap.size := h5.blk.lt
       have hxl5 : px < wr.heap.size := x5.blk.lt
       have hvl5 : ∀ j, v5.ownBlock = some j → p < j ∧ j < wr.heap.size := fun j hj => h5.vlt hj
       have hul5 : ∀ j, u5.ownBlock = some j → j < wr.heap.size := fun j hj => (x5.own.lt j hj).2
       obtain ⟨W7, hW7⟩ : ∃ W7, W7 = wr.alloc (.cells #[.int .i64 y, .bool bb] 29) := ⟨_, rfl⟩
       obtain ⟨nb, hnb⟩ : ∃ nb, nb = wr.heap.size := ⟨_, rfl⟩
       have B7 : Blk W7 nb #[.int .i64 y, .bool bb] 29 := by rw [hW7, hnb]; exact Blk.new wr _ _
       have h7 : En W7 p g v5 zs5 n s := by rw [hW7]; exact h5.quiet ((Fr.refl (fun _ => False) wr).alloc _)
       have x7 : REn W7 px u5 n s := by rw [hW7]; exact x5.quiet ((Fr.refl (fun _ => False) wr).alloc _)
       have F7 : Fr (fun _ => False) w W7 := by rw [hW7]; exact F5.alloc _
       have hsz7 : W7.heap.size = nb + 1 := by rw [hW7, hnb]; simp
       rw [← hnb] at hpl5 hxl5 hvl5 hul5
       have HW7 := hid hW7
       have HNB := hid hnb
       have d0 : W7.cell? ⟨nb, 0, none⟩ = some (.int .i64 y) := by rw [B7.cell]; rfl
       have d1 : W7.cell? ⟨nb, 1, none⟩ = some (.bool bb) := by rw [B7.cell]; rfl
       have h8 := h7.quiet ((Fr.refl (fun _ => False) W7).drew)
       have HP : Hid (Calls Try.prog 10 #[.pointer (some ⟨p, 0, none⟩), .int .i64 y, .bool bb] W7.drew fun e w' => e = .returned (.bool (hasX n y)) ∧ ∃ v8 zs8, En w' p g v8 zs8 n (putX n s y bb) ∧ REn w' px u5 n s ∧ w'.cell? ⟨nb, 0, none⟩ = some (.int .i64 y) ∧ w'.cell? ⟨nb, 1, none⟩ = some (.bool bb) ∧ (∀ j, u5.ownBlock = some j → v8.ownBlock ≠ some j) ∧ v8.ownBlock ≠ some px ∧ Fr (fun _ => False) w w' ∧ nb < w'.heap.size) := by
         refine (eput_any W7.drew p g v5 zs5 n s y bb h8 (by omega) (by omega) hG).mono ?_
         rintro e w8 ⟨rfl, v8, zs8, k8, st8⟩
         have st9 : EnStep p g v5 v8 W7 w8 := (EnStep.refl p g v5 W7).drew.trans st8
         have hnot : ∀ j, (j = p ∨ j = g ∨ v5.ownBlock = some j) → j < nb := by
           rintro j (e | e | e)
           · omega
           · omega
           · exact (hvl5 j e).2
         have e0 := (st9.fr.cell (p := ⟨nb, 0, none⟩) (by show nb < _; omega) (fun hh => by have := hnot _ hh; simp at this)).trans d0
         have e1 := (st9.fr.cell (p := ⟨nb, 1, none⟩) (by show nb < _; omega) (fun hh => by have := hnot _ hh; simp at this)).trans d1
         have x8 := x7.fr st9.fr (fun hh => by rcases hh with e | e | e; omega; omega; exact hv5 e) (fun j hj hh => by rcases hh with e | e | e; (have := (hu5 j hj).1; omega); (have := (hu5 j hj).1; omega); exact (hu5 j hj).2 e)
         refine ⟨rfl, v8, zs8, k8, x8, e0, e1, fun j hj e => ?_, fun e => ?_, st9.outer h7 F7 hgw, ?_⟩
         · rcases st9.at' with q | q
           · rw [q] at e; exact (hu5 j hj).2 e
           · have := q j e; have := hul5 j hj; omega
         · rcases st9.at' with q | q
           · rw [q] at e; exact hv5 e
           · have := q px e; omega
         · have := st9.fr.size; omega
       have HX : Hid (∀ (w8 : World) (v8 : Value) (zs8 : List Nat), En w8 p g v8 zs8 n (putX n s y bb) → REn w8 px u5 n s → w8.cell? ⟨nb, 0, none⟩ = some (.int .i64 y) → w8.cell? ⟨nb, 1, none⟩ = some (.bool bb) → (∀ j, u5.ownBlock = some j → v8.ownBlock ≠ some j) → v8.ownBlock ≠ some px → Fr (fun _ => False) w w8 → nb < w8.heap.size →
           Calls Try.prog 11 #[.pointer (some ⟨px, 0, none⟩), .int .i64 y, .bool bb] w8 fun e w' => e = .returned (.bool (hasX n y)) ∧ ∃ u9, En w' p g v8 zs8 n (putX n s y bb) ∧ REn w' px u9 n (putX n s y bb) ∧ w'.cell? ⟨nb, 0, none⟩ = some (.int .i64 y) ∧ w'.cell? ⟨nb, 1, none⟩ = some (.bool bb) ∧ (∀ j, u9.ownBlock = some j → w3.heap.size ≤ j ∧ v8.ownBlock ≠ some j) ∧ Fr (fun _ => False) w w') := by
         show ∀ (w8 : World) (v8 : Value) (zs8 : List Nat), _
         intro w8 v8 zs8 k8 x8 e0 e1 huv hvp F8 hnb8
         refine (rput_any w8 px u5 n s y bb x8 (by omega) (by omega) hG).mono ?_
         rintro e w9 ⟨rfl, u9, x9, f9, hu9⟩
         have k9 := k8.fr f9 (by omega) (by omega) (fun j hj e => hvp (by rw [← e]; exact hj))
         refine ⟨rfl, u9, k9, x9, (f9.cell (p := ⟨nb, 0, none⟩) hnb8 (by show ¬ nb = px; omega)).trans e0, (f9.cell (p := ⟨nb, 1, none⟩) hnb8 (by show ¬ nb = px; omega)).trans e1, fun j hj => ?_, F8.trans f9 (by intro i hi e; omega)⟩
         rcases hu9 with q | q
         · rw [q] at hj; exact ⟨(hu5 j hj).1, huv j hj⟩
         · have := q j hj
           refine ⟨by omega, fun e => ?_⟩
           have := (k8.vlt e).2; omega
       have hG9 := hG.put y bb
       have hN9 := putX_N n s y bb
       have hself : (hasX n y != hasX n y) = false := by simp
       clear hW7 hnb B7 h7 x7 h8 h5 x5 F5 hul5 hvl5 hu5 hv5
       generalize putX n s y bb = s9 at *
       generalize hasX n y = hh at *
       go_wp2
       rw [← HW7.out, ← HNB.out]
       by_cases h16 : (k : Int) % 16 = 0
       · have hd16 : ((k : Int) % 16 == 0) = true := by simpa using h16
         first | go_region_held_law (fun w' => w'.cell? ⟨nb, 0, none⟩ = some (.int .i64 y) ∧ w'.cell? ⟨nb, 1, none⟩ = some (.bool bb)) (go_keep) (first
           | (go_at_call 10; refine HP.out.mono ?_; rintro e w8 ⟨rfl, v8, zs8, k8, x8, e0, e1, huv, hvp, F8, hnb8⟩; have HX8 := hid (HX.out w8 v8 zs8 k8 x8 e0 e1 huv hvp F8 hnb8))
           | (go_at_call 11; refine HX8.out.mono ?_; rintro e w9 ⟨rfl, u9, k9, x9, m0, m1, huv9, F9⟩; have HB9 := hid (ebytes_any w9 p g v8 zs8 n s9 k9 hG9 (by omega)); have hnl9 : nb < w9.heap.size := cell_lt m0)
           | (go_at_call 12; refine HB9.out.mono ?_; rintro e w10 ⟨q10, cap10, ys, rfl, o10, T10, f10⟩; have k10 := k9.quiet f10; have x10 := x9.quiet f10; have F10 := F9.trans' f10; have m0' := (f10.cell (p := ⟨nb, 0, none⟩) hnl9 (fun h => h)).trans m0; have m1' := (f10.cell (p := ⟨nb, 1, none⟩) hnl9 (fun h => h)).trans m1; have hcv10 := conv_owned w10 _ _ ys o10; have HB10 := hid (rbytes_any w10 px u9 n s9 x10 (by omega) hG9))
           | (go_at_call 13; refine HB10.out.mono ?_; rintro e w11 ⟨u11, ys11, rfl, o11, T11, f11⟩; obtain rfl : ys = ys11 := T10.unique T11; have k11 := k10.quiet f11; have x11 := x10.quiet f11; have F11 := F10.trans' f11; have m0'' := (f11.cell (p := ⟨nb, 0, none⟩) (cell_lt m0') (fun h => h)).trans m0'; have m1'' := (f11.cell (p := ⟨nb, 1, none⟩) (cell_lt m1') (fun h => h)).trans m1'; have hcv11 := conv_owned w11 _ u11 ys o11; have hcv12 := conv_owned w11 _ _ ys (ownsRow_fr o10 f11 (fun _ _ h => h)))) | fail
         all_goals
           go_wp2
           go_roundw
           case rel => exact ⟨k + 1, s9, v8, zs8, u9, by omega, by omega, by go_num, hG9, by omega, k11, x11, huv9, hvp, F11⟩
           case measure => simp [intOf]; omega
       · have hd16 : ((k : Int) % 16 == 0) = false := by simpa using h16
         first | go_region_held_law (fun w' => w'.cell? ⟨nb, 0, none⟩ = some (.int .i64 y) ∧ w'.cell? ⟨nb, 1, none⟩ = some (.bool bb)) (go_keep) (first
           | (go_at_call 10; refine HP.out.mono ?_; rintro e w8 ⟨rfl, v8, zs8, k8, x8, e0, e1, huv, hvp, F8, hnb8⟩; have HX8 := hid (HX.out w8 v8 zs8 k8 x8 e0 e1 huv hvp F8 hnb8))
           | (go_at_call 11; refine HX8.out.mono ?_; rintro e w9 ⟨rfl, u9, k9, x9, m0, m1, huv9, F9⟩)) | fail
         all_goals
           go_wp2
           go_roundw
           case rel => exact ⟨k + 1, s9, v8, zs8, u9, by omega, by omega, by go_num, hG9, by omega, k9, x9, huv9, hvp, F9⟩
           case measure => simp [intOf]; omega
     · have hexit : (¬ (k : Int) < (len : Int)) ∨ ((k : Int) < (len : Int) ∧ (400 : Int) ≤ (k : Int)) := by omega
       rcases hexit with hki | ⟨hki, h4i⟩
       · go_wp2_with fail
         go_meet
         exact ⟨s, v5, zs5, u5, hG, by omega, h5, x5, F5⟩
       · have hlt : k < len := by omega
         rcases H0.out with h00 | ⟨b, off, rfl, _, hall⟩
         · omega
         obtain ⟨c0, c1, g1, g2⟩ := hall k hlt
         have hbl : b < w.heap.size := cell_lt c0
         have c0' := (F5.cell (p := ⟨b, off + k * 2, none⟩) hbl (fun h => h)).trans c0
         have c1' := (F5.cell (p := ⟨b, off + k * 2 + 1, none⟩) hbl (fun h => h)).trans c1
         clear c0 c1 hall hgo
         go_wp2_with fail
         go_meet
         exact ⟨s, v5, zs5, u5, hG, by omega, h5.quiet ((Fr.refl (fun _ => False) wr).alloc _), x5.quiet ((Fr.refl (fun _ => False) wr).alloc _), F5.alloc _⟩
  case rest =>
    obtain ⟨s, v5, zs5, u5, hG, hN, h5, x5, F5⟩ := hcut
    obtain ⟨a5, cap5, rfl, _⟩ := ownsRow_form x5.own
    clear h4 x4 F4 hvx hvxl hpxl H0 hlen h34 hpx hwx hpl hgw
    go_wp2
    have h6 := h5.quiet ((Fr.refl (fun _ => False) wc).drew)
    have k0 : wc.cell? ⟨px, 0, none⟩ = some (.slice a5 n cap5) := by rw [x5.blk.cell]; rfl
    have k4 : wc.cell? ⟨px, 4, none⟩ = some (.int .i64 (s.N : Int)) := by rw [x5.blk.cell]; rfl
    have hPl : s.P.length = n := h5.len
    first | go_region_held_law (fun w' => w'.cell? ⟨px, 0, none⟩ = some (.slice a5 n cap5) ∧ w'.cell? ⟨px, 4, none⟩ = some (.int .i64 (s.N : Int))) (go_keep) (first
      | (go_at_call_of 12 (Value.pointer (some ⟨p, 0, none⟩)); refine (ebytes_any _ p g v5 zs5 n s h6 hG (by omega)).mono ?_; rintro e w10 ⟨q10, cap10, ys, rfl, o10, T10, f10⟩; have x10 := x5.quiet (((Fr.refl (fun _ => False) wc).drew).trans' f10); have k10 := h6.quiet f10; have F10 := F5.drew.trans' f10; have m0 : w10.cell? ⟨px, 0, none⟩ = some (.slice a5 n cap5) := (by rw [x10.blk.cell]; rfl); have m4 : w10.cell? ⟨px, 4, none⟩ = some (.int .i64 (s.N : Int)) := (by rw [x10.blk.cell]; rfl); have hcv10 := conv_owned w10 _ _ ys o10; have HB10 := hid (rbytes_any w10 px _ n s x10 (by omega) hG))
      | (go_at_call 13; refine HB10.out.mono ?_; rintro e w11 ⟨u11, ys11, rfl, o11, T11, f11⟩; obtain rfl : ys = ys11 := T10.unique T11; have k11 := k10.quiet f11; have x11 := x10.quiet f11; have F11 := F10.trans' f11; have l0 : w11.cell? ⟨px, 0, none⟩ = some (.slice a5 n cap5) := (by rw [x11.blk.cell]; rfl); have l4 : w11.cell? ⟨px, 4, none⟩ = some (.int .i64 (s.N : Int)) := (by rw [x11.blk.cell]; rfl); have hcv11 := conv_owned w11 _ u11 ys o11; have hcv12 := conv_owned w11 _ _ ys (ownsRow_fr o10 f11 (fun _ _ h => h)))
      | (go_at_call_of 15 (Value.pointer (some ⟨p, 0, none⟩)); refine (echances_any _ p g v5 zs5 n s k11 (by omega)).mono ?_; rintro e w7 ⟨q7, rfl, b7, hq7, f7⟩; have x7 := x11.quiet f7; have d7 := k11.quiet f7; have j0 : w7.cell? ⟨px, 0, none⟩ = some (.slice a5 n cap5) := (by rw [x7.blk.cell]; rfl); have j4 : w7.cell? ⟨px, 4, none⟩ = some (.int .i64 (s.N : Int)) := (by rw [x7.blk.cell]; rfl); have hsame := hid (rsame_true' w7 (.slice (some ⟨q7, 0, none⟩) n n) (.slice a5 n cap5) s.P (reads_blkI b7 hPl) (Reads.of_owns (by rw [intRow_length, hPl]; exact x7.own)) (by omega)))
      | (go_at_call 14; refine hsame.out.mono ?_; rintro e w8 ⟨rfl, f8⟩; have x8 := x7.quiet f8; have d8 := d7.quiet f8; have i0 : w8.cell? ⟨px, 0, none⟩ = some (.slice a5 n cap5) := (by rw [x8.blk.cell]; rfl); have i4 : w8.cell? ⟨px, 4, none⟩ = some (.int .i64 (s.N : Int)) := (by rw [x8.blk.cell]; rfl))
      | (go_at_call_of 16 (Value.pointer (some ⟨p, 0, none⟩)); refine (ecount_any _ p g v5 zs5 n s d8).mono ?_; rintro e w9 ⟨rfl, rfl⟩)
      | (go_at_call_of 10 (Value.pointer none); refine (eput_nil _ _ _).mono ?_; rintro e w9 ⟨rfl, rfl⟩)
      | (go_at_call_of 12 (Value.pointer none); refine (ebytes_nil _).mono ?_; rintro e w9 ⟨rfl, rfl⟩)
      | (go_at_call_of 15 (Value.pointer none); refine (echances_nil _).mono ?_; rintro e w9 ⟨rfl, rfl⟩)
      | (go_at_call_of 16 (Value.pointer none); refine (ecount_nil _).mono ?_; rintro e w9 ⟨rfl, rfl⟩)) | fail
    all_goals
      go_wp2
      go_ret
      exact ⟨rfl, ((F11.trans' f7).trans' f8).below (Nat.le_refl _) (fun _ _ h => h)⟩
end Go.Proofs.Ytkaldidfpgipfaa
