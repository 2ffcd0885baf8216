/-
  Law package 3: what cursors of any bytes tell (CutReads): the walk.
-/
import Derived.Test.YtdadoohkpjdlhaaFirst3
import Derived.Test.YtdadoohkpjdlhaaRef3
import Derived.Test.YtdadoohkpjdlhaaArgs
namespace Go.Proofs.Ytdadoohkpjdlhaa
open Go.RowKit

/-- A script of operations. -/
def IsOps (w : World) (a : Option Addr) (len : Nat) (K N : Nat → Int) : Prop :=
  len = 0 ∨ ∃ b off, a = some ⟨b, off, none⟩ ∧ len ≤ maxLen ∧ ∀ i, i < len → w.cell? ⟨b, off + i * 2, none⟩ = some (.int .i64 (K i)) ∧ w.cell? ⟨b, off + i * 2 + 1, none⟩ = some (.int .i64 (N i)) ∧
    -9223372036854775808 ≤ K i ∧ K i ≤ 9223372036854775807 ∧ -9223372036854775808 ≤ N i ∧ N i ≤ 9223372036854775807

theorem kind4 (x : Int) : (IntKind.u64.wrap x).tmod 4 = 0 ∨ (IntKind.u64.wrap x).tmod 4 = 1 ∨ (IntKind.u64.wrap x).tmod 4 = 2 ∨ (IntKind.u64.wrap x).tmod 4 = 3 := by
  rw [IntKind.wrap_u64, Int.tmod_eq_emod_of_nonneg (Int.emod_nonneg _ (by decide))]
  omega

/-- A piece of a piece that is all of it. -/
theorem piece_all (ys : List Nat) : piece ys 0 ys.length = ys := by simp [piece]

set_option maxRecDepth 100000 in
set_option maxHeartbeats 3000000 in
theorem read_walk (a : Option Addr) (len cap : Nat) (zs : List Nat) (a2 : Option Addr) (len2 cap2 : Nat) (K N : Nat → Int) (w : World) (hzl : zs.length = len) (hsm : ∀ z ∈ zs, z < 256) (hB : CellsIn w a len cap (fun i => .int .u8 ((zs.getD i 0 : Nat) : Int))) (h0 : IsOps w a2 len2 K N) :
    Calls Try.prog 3 #[.slice a len cap, .slice a2 len2 cap2] w fun e w' => e = .returned (.bool true) ∧ Below w.heap.size w w' := by
  have hlen : (len2 : Int) ≤ 9223372036854775807 := by
    rcases h0 with rfl | ⟨b, off, _, h, _⟩
    · simp
    · unfold maxLen at h; omega
  have hl63 : (len : Int) ≤ 9223372036854775807 := by have := hB.1; have := hB.2.1; unfold maxLen at *; omega
  have H0 := hid h0
  have HB := hid hB
  have HZ := hid hzl
  clear h0 hB hzl
  by_cases h500 : 500 < len
  · have h500' : (500 : Int) < (len : Int) := by omega
    go_enter Try.func3, Try.ntmps3
    go_wp2_with fail
    refine (first_any _).mono ?_
    rintro e w1 ⟨rfl, F1⟩
    go_wp2
    go_ret
    exact ⟨rfl, F1.below (Nat.le_refl _) (fun _ _ h => h)⟩
  have h500' : ¬ (500 : Int) < (len : Int) := by omega
  go_enter Try.func3, Try.ntmps3
  go_wp2_with fail
  refine (first_any _).mono ?_
  rintro e w1 ⟨rfl, F1⟩
  have HC1 := hid (HB.out.src (F1.alloc (.cells #[] 5)) HZ.out)
  go_wp2_with (at_builtin; refine wpList_append_any rfl _ _ rfl w1.heap.size _ 0 [] rfl (empty_own w1 _ (Nat.le_refl _)) a len cap (rowOf zs) rfl (by rw [rowOf_length, HZ.out]) HC1.out (rowOf_one zs) (by omega) (by simp) ?_)
  intro v2 w2 hown2 hgrow2
  have F2 : Fr (fun _ => False) w w2 := (F1.alloc _).grown hgrow2 (fun i hi hlt => by simp [Value.ownBlock] at hi; have := F1.size; omega)
  have hown2' : w2.ownsRow w1.heap.size 5 1 v2 zs.length (rowOf zs) := by rw [HZ.out]; simpa using hown2
  have hz5 : zs.length ≤ 500 := by have := HZ.out; omega
  clear hown2 hgrow2 HC1
  go_wp2_with fail
  refine (cnew_any _ v2 zs (Reads.of_owns (by rw [rowOf_length]; exact hown2')) (by omega) hsm).mono ?_
  rintro e w3 ⟨p3, q3, rfl, r3, hp3, hq3, f3⟩
  have F3 : Fr (fun _ => False) w w3 := F2.trans' f3
  have hown3 := ownsRow_fr hown2' f3 (fun _ _ h => h)
  have ho3 : ∀ j, v2.ownBlock = some j → w.heap.size ≤ j ∧ j < p3 ∧ j < q3 := by
    intro j hj
    have := hown2'.lt j hj
    have := F1.size
    omega
  have hp3w : w.heap.size ≤ p3 := by have := F2.size; omega
  have hq3w : w.heap.size ≤ q3 := by have := F2.size; omega
  clear f3 hown2' F2 hp3 hq3
  obtain ⟨aa, cc, rfl, hg0⟩ := ownsRow_form hown3
  go_wp2_with fail
  go_loopw [46] (fun i wr => ∃ j : Nat, j ≤ zs.length ∧ i = .int .i64 (j : Int) ∧ (∃ cs : List Int, cs.length = zs.length ∧ wr.ownsRow w1.heap.size 5 1 (.slice aa zs.length cc) zs.length (cs.map (Value.int .u8))) ∧ Cu wr p3 q3 0 zs 0 ∧ Fr (fun _ => False) w wr) (fun i _ => zs.length - (intOf i).toNat)
  case atStart => exact ⟨0, Nat.zero_le _, rfl, ⟨zs.map (fun (z : Nat) => (z : Int)), by simp, by simpa [rowOf, Function.comp_def] using hown3⟩, r3, F3⟩
  case round =>
    obtain ⟨j, hj, rfl, ⟨cs, hcs, ox⟩, rx, fx⟩ := hrel
    by_cases hjl : j < zs.length
    · obtain ⟨g, rfl, _⟩ := hg0 (by omega)
      have hcv := ownsRow_cell ox j (.int .u8 (cs.getD j 0)) (by simp [List.getD, show j < cs.length by omega])
      have hfz := ownsRow_thaw ox
      have hji : (j : Int) < (zs.length : Int) := by omega
      obtain ⟨c, hcc⟩ : ∃ c, c = cs.getD j 0 := ⟨_, rfl⟩
      rw [← hcc] at hcv
      have hgo := ho3 g rfl
      clear hcc
      go_wp2
      go_roundw
      case rel =>
        refine ⟨j + 1, by omega, by go_num, ⟨cs.set j ((c + 1) % 256), by simpa using hcs, ?_⟩, ?_, fx.setCell (fun h => by simp at h; omega) _⟩
        · have := ownsRow_set ox j (.int .u8 ((c + 1) % 256))
          simpa [List.map_set] using this
        · exact rx.fr ((Fr.refl (fun b => b = g) wr).setCell (fun _ => rfl) _) (by omega) (by omega)
      case measure => simp [intOf]; omega
    · have hji : ¬ (j : Int) < (zs.length : Int) := by omega
      clear ox hg0 ho3 hown3 r3 F3
      obtain ⟨S0, hS0⟩ : ∃ S, S = strOf zs := ⟨_, rfl⟩
      have hcv := conv_in HZ.out (HB.out.fr fx)
      rw [← hS0] at hcv
      have HS0 := hid hS0
      clear hS0
      have hpx : p3 < wr.heap.size := rx.blk.lt
      have hqx : q3 < wr.heap.size := rx.bd
      have hxw : w.heap.size ≤ wr.heap.size := fx.size
      obtain ⟨w4, hw4⟩ : ∃ w4, w4 = wr := ⟨_, rfl⟩
      rw [← hw4] at rx fx hpx hqx hxw
      have x5 : RCu (w4.alloc (.cells #[.string S0, .int .i64 0] 29)) w4.heap.size zs 0 := by
        show Blk _ _ _ _
        rw [List.drop_zero, ← HS0.out]
        exact Blk.new w4 _ _
      have r5 := rx.fr ((Fr.refl (fun _ => False) w4).alloc (.cells #[.string S0, .int .i64 0] 29)) (fun h => h) (fun h => h)
      have F5 := fx.alloc (.cells #[.string S0, .int .i64 0] 29)
      subst hw4
      clear rx fx hcs
      go_wp2_with fail
      go_loopw [62] (fun i wr => ∃ k pos : Nat, k ≤ len2 ∧ k ≤ 60 ∧ i = .int .i64 (k : Int) ∧ Cu wr p3 q3 0 zs pos ∧ RCu wr w4.heap.size zs pos ∧ Fr (fun _ => False) w wr) (fun i _ => len2 - (intOf i).toNat)
      case atStart => exact ⟨0, 0, Nat.zero_le _, Nat.zero_le _, rfl, r5, x5, F5⟩
      case round =>
        obtain ⟨k, pos, hk, hk60, rfl, r6, x6, F6⟩ := hrel
        clear r5 x5 F5 hcv
        by_cases hlt : k < len2
        · rcases H0.out with h00 | ⟨b, off, rfl, _, hall⟩
          · omega
          obtain ⟨c0, c1, g1, g2, g3, g4⟩ := hall k hlt
          have hb : b < w.heap.size := cell_lt c0
          have c0' := (F6.cell (p := ⟨b, off + k * 2, none⟩) hb (fun h => h)).trans c0
          have c1' := (F6.cell (p := ⟨b, off + k * 2 + 1, none⟩) hb (fun h => h)).trans c1
          have hki : (k : Int) < (len2 : Int) := by omega
          by_cases h60 : k < 60
          · have h60' : ¬ (60 : Int) ≤ (k : Int) := by omega
            have hnb := Blk.new wr #[.int .i64 (K k), .int .i64 (N k)] 31
            have hpn : p3 < wr.heap.size := r6.blk.lt
            have hqn : q3 < wr.heap.size := r6.bd
            have hxn : w4.heap.size < wr.heap.size := Blk.lt x6
            have hwn : w.heap.size ≤ wr.heap.size := F6.size
            have r7 := r6.fr ((Fr.refl (fun _ => False) wr).alloc (.cells #[.int .i64 (K k), .int .i64 (N k)] 31)) (fun h => h) (fun h => h)
            have x7 := x6.fr ((Fr.refl (fun _ => False) wr).alloc (.cells #[.int .i64 (K k), .int .i64 (N k)] 31)) (fun h => h)
            have F7 := F6.alloc (.cells #[.int .i64 (K k), .int .i64 (N k)] 31)
            clear r6 x6 F6 c0 c1 hall
            rcases kind4 (K k) with hkd | hkd | hkd | hkd
            · clear hnb
              have hO1 := amt_le zs.length pos 1 r7.le
              go_wp2_with fail
              refine (cbyte_any _ p3 q3 0 _ _ r7 (by omega)).mono ?_
              rintro e w8 ⟨rfl, r8, f8⟩
              have x8 := x7.fr f8 (by omega)
              have F8 := F7.trans f8 (by intro i hi e; omega)
              have hle := r7.le
              clear r7 x7 F7 f8
              go_wp2_with fail
              refine (refNumber_any _ w4.heap.size zs pos 1 x8 hle (by omega) hsm (by decide)).mono ?_
              rintro e w9 ⟨rfl, X9, f9⟩
              have R9 := r8.fr f9 (by omega) (by omega)
              have F9 := F8.trans f9 (by intro i hi e; omega)
              clear x8 r8 F8 f9
              obtain ⟨P, hP⟩ : ∃ P, P = pos + amt zs.length pos 1 := ⟨_, rfl⟩
              rw [← hP] at R9 X9
              clear hP hO1
              generalize valB (piece zs pos (amt zs.length pos 1)) = V
              generalize okB zs.length pos 1 = B
              have hvv : ((V : Int) != (V : Int)) = false := by simp
              have hbb : (B != B) = false := by simp
              obtain ⟨S, hS⟩ : ∃ S, S = strOf (zs.drop P) := ⟨_, rfl⟩
              have hsz : S.size = zs.length - P := by rw [hS, strOf_size, List.length_drop]
              have hx0 := Blk.cell X9 0
              have hx1 := Blk.cell X9 1
              simp at hx0 hx1
              rw [← hS] at hx0
              clear hS
              have hPl := R9.le
              have hS5 : (S.size : Int) ≤ 500 := by omega
              go_wp2_with fail
              go_quiet (first | (go_at_call 15; exact Calls.quiet_of_same (cat_any _ _ _ _ _ _ (R9.drewN _))) | (go_at_call 14; exact Calls.quiet_of (cleft_any _ _ _ _ _ _ (R9.drewN _) (by omega))))
              go_wp2
              go_roundw
              case rel => exact ⟨k + 1, P, by omega, by omega, by go_num, R9.drewN _, X9.drewN _, F9.drewN _⟩
              case measure => simp [intOf]; omega
            · clear hnb
              have hO1 := amt_le zs.length pos 4 r7.le
              go_wp2_with fail
              refine (cword_any _ p3 q3 0 _ _ r7 (by omega)).mono ?_
              rintro e w8 ⟨rfl, r8, f8⟩
              have x8 := x7.fr f8 (by omega)
              have F8 := F7.trans f8 (by intro i hi e; omega)
              have hle := r7.le
              clear r7 x7 F7 f8
              go_wp2_with fail
              refine (refNumber_any _ w4.heap.size zs pos 4 x8 hle (by omega) hsm (by decide)).mono ?_
              rintro e w9 ⟨rfl, X9, f9⟩
              have R9 := r8.fr f9 (by omega) (by omega)
              have F9 := F8.trans f9 (by intro i hi e; omega)
              clear x8 r8 F8 f9
              obtain ⟨P, hP⟩ : ∃ P, P = pos + amt zs.length pos 4 := ⟨_, rfl⟩
              rw [← hP] at R9 X9
              clear hP hO1
              generalize valB (piece zs pos (amt zs.length pos 4)) = V
              generalize okB zs.length pos 4 = B
              have hvv : ((V : Int) != (V : Int)) = false := by simp
              have hbb : (B != B) = false := by simp
              obtain ⟨S, hS⟩ : ∃ S, S = strOf (zs.drop P) := ⟨_, rfl⟩
              have hsz : S.size = zs.length - P := by rw [hS, strOf_size, List.length_drop]
              have hx0 := Blk.cell X9 0
              have hx1 := Blk.cell X9 1
              simp at hx0 hx1
              rw [← hS] at hx0
              clear hS
              have hPl := R9.le
              have hS5 : (S.size : Int) ≤ 500 := by omega
              go_wp2_with fail
              go_quiet (first | (go_at_call 15; exact Calls.quiet_of_same (cat_any _ _ _ _ _ _ (R9.drewN _))) | (go_at_call 14; exact Calls.quiet_of (cleft_any _ _ _ _ _ _ (R9.drewN _) (by omega))))
              go_wp2
              go_roundw
              case rel => exact ⟨k + 1, P, by omega, by omega, by go_num, R9.drewN _, X9.drewN _, F9.drewN _⟩
              case measure => simp [intOf]; omega
            · have HN := hid hnb
              clear hnb
              have hO1 := amt_le zs.length pos (N k) r7.le
              have hle := r7.le
              go_wp2_with fail
              refine (ctake_any _ p3 q3 0 _ _ (N k) r7 (by omega)).mono ?_
              rintro e w8 ⟨v8, rfl, o8, r8, f8⟩
              have x8 := x7.fr f8 (by omega)
              have F8 := F7.trans f8 (by intro i hi e; omega)
              have d8 := HN.out.fr f8 (by omega)
              have e8 := d8.cell 1
              simp at e8
              have hs8 := f8.size
              simp at hs8
              clear r7 x7 F7 f8 HN
              go_wp2_with fail
              refine (refTake_any _ w4.heap.size zs pos (N k) x8 hle (by omega)).mono ?_
              rintro e w9 ⟨rfl, X9, f9⟩
              have R9 := r8.fr f9 (by omega) (by omega)
              have F9 := F8.trans f9 (by intro i hi e; omega)
              have o9 := ownsRow_fr o8 f9 (fun i hi e => by have := o8.lt i hi; simp at this; omega)
              clear x8 r8 F8 f9 d8 e8 o8
              obtain ⟨P, hP⟩ : ∃ P, P = pos + amt zs.length pos (N k) := ⟨_, rfl⟩
              rw [← hP] at R9 X9 hO1
              clear hP
              have hYl : (piece zs pos (amt zs.length pos (N k))).length ≤ 500 := by simp [piece]; omega
              generalize piece zs pos (amt zs.length pos (N k)) = ys at o9 hYl ⊢
              generalize okB zs.length pos (N k) = B
              have hbb : (B != B) = false := by simp
              obtain ⟨T, hT⟩ : ∃ T, T = strOf ys := ⟨_, rfl⟩
              have hcv := conv_owned _ _ _ _ o9
              rw [← hT] at hcv ⊢
              clear hT
              obtain ⟨aa, cc, rfl, hg0⟩ := ownsRow_form o9
              have HG := hid hg0
              have hlt9 := o9.lt
              have HLT := hid hlt9
              clear hg0 hlt9
              go_wp2_with fail
              go_loopw [186] (fun i wr => ∃ j : Nat, j ≤ ys.length ∧ i = .int .i64 (j : Int) ∧ (∃ cs : List Int, cs.length = ys.length ∧ wr.ownsRow 0 5 1 (.slice aa ys.length cc) ys.length (cs.map (Value.int .u8))) ∧ Cu wr p3 q3 0 zs P ∧ RCu wr w4.heap.size zs P ∧ Fr (fun _ => False) w wr) (fun i _ => ys.length - (intOf i).toNat)
              case atStart => exact ⟨0, Nat.zero_le _, rfl, ⟨ys.map (fun (z : Nat) => (z : Int)), by simp, by simpa [rowOf, Function.comp_def] using ownsRow_zero o9⟩, R9, X9, F9⟩
              case round =>
                obtain ⟨j, hj, rfl, ⟨cs, hcs, ox⟩, rx, xx, fx⟩ := hrel
                clear o9 R9 X9 F9 hcv
                by_cases hjl : j < ys.length
                · obtain ⟨g, rfl, hgb⟩ := HG.out (by omega)
                  have hgl := HLT.out g hgb
                  have hcv := ownsRow_cell ox j (.int .u8 (cs.getD j 0)) (by simp [List.getD, show j < cs.length by omega])
                  have hfz := ownsRow_thaw ox
                  have hji : (j : Int) < (ys.length : Int) := by omega
                  obtain ⟨c, hcc⟩ : ∃ c, c = cs.getD j 0 := ⟨_, rfl⟩
                  rw [← hcc] at hcv
                  simp at hgl
                  clear hcc hgb
                  go_wp2
                  go_roundw
                  case rel =>
                    refine ⟨j + 1, by omega, by go_num, ⟨cs.set j ((c + 1) % 256), by simpa using hcs, ?_⟩, ?_, ?_, fx.setCell (fun h => by simp at h; omega) _⟩
                    · have := ownsRow_set ox j (.int .u8 ((c + 1) % 256))
                      simpa [List.map_set] using this
                    · exact rx.fr ((Fr.refl (fun b => b = g) wr).setCell (fun _ => rfl) _) (by omega) (by omega)
                    · exact xx.fr ((Fr.refl (fun b => b = g) wr).setCell (fun _ => rfl) _) (by omega)
                  case measure => simp [intOf]; omega
                · have hji : ¬ (j : Int) < (ys.length : Int) := by omega
                  have R9 := rx
                  have X9 := xx
                  have F9 := fx
                  clear rx xx fx ox hcs HG HLT
                  obtain ⟨S, hS⟩ : ∃ S, S = strOf (zs.drop P) := ⟨_, rfl⟩
                  have hsz : S.size = zs.length - P := by rw [hS, strOf_size, List.length_drop]
                  have hx0 := Blk.cell X9 0
                  have hx1 := Blk.cell X9 1
                  simp at hx0 hx1
                  rw [← hS] at hx0
                  clear hS
                  have hPl := R9.le
                  have hS5 : (S.size : Int) ≤ 500 := by omega
                  go_wp2_with fail
                  go_quiet (first | (go_at_call 15; exact Calls.quiet_of_same (cat_any _ _ _ _ _ _ (R9.drewN _))) | (go_at_call 14; exact Calls.quiet_of (cleft_any _ _ _ _ _ _ (R9.drewN _) (by omega))))
                  go_wp2
                  go_roundw
                  case rel => exact ⟨k + 1, P, by omega, by omega, by go_num, R9.drewN _, X9.drewN _, F9.drewN _⟩
                  case measure => simp [intOf]; omega
            · have HN := hid hnb
              clear hnb
              have hO1 := amt_le zs.length pos (N k) r7.le
              have hle := r7.le
              cases ho : okB zs.length pos (N k) with
              | true =>
                go_wp2_with fail
                refine (csub_ok _ p3 q3 0 _ _ (N k) r7 (by omega) ho).mono ?_
                rintro e w8 ⟨p8, o8, rfl, hp8, s8, r8, f8⟩
                have x8 := x7.fr f8 (by omega)
                have F8 := F7.trans f8 (by intro i hi e; omega)
                have d8 := HN.out.fr f8 (by omega)
                have e8 := d8.cell 1
                simp at e8 hp8
                clear r7 x7 F7 f8 HN
                have hT := hid (refTake_any _ w4.heap.size zs pos (N k) x8 hle (by omega))
                rw [ho] at hT
                obtain ⟨P, hP⟩ : ∃ P, P = pos + amt zs.length pos (N k) := ⟨_, rfl⟩
                rw [← hP] at r8 hO1 hT
                clear hP
                have hYl : (piece zs pos (amt zs.length pos (N k))).length ≤ 500 := by simp [piece]; omega
                generalize piece zs pos (amt zs.length pos (N k)) = ys at s8 hYl hT
                obtain ⟨T, hTT⟩ : ∃ T, T = strOf ys := ⟨_, rfl⟩
                rw [← hTT] at hT
                have HTs := hid (show T.size = ys.length by rw [hTT, strOf_size])
                have HTT := hid hTT
                clear hTT
                go_wp2_with fail
                refine hT.out.mono ?_
                clear hT
                rintro e w9 ⟨rfl, X9, f9⟩
                have R9 := r8.fr f9 (by omega) (by omega)
                have s9 := s8.fr f9 (by omega) (by omega)
                have F9 := F8.trans f9 (by intro i hi e; omega)
                clear x8 r8 s8 F8 f9 d8 e8
                have hL := hid (cleft_any _ p8 q3 o8 _ _ s9 (by omega))
                rw [Nat.sub_zero, ← HTs.out] at hL
                go_wp2_with fail
                refine hL.out.mono ?_
                clear hL
                rintro e w10 ⟨rfl, n10, rfl⟩
                have hTn : ((T.size : Int) != (T.size : Int)) = false := by simp
                go_wp2_with fail
                refine (cat_any _ p8 q3 o8 _ _ (s9.drewN n10)).mono ?_
                rintro e w11 ⟨rfl, rfl⟩
                have hTk := hid (ctake_any _ p8 q3 o8 _ _ (T.size : Int) (s9.drewN n10) (by omega))
                have hok : okB ys.length 0 (T.size : Int) = true := by rw [HTs.out]; simp [okB]
                have ham : amt ys.length 0 (T.size : Int) = ys.length := by have h1 := amt_ok hok; have h2 := HTs.out; omega
                rw [hok, ham, piece_all, Nat.zero_add] at hTk
                clear hok ham
                go_wp2_with fail
                refine hTk.out.mono ?_
                clear hTk
                rintro e w12 ⟨v12, rfl, o12, s12, f12⟩
                have R12 := (R9.drewN n10).fr f12 (by omega) (by omega)
                have X12 := (X9.drewN n10).fr f12 (by omega)
                have F12 := (F9.drewN n10).trans f12 (by intro i hi e; omega)
                have hp89 : p8 < w9.heap.size := s9.blk.lt
                clear R9 X9 F9 f12 s9
                have hBy := hid (cbyte_any _ p8 q3 o8 _ _ s12 (by omega))
                rw [show okB ys.length ys.length 1 = false by simp [okB]; omega] at hBy
                have hcv0 := o12
                go_wp2_with fail
                refine hBy.out.mono ?_
                clear hBy
                rintro e w13 ⟨rfl, s13, f13⟩
                have R9 := R12.fr f13 (by omega) (by omega)
                have X9 := X12.fr f13 (by omega)
                have F9 := F12.trans f13 (by intro i hi e; omega)
                have o13 := ownsRow_fr o12 f13 (fun i hi e => by have h1 := o12.lt i hi; have h2 : (w9.drewN n10).heap.size = w9.heap.size := rfl; omega)
                have hcv := conv_owned _ _ _ _ o13
                rw [← HTT.out] at hcv
                obtain ⟨aa, cc, rfl, _⟩ := ownsRow_form o13
                clear R12 X12 F12 f13 s12 s13 o12 o13 hcv0
                obtain ⟨S, hS⟩ : ∃ S, S = strOf (zs.drop P) := ⟨_, rfl⟩
                have hsz : S.size = zs.length - P := by rw [hS, strOf_size, List.length_drop]
                have hx0 := Blk.cell X9 0
                have hx1 := Blk.cell X9 1
                simp at hx0 hx1
                rw [← hS] at hx0
                clear hS
                have hPl := R9.le
                have hS5 : (S.size : Int) ≤ 500 := by omega
                go_wp2_with fail
                go_quiet (first | (go_at_call 15; exact Calls.quiet_of_same (cat_any _ _ _ _ _ _ (R9.drewN _))) | (go_at_call 14; exact Calls.quiet_of (cleft_any _ _ _ _ _ _ (R9.drewN _) (by omega))))
                go_wp2
                go_roundw
                case rel => exact ⟨k + 1, P, by omega, by omega, by go_num, R9.drewN _, X9.drewN _, F9.drewN _⟩
                case measure => simp [intOf]; omega
              | false =>
                go_wp2_with fail
                refine (csub_no _ p3 q3 0 _ _ (N k) r7 (by omega) ho).mono ?_
                rintro e w8 ⟨rfl, r8, f8⟩
                have x8 := x7.fr f8 (by omega)
                have F8 := F7.trans f8 (by intro i hi e; omega)
                have d8 := HN.out.fr f8 (by omega)
                have e8 := d8.cell 1
                simp at e8
                clear r7 x7 F7 f8 HN
                have hT := hid (refTake_any _ w4.heap.size zs pos (N k) x8 hle (by omega))
                rw [ho, amt_no ho, piece_zero, Nat.add_zero, show strOf [] = ⟨#[]⟩ by rfl] at hT
                go_wp2_with fail
                refine hT.out.mono ?_
                clear hT
                rintro e w9 ⟨rfl, X9, f9⟩
                have R9 := r8.fr f9 (by omega) (by omega)
                have F9 := F8.trans f9 (by intro i hi e; omega)
                clear x8 r8 F8 f9 d8 e8
                go_wp2_with fail
                refine (cleft_nil _).mono ?_
                rintro e w10 ⟨rfl, rfl⟩
                go_wp2_with fail
                refine (cat_nil _).mono ?_
                rintro e w11 ⟨rfl, rfl⟩
                go_wp2_with fail
                refine (ctake_nil _).mono ?_
                rintro e w12 ⟨q12, rfl, b12, hq12, f12⟩
                have R12 := R9.fr f12 (fun h => h) (fun h => h)
                have X12 := X9.fr f12 (fun h => h)
                have F12 := F9.trans' f12
                clear R9 X9 F9 f12
                go_wp2_with fail
                refine (cbyte_nil _).mono ?_
                rintro e w13 ⟨rfl, rfl⟩
                have R9 := R12
                have X9 := X12
                have F9 := F12
                have hcv := conv_bytes _ q12 [] 0 5 b12
                rw [show strOf [] = ⟨#[]⟩ by rfl] at hcv
                simp at hcv
                clear R12 X12 F12 hO1
                obtain ⟨S, hS⟩ : ∃ S, S = strOf (zs.drop pos) := ⟨_, rfl⟩
                have hsz : S.size = zs.length - pos := by rw [hS, strOf_size, List.length_drop]
                have hx0 := Blk.cell X9 0
                have hx1 := Blk.cell X9 1
                simp at hx0 hx1
                rw [← hS] at hx0
                clear hS
                have hPl := R9.le
                have hS5 : (S.size : Int) ≤ 500 := by omega
                go_wp2_with fail
                go_quiet (first | (go_at_call 15; exact Calls.quiet_of_same (cat_any _ _ _ _ _ _ (R9.drewN _))) | (go_at_call 14; exact Calls.quiet_of (cleft_any _ _ _ _ _ _ (R9.drewN _) (by omega))))
                go_wp2
                go_roundw
                case rel => exact ⟨k + 1, pos, by omega, by omega, by go_num, R9.drewN _, X9.drewN _, F9.drewN _⟩
                case measure => simp [intOf]; omega
          · have h60' : (60 : Int) ≤ (k : Int) := by omega
            go_wp2_with fail
            refine (cword_nil _).mono ?_
            rintro e w7 ⟨rfl, rfl⟩
            go_wp2_with fail
            refine (ctake_nil _).mono ?_
            rintro e w8 ⟨q8, rfl, _, _, f8⟩
            have F8 := (F6.alloc _).trans' f8
            go_wp2_with fail
            refine (cat_nil _).mono ?_
            rintro e w9 ⟨rfl, rfl⟩
            go_wp2_with fail
            refine (cleft_nil _).mono ?_
            rintro e w10 ⟨rfl, rfl⟩
            go_wp2
            go_ret
            exact ⟨rfl, F8.below (Nat.le_refl _) (fun _ _ h => h)⟩
        · have hki : ¬ (k : Int) < (len2 : Int) := by omega
          go_wp2_with fail
          refine (cword_nil _).mono ?_
          rintro e w7 ⟨rfl, rfl⟩
          go_wp2_with fail
          refine (ctake_nil _).mono ?_
          rintro e w8 ⟨q8, rfl, _, _, f8⟩
          have F8 := F6.trans' f8
          go_wp2_with fail
          refine (cat_nil _).mono ?_
          rintro e w9 ⟨rfl, rfl⟩
          go_wp2_with fail
          refine (cleft_nil _).mono ?_
          rintro e w10 ⟨rfl, rfl⟩
          go_wp2
          go_ret
          exact ⟨rfl, F8.below (Nat.le_refl _) (fun _ _ h => h)⟩
end Go.Proofs.Ytdadoohkpjdlhaa
