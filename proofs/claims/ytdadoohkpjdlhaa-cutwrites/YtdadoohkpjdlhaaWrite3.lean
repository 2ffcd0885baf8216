/-
  Law package 3: the bytes of any pen (CutWrites): the walk.
-/
import Derived.Test.YtdadoohkpjdlhaaFirst3
import Derived.Test.YtdadoohkpjdlhaaRef3
import Derived.Test.YtdadoohkpjdlhaaArgs
import Derived.Deep.RegionHeld3
namespace Go.Proofs.Ytdadoohkpjdlhaa
open Go.RowKit

/-- A script of what is written. -/
def IsPuts (w : World) (a : Option Addr) (len : Nat) (K V T : Nat → Int) (A : Nat → Option Addr) (L C : Nat → Nat) (Z : Nat → List Nat) : Prop :=
  len = 0 ∨ ∃ b off, a = some ⟨b, off, none⟩ ∧ len ≤ maxLen ∧ ∀ i, i < len → (w.cell? ⟨b, off + i * 4, none⟩ = some (.int .i64 (K i)) ∧ w.cell? ⟨b, off + i * 4 + 1, none⟩ = some (.int .i64 (V i)) ∧ w.cell? ⟨b, off + i * 4 + 2, none⟩ = some (.int .i64 (T i)) ∧ w.cell? ⟨b, off + i * 4 + 3, none⟩ = some (.slice (A i) (L i) (C i))) ∧
    (-9223372036854775808 ≤ K i ∧ K i ≤ 9223372036854775807) ∧ (-9223372036854775808 ≤ V i ∧ V i ≤ 9223372036854775807) ∧ (-9223372036854775808 ≤ T i ∧ T i ≤ 9223372036854775807) ∧ (Z i).length = L i ∧ (∀ z ∈ Z i, z < 256) ∧ CellsIn w (A i) (L i) (C i) (fun j => .int .u8 (((Z i).getD j 0 : Nat) : Int))

theorem kind4w (x : Int) : (IntKind.u64.wrap x).tmod 4 = 0 ∨ (IntKind.u64.wrap x).tmod 4 = 1 ∨ (IntKind.u64.wrap x).tmod 4 = 2 ∨ (IntKind.u64.wrap x).tmod 4 = 3 := by
  rw [IntKind.wrap_u64, Int.tmod_eq_emod_of_nonneg (Int.emod_nonneg _ (by decide))]
  omega

theorem Pn.drew {w : World} {p : Nat} {v : Value} {zs : List Nat} (h : Pn w p v zs) : Pn w.drew p v zs := ⟨h.blk.drew, h.own, h.small⟩
/-- A cell that is none of the pen's is held. -/
theorem held_pen {w w8 : World} {p B i : Nat} {v u : Value} {zs' : List Nat} (g : PnGets p v w w8 zs') (hB : ¬ B = p) (hv : ∀ k, v.ownBlock = some k → ¬ B = k) (d : w.cell? ⟨B, i, none⟩ = some u) : w8.cell? ⟨B, i, none⟩ = some u := by
  obtain ⟨v', _, st⟩ := g
  refine (st.fr.cell (p := ⟨B, i, none⟩) (cell_lt d) ?_).trans d
  rintro (h | h)
  · exact hB h
  · exact hv B h rfl
theorem CellsIn.nil {w : World} {a : Option Addr} {len cap : Nat} {V : Nat → Value} (h : CellsIn w a len cap V) : a = none → len = 0 ∧ cap = 0 := by
  intro e
  rcases h.2.2 with ⟨_, h⟩ | ⟨b, off, spot, e2, _⟩
  · exact h
  · rw [e] at e2; cases e2
theorem strOf_patch (zs : List Nat) (k : Nat) (bs : List Nat) : (strOf zs).extract 0 k ++ strOf bs ++ (strOf zs).extract (k + 4) (strOf zs).size = strOf (patch4 zs k bs) := by
  rw [strOf_extract, strOf_extract, strOf_append, strOf_append, strOf_size]
  unfold patch4
  simp
  congr 3
  exact List.take_of_length_le (by simp)

set_option maxRecDepth 100000 in
set_option maxHeartbeats 16000000 in
theorem write_walk (a : Option Addr) (len cap : Nat) (K V T : Nat → Int) (A : Nat → Option Addr) (L C : Nat → Nat) (Z : Nat → List Nat) (w : World) (h0 : IsPuts w a len K V T A L C Z) :
    Calls Try.prog 4 #[.slice a len cap] w fun e w' => e = .returned (.bool true) ∧ Below w.heap.size w w' := by
  have hlen : (len : Int) ≤ 9223372036854775807 := by
    rcases h0 with rfl | ⟨b, off, _, h, _⟩
    · simp
    · unfold maxLen at h; omega
  have H0 := hid h0
  clear h0
  go_enter Try.func4, Try.ntmps4
  go_wp2_with fail
  refine (first_any _).mono ?_
  rintro e w1 ⟨rfl, F1⟩
  have hP := Pn.new w1
  have hs1 := F1.size
  go_wp2_with fail
  go_loopw [5, 18] (fun s i wr => ∃ (k : Nat) (v : Value) (zs : List Nat), k ≤ len ∧ k ≤ 60 ∧ i = .int .i64 (k : Int) ∧ s = .string (strOf zs) ∧ Pn wr w1.heap.size v zs ∧ (∀ j, v.ownBlock = some j → w.heap.size ≤ j) ∧ zs.length ≤ 104 * k ∧ Fr (fun _ => False) w wr) (fun _ i _ => len - (intOf i).toNat)
  case atStart => exact ⟨0, _, [], Nat.zero_le _, Nat.zero_le _, rfl, rfl, hP, (by intro j hj; cases hj), Nat.zero_le _, F1.alloc _⟩
  case round =>
    obtain ⟨k, v, zs, hk, hk60, rfl, rfl, h6, O6, hzl, F6⟩ := hrel
    clear hP
    obtain ⟨S, hS⟩ : ∃ S, S = strOf zs := ⟨_, rfl⟩
    rw [← hS]
    have hSz : S.size ≤ 6240 := by rw [hS, strOf_size]; omega
    have HS := hid hS
    clear hS
    by_cases hlt : k < len
    · rcases H0.out with h00 | ⟨b, off, rfl, _, hall⟩
      · omega
      obtain ⟨⟨c0, c1, c2, c3⟩, g0, g1, g2, hzb, hsm, hin⟩ := hall k hlt
      clear hall
      have hb : b < w.heap.size := cell_lt c0
      have c0' := (F6.cell (p := ⟨b, off + k * 4, none⟩) hb (fun h => h)).trans c0
      have c1' := (F6.cell (p := ⟨b, off + k * 4 + 1, none⟩) hb (fun h => h)).trans c1
      have c2' := (F6.cell (p := ⟨b, off + k * 4 + 2, none⟩) hb (fun h => h)).trans c2
      have c3' := (F6.cell (p := ⟨b, off + k * 4 + 3, none⟩) hb (fun h => h)).trans c3
      clear c0 c1 c2 c3
      have hki : (k : Int) < (len : Int) := by omega
      generalize V k = x at *
      generalize T k = t at *
      generalize A k = al at *
      generalize L k = ln at *
      generalize C k = cp at *
      generalize Z k = zb at *
      have hlnB : (ln : Int) ≤ 9223372036854775807 := by have := hin.1; have := hin.2.1; unfold maxLen at *; omega
      have HIN := hid hin
      have HZB := hid hzb
      have HSM := hid hsm
      clear hin hzb hsm
      by_cases h60 : k < 60
      · have h60' : ¬ (60 : Int) ≤ (k : Int) := by omega
        by_cases h100 : 100 < ln
        · have h100' : (100 : Int) < (ln : Int) := by omega
          go_wp2_with fail
          refine (plen_nil _).mono ?_
          rintro e w7 ⟨rfl, rfl⟩
          go_wp2_with fail
          refine (pbytes_nil _).mono ?_
          rintro e w8 ⟨rfl, rfl⟩
          go_wp2
          go_ret
          exact ⟨rfl, (F6.alloc _).below (Nat.le_refl _) (fun _ _ h => h)⟩
        · have h100' : ¬ (100 : Int) < (ln : Int) := by omega
          have hnb := Blk.new wr #[.int .i64 (K k), .int .i64 x, .int .i64 t, .slice al ln cp] 49
          have hpn : w1.heap.size < wr.heap.size := h6.blk.lt
          have hne2 : ∀ j, v.ownBlock = some j → ¬ wr.heap.size = j := by intro j hj; have := h6.own.lt j hj; omega
          have hwn : w.heap.size ≤ wr.heap.size := F6.size
          have h7 := h6.fr ((Fr.refl (fun _ => False) wr).alloc (.cells #[.int .i64 (K k), .int .i64 x, .int .i64 t, .slice al ln cp] 49)) (fun h => h) (fun _ _ h => h)
          have F7 := F6.alloc (.cells #[.int .i64 (K k), .int .i64 x, .int .i64 t, .slice al ln cp] 49)
          have O7 := O6
          clear h6 F6 O6
          rcases kind4w (K k) with hkd | hkd | hkd | hkd
          · as_aux_lemma =>
              have hxr : x < 0 ∨ (0 ≤ x ∧ x < 256) ∨ 256 ≤ x := by omega
              rcases hxr with hx | hx | hx
              · have hx0 : ¬ 0 ≤ x := by omega
                have hB : hasB x = false := by unfold hasB; simp only [decide_eq_false_iff_not]; omega
                have hC := hid (show byteC x = [] by unfold byteC; rw [hB]; rfl)
                have hd0 : decide (0 ≤ x) = false := by first | (simp; done) | (simp; omega)
                have D1 := hid (hnb.cell 1)
                have dd := D1.out
                simp at dd
                have hne1 : ¬ wr.heap.size = w1.heap.size := by omega
                have HNE := hid hne2
                clear hne2
                go_wp2_with fail
                first | go_region_with (first | (go_at_call_of 16 (Value.pointer none); refine (pbyte_nil _ _).mono ?_; rintro e w8 ⟨rfl, rfl⟩) | (go_at_call 16; refine (pbyte_any _ w1.heap.size v zs x h7.drew (by omega)).mono ?_; rintro e w8 ⟨rfl, g8⟩; rw [hB]; have d8 := held_pen g8 hne1 HNE.out D1.out)) | fail
                all_goals
                  obtain ⟨v9, h8, F8, O9, _⟩ := g8.outer F7.drew (by omega) O7
                  rw [hC.out] at h8
                  clear h7 F7 O7 g8 D1
                  have HSE := hid (show S = strOf zs from HS.out)
                  rw [List.append_nil] at h8
                  obtain ⟨zs9, hz9⟩ : ∃ z, z = zs := ⟨_, rfl⟩
                  rw [← hz9] at h8 HSE hzl
                  have h9 := h8
                  have F9 := F8
                  have hl9 : zs9.length ≤ 104 * (k + 1) := by omega
                  clear h8 F8 hz9
                  as_aux_lemma =>
                    obtain ⟨T9, hT9⟩ : ∃ T9, T9 = strOf zs9 := ⟨_, rfl⟩
                    rw [← hT9] at HSE
                    have HT9s := hid (show T9.size = zs9.length by rw [hT9, strOf_size])
                    have HT9 := hid hT9
                    have hT9z : T9.size ≤ 6400 := by rw [hT9, strOf_size]; omega
                    clear hT9
                    have hl9' : zs9.length ≤ 6240 := by omega
                    go_wp2_with fail
                    rw [HSE.out]
                    refine (pbytes_any _ w1.heap.size v9 zs9 h9 (by omega)).mono ?_
                    rintro e w10 ⟨q10, rfl, b10, hq10, f10⟩
                    have n1 : w1.heap.size < q10 := by have := h9.blk.lt; omega
                    have n2 : ∀ j, v9.ownBlock = some j → j < q10 := by intro j hj; have := h9.own.lt j hj; omega
                    have n3 : w.heap.size ≤ q10 := by have := F9.size; omega
                    have h10 := h9.fr f10 (fun h => h) (fun _ _ h => h)
                    have F10 := F9.trans' f10
                    have hcv := conv_bytes w10 q10 zs9 zs9.length 5 b10
                    rw [← HT9.out] at hcv
                    have hL := hid (plen_any _ _ _ _ h10)
                    rw [← HT9s.out] at hL
                    have o10 := ownsRow_blk (base := 0) b10 (Nat.zero_le _) (by omega)
                    have O10 := hid o10
                    have N2 := hid n2
                    clear n2 hq10 f10 b10 o10 h9 F9 HSE
                    go_wp2_with fail
                    refine hL.out.mono ?_
                    clear hL
                    rintro e w11 ⟨rfl, rfl⟩
                    have hTn : ((T9.size : Int) != (T9.size : Int)) = false := by simp
                    go_wp2_with fail
                    go_loopw [173] (fun i wr => ∃ j : Nat, j ≤ zs9.length ∧ i = .int .i64 (j : Int) ∧ (∃ cs : List Int, cs.length = zs9.length ∧ wr.ownsRow 0 5 1 (.slice (some ⟨q10, 0, none⟩) zs9.length zs9.length) zs9.length (cs.map (Value.int .u8))) ∧ Pn wr w1.heap.size v9 zs9 ∧ Fr (fun _ => False) w wr) (fun i _ => zs9.length - (intOf i).toNat)
                    case atStart => exact ⟨0, Nat.zero_le _, rfl, ⟨zs9.map (fun (z : Nat) => (z : Int)), by simp, by simpa [rowOf, Function.comp_def] using O10.out⟩, h10, F10⟩
                    case round =>
                      obtain ⟨j, hj, rfl, ⟨cs, hcs, ox⟩, hx, fx⟩ := hrel
                      clear O10 h10 F10 hcv
                      by_cases hjl : j < zs9.length
                      · have hcv := ownsRow_cell ox j (.int .u8 (cs.getD j 0)) (by simp [List.getD, show j < cs.length by omega])
                        have hfz := ownsRow_thaw ox
                        have hji : (j : Int) < (zs9.length : Int) := by omega
                        obtain ⟨c, hcc⟩ : ∃ c, c = cs.getD j 0 := ⟨_, rfl⟩
                        rw [← hcc] at hcv
                        clear hcc
                        go_wp2
                        go_roundw
                        case rel =>
                          refine ⟨j + 1, by omega, by go_num, ⟨cs.set j ((c + 1) % 256), by simpa using hcs, ?_⟩, ?_, fx.setCell (fun h => by simp at h; omega) _⟩
                          · have := ownsRow_set ox j (.int .u8 ((c + 1) % 256))
                            simpa [List.map_set] using this
                          · exact hx.fr ((Fr.refl (fun b => b = q10) wr).setCell (fun _ => rfl) _) (by omega) (fun i hi e => by have := N2.out i hi; omega)
                        case measure => simp [intOf]; omega
                      · have hji : ¬ (j : Int) < (zs9.length : Int) := by omega
                        clear ox hcs
                        go_wp2
                        go_roundw
                        case rel => exact ⟨k + 1, v9, zs9, by omega, by omega, by go_num, congrArg Value.string HT9.out, hx, O9, hl9, fx⟩
                        case measure => simp [intOf]; omega
              · obtain ⟨hx0, hx1⟩ := hx
                obtain ⟨y, rfl⟩ := Int.eq_ofNat_of_zero_le hx0
                have hy : y < 256 := by omega
                have hy2 : (y : Int) % 256 = (y : Int) := by omega
                have hB : hasB (y : Int) = true := by unfold hasB; simp only [decide_eq_true_eq]; omega
                have hC := hid (show byteC (y : Int) = [y] by unfold byteC; rw [hB]; rfl)
                have hd0 : decide (0 ≤ (y : Int)) = true := by first | (simp; done) | (simp; omega)
                have hd1 : decide ((y : Int) < 256) = true := by first | (simp; done) | (simp; omega)
                have D1 := hid (hnb.cell 1)
                have hne1 : ¬ wr.heap.size = w1.heap.size := by omega
                have HNE := hid hne2
                clear hne2
                go_wp2_with fail
                go_region_held3 (fun w' => w'.cell? ⟨wr.heap.size, 1, none⟩ = some (.int .i64 (y : Int))) (go_keep) (first | (go_at_call_of 16 (Value.pointer none); refine (pbyte_nil _ _).mono ?_; rintro e w8 ⟨rfl, rfl⟩) | (go_at_call 16; refine (pbyte_any _ w1.heap.size v zs (y : Int) h7.drew (by omega)).mono ?_; rintro e w8 ⟨rfl, g8⟩; rw [hB]; have d8 := held_pen g8 hne1 HNE.out D1.out))
                obtain ⟨v9, h8, F8, O9, _⟩ := g8.outer F7.drew (by omega) O7
                rw [hC.out] at h8
                clear h7 F7 O7 g8 D1
                obtain ⟨X, hX⟩ : ∃ X, X = strOf [y] := ⟨_, rfl⟩
                have hXz : X.size ≤ 200 := by rw [hX, strOf_size]; simp
                have hcv := conv_bytes (w8.alloc (.cells (rowOf [y]).toArray 5)) w8.heap.size [y] 1 5 (Blk.new w8 _ _)
                rw [← hX] at hcv
                simp [rowOf] at hcv
                have HSE := hid (show S ++ X = strOf (zs ++ [y]) by rw [HS.out, hX, strOf_append])
                clear hX
                have hl9 : (zs ++ [y]).length ≤ 104 * (k + 1) := by simp; omega
                obtain ⟨zs9, hz9⟩ : ∃ z, z = zs ++ [y] := ⟨_, rfl⟩
                rw [← hz9] at h8 HSE hl9
                have fa := (Fr.refl (fun _ => False) w8).alloc (.cells #[.int .u8 (y : Int)] 5)
                have h9 := h8.fr fa (fun h => h) (fun _ _ h => h)
                have F9 := F8.trans' fa
                clear h8 F8 hz9 fa
                as_aux_lemma =>
                  obtain ⟨T9, hT9⟩ : ∃ T9, T9 = strOf zs9 := ⟨_, rfl⟩
                  rw [← hT9] at HSE
                  have HT9s := hid (show T9.size = zs9.length by rw [hT9, strOf_size])
                  have HT9 := hid hT9
                  have hT9z : T9.size ≤ 6400 := by rw [hT9, strOf_size]; omega
                  clear hT9
                  have hl9' : zs9.length ≤ 6240 := by omega
                  go_wp2_with fail
                  rw [HSE.out]
                  refine (pbytes_any _ w1.heap.size v9 zs9 h9 (by omega)).mono ?_
                  rintro e w10 ⟨q10, rfl, b10, hq10, f10⟩
                  have n1 : w1.heap.size < q10 := by have := h9.blk.lt; omega
                  have n2 : ∀ j, v9.ownBlock = some j → j < q10 := by intro j hj; have := h9.own.lt j hj; omega
                  have n3 : w.heap.size ≤ q10 := by have := F9.size; omega
                  have h10 := h9.fr f10 (fun h => h) (fun _ _ h => h)
                  have F10 := F9.trans' f10
                  have hcv := conv_bytes w10 q10 zs9 zs9.length 5 b10
                  rw [← HT9.out] at hcv
                  have hL := hid (plen_any _ _ _ _ h10)
                  rw [← HT9s.out] at hL
                  have o10 := ownsRow_blk (base := 0) b10 (Nat.zero_le _) (by omega)
                  have O10 := hid o10
                  have N2 := hid n2
                  clear n2 hq10 f10 b10 o10 h9 F9 HSE
                  go_wp2_with fail
                  refine hL.out.mono ?_
                  clear hL
                  rintro e w11 ⟨rfl, rfl⟩
                  have hTn : ((T9.size : Int) != (T9.size : Int)) = false := by simp
                  go_wp2_with fail
                  go_loopw [173] (fun i wr => ∃ j : Nat, j ≤ zs9.length ∧ i = .int .i64 (j : Int) ∧ (∃ cs : List Int, cs.length = zs9.length ∧ wr.ownsRow 0 5 1 (.slice (some ⟨q10, 0, none⟩) zs9.length zs9.length) zs9.length (cs.map (Value.int .u8))) ∧ Pn wr w1.heap.size v9 zs9 ∧ Fr (fun _ => False) w wr) (fun i _ => zs9.length - (intOf i).toNat)
                  case atStart => exact ⟨0, Nat.zero_le _, rfl, ⟨zs9.map (fun (z : Nat) => (z : Int)), by simp, by simpa [rowOf, Function.comp_def] using O10.out⟩, h10, F10⟩
                  case round =>
                    obtain ⟨j, hj, rfl, ⟨cs, hcs, ox⟩, hx, fx⟩ := hrel
                    clear O10 h10 F10 hcv
                    by_cases hjl : j < zs9.length
                    · have hcv := ownsRow_cell ox j (.int .u8 (cs.getD j 0)) (by simp [List.getD, show j < cs.length by omega])
                      have hfz := ownsRow_thaw ox
                      have hji : (j : Int) < (zs9.length : Int) := by omega
                      obtain ⟨c, hcc⟩ : ∃ c, c = cs.getD j 0 := ⟨_, rfl⟩
                      rw [← hcc] at hcv
                      clear hcc
                      go_wp2
                      go_roundw
                      case rel =>
                        refine ⟨j + 1, by omega, by go_num, ⟨cs.set j ((c + 1) % 256), by simpa using hcs, ?_⟩, ?_, fx.setCell (fun h => by simp at h; omega) _⟩
                        · have := ownsRow_set ox j (.int .u8 ((c + 1) % 256))
                          simpa [List.map_set] using this
                        · exact hx.fr ((Fr.refl (fun b => b = q10) wr).setCell (fun _ => rfl) _) (by omega) (fun i hi e => by have := N2.out i hi; omega)
                      case measure => simp [intOf]; omega
                    · have hji : ¬ (j : Int) < (zs9.length : Int) := by omega
                      clear ox hcs
                      go_wp2
                      go_roundw
                      case rel => exact ⟨k + 1, v9, zs9, by omega, by omega, by go_num, congrArg Value.string HT9.out, hx, O9, hl9, fx⟩
                      case measure => simp [intOf]; omega
              · have hx0 : 0 ≤ x := by omega
                have hx1 : ¬ x < 256 := by omega
                have hB : hasB x = false := by unfold hasB; simp only [decide_eq_false_iff_not]; omega
                have hC := hid (show byteC x = [] by unfold byteC; rw [hB]; rfl)
                have hd0 : decide (0 ≤ x) = true := by first | (simp; done) | (simp; omega)
                have hd1 : decide (x < 256) = false := by first | (simp; done) | (simp; omega)
                have D1 := hid (hnb.cell 1)
                have hne1 : ¬ wr.heap.size = w1.heap.size := by omega
                have HNE := hid hne2
                clear hne2
                go_wp2_with fail
                go_region_held3 (fun w' => w'.cell? ⟨wr.heap.size, 1, none⟩ = some (.int .i64 x)) (go_keep) (first | (go_at_call_of 16 (Value.pointer none); refine (pbyte_nil _ _).mono ?_; rintro e w8 ⟨rfl, rfl⟩) | (go_at_call 16; refine (pbyte_any _ w1.heap.size v zs x h7.drew (by omega)).mono ?_; rintro e w8 ⟨rfl, g8⟩; rw [hB]; have d8 := held_pen g8 hne1 HNE.out D1.out))
                obtain ⟨v9, h8, F8, O9, _⟩ := g8.outer F7.drew (by omega) O7
                rw [hC.out] at h8
                clear h7 F7 O7 g8 D1
                have HSE := hid (show S = strOf zs from HS.out)
                rw [List.append_nil] at h8
                obtain ⟨zs9, hz9⟩ : ∃ z, z = zs := ⟨_, rfl⟩
                rw [← hz9] at h8 HSE hzl
                have h9 := h8
                have F9 := F8
                have hl9 : zs9.length ≤ 104 * (k + 1) := by omega
                clear h8 F8 hz9
                as_aux_lemma =>
                  obtain ⟨T9, hT9⟩ : ∃ T9, T9 = strOf zs9 := ⟨_, rfl⟩
                  rw [← hT9] at HSE
                  have HT9s := hid (show T9.size = zs9.length by rw [hT9, strOf_size])
                  have HT9 := hid hT9
                  have hT9z : T9.size ≤ 6400 := by rw [hT9, strOf_size]; omega
                  clear hT9
                  have hl9' : zs9.length ≤ 6240 := by omega
                  go_wp2_with fail
                  rw [HSE.out]
                  refine (pbytes_any _ w1.heap.size v9 zs9 h9 (by omega)).mono ?_
                  rintro e w10 ⟨q10, rfl, b10, hq10, f10⟩
                  have n1 : w1.heap.size < q10 := by have := h9.blk.lt; omega
                  have n2 : ∀ j, v9.ownBlock = some j → j < q10 := by intro j hj; have := h9.own.lt j hj; omega
                  have n3 : w.heap.size ≤ q10 := by have := F9.size; omega
                  have h10 := h9.fr f10 (fun h => h) (fun _ _ h => h)
                  have F10 := F9.trans' f10
                  have hcv := conv_bytes w10 q10 zs9 zs9.length 5 b10
                  rw [← HT9.out] at hcv
                  have hL := hid (plen_any _ _ _ _ h10)
                  rw [← HT9s.out] at hL
                  have o10 := ownsRow_blk (base := 0) b10 (Nat.zero_le _) (by omega)
                  have O10 := hid o10
                  have N2 := hid n2
                  clear n2 hq10 f10 b10 o10 h9 F9 HSE
                  go_wp2_with fail
                  refine hL.out.mono ?_
                  clear hL
                  rintro e w11 ⟨rfl, rfl⟩
                  have hTn : ((T9.size : Int) != (T9.size : Int)) = false := by simp
                  go_wp2_with fail
                  go_loopw [173] (fun i wr => ∃ j : Nat, j ≤ zs9.length ∧ i = .int .i64 (j : Int) ∧ (∃ cs : List Int, cs.length = zs9.length ∧ wr.ownsRow 0 5 1 (.slice (some ⟨q10, 0, none⟩) zs9.length zs9.length) zs9.length (cs.map (Value.int .u8))) ∧ Pn wr w1.heap.size v9 zs9 ∧ Fr (fun _ => False) w wr) (fun i _ => zs9.length - (intOf i).toNat)
                  case atStart => exact ⟨0, Nat.zero_le _, rfl, ⟨zs9.map (fun (z : Nat) => (z : Int)), by simp, by simpa [rowOf, Function.comp_def] using O10.out⟩, h10, F10⟩
                  case round =>
                    obtain ⟨j, hj, rfl, ⟨cs, hcs, ox⟩, hx, fx⟩ := hrel
                    clear O10 h10 F10 hcv
                    by_cases hjl : j < zs9.length
                    · have hcv := ownsRow_cell ox j (.int .u8 (cs.getD j 0)) (by simp [List.getD, show j < cs.length by omega])
                      have hfz := ownsRow_thaw ox
                      have hji : (j : Int) < (zs9.length : Int) := by omega
                      obtain ⟨c, hcc⟩ : ∃ c, c = cs.getD j 0 := ⟨_, rfl⟩
                      rw [← hcc] at hcv
                      clear hcc
                      go_wp2
                      go_roundw
                      case rel =>
                        refine ⟨j + 1, by omega, by go_num, ⟨cs.set j ((c + 1) % 256), by simpa using hcs, ?_⟩, ?_, fx.setCell (fun h => by simp at h; omega) _⟩
                        · have := ownsRow_set ox j (.int .u8 ((c + 1) % 256))
                          simpa [List.map_set] using this
                        · exact hx.fr ((Fr.refl (fun b => b = q10) wr).setCell (fun _ => rfl) _) (by omega) (fun i hi e => by have := N2.out i hi; omega)
                      case measure => simp [intOf]; omega
                    · have hji : ¬ (j : Int) < (zs9.length : Int) := by omega
                      clear ox hcs
                      go_wp2
                      go_roundw
                      case rel => exact ⟨k + 1, v9, zs9, by omega, by omega, by go_num, congrArg Value.string HT9.out, hx, O9, hl9, fx⟩
                      case measure => simp [intOf]; omega
          · as_aux_lemma =>
              have hxr : x < 0 ∨ (0 ≤ x ∧ x < 4294967296) ∨ 4294967296 ≤ x := by omega
              rcases hxr with hx | hx | hx
              · have hx0 : ¬ 0 ≤ x := by omega
                have hW : hasW x = false := by unfold hasW; simp only [decide_eq_false_iff_not]; omega
                have hC := hid (show wordC x = [] by unfold wordC; rw [hW]; rfl)
                have D1 := hid (hnb.cell 1)
                have hne1 : ¬ wr.heap.size = w1.heap.size := by omega
                have hP := hid (pword_any _ w1.heap.size v zs x h7 (by omega))
                rw [hW] at hP
                go_wp2_with fail
                refine hP.out.mono ?_
                clear hP
                rintro e w8 ⟨rfl, g8⟩
                have d8 := held_pen g8 hne1 hne2 D1.out
                obtain ⟨v9, h8, F8, O9, _⟩ := g8.outer F7 (by omega) O7
                rw [hC.out] at h8
                clear h7 F7 O7 g8 D1
                go_wp2_with fail
                refine (pword_nil _ _).mono ?_
                rintro e w9a ⟨rfl, f9a⟩
                have d9 := (f9a.cell (p := ⟨wr.heap.size, 1, none⟩) (cell_lt d8) (fun h => h)).trans d8
                have h9a := h8.fr f9a (fun h => h) (fun _ _ h => h)
                have F9a := F8.trans' f9a
                clear h8 F8 f9a d8
                have HSE := hid (show S = strOf zs from HS.out)
                rw [List.append_nil] at h9a
                obtain ⟨zs9, hz9⟩ : ∃ z, z = zs := ⟨_, rfl⟩
                rw [← hz9] at h9a HSE hzl
                have h9 := h9a
                have F9 := F9a
                have hl9 : zs9.length ≤ 104 * (k + 1) := by omega
                clear h9a F9a hz9
                as_aux_lemma =>
                  obtain ⟨T9, hT9⟩ : ∃ T9, T9 = strOf zs9 := ⟨_, rfl⟩
                  rw [← hT9] at HSE
                  have HT9s := hid (show T9.size = zs9.length by rw [hT9, strOf_size])
                  have HT9 := hid hT9
                  have hT9z : T9.size ≤ 6400 := by rw [hT9, strOf_size]; omega
                  clear hT9
                  have hl9' : zs9.length ≤ 6240 := by omega
                  go_wp2_with fail
                  rw [HSE.out]
                  refine (pbytes_any _ w1.heap.size v9 zs9 h9 (by omega)).mono ?_
                  rintro e w10 ⟨q10, rfl, b10, hq10, f10⟩
                  have n1 : w1.heap.size < q10 := by have := h9.blk.lt; omega
                  have n2 : ∀ j, v9.ownBlock = some j → j < q10 := by intro j hj; have := h9.own.lt j hj; omega
                  have n3 : w.heap.size ≤ q10 := by have := F9.size; omega
                  have h10 := h9.fr f10 (fun h => h) (fun _ _ h => h)
                  have F10 := F9.trans' f10
                  have hcv := conv_bytes w10 q10 zs9 zs9.length 5 b10
                  rw [← HT9.out] at hcv
                  have hL := hid (plen_any _ _ _ _ h10)
                  rw [← HT9s.out] at hL
                  have o10 := ownsRow_blk (base := 0) b10 (Nat.zero_le _) (by omega)
                  have O10 := hid o10
                  have N2 := hid n2
                  clear n2 hq10 f10 b10 o10 h9 F9 HSE
                  go_wp2_with fail
                  refine hL.out.mono ?_
                  clear hL
                  rintro e w11 ⟨rfl, rfl⟩
                  have hTn : ((T9.size : Int) != (T9.size : Int)) = false := by simp
                  go_wp2_with fail
                  go_loopw [173] (fun i wr => ∃ j : Nat, j ≤ zs9.length ∧ i = .int .i64 (j : Int) ∧ (∃ cs : List Int, cs.length = zs9.length ∧ wr.ownsRow 0 5 1 (.slice (some ⟨q10, 0, none⟩) zs9.length zs9.length) zs9.length (cs.map (Value.int .u8))) ∧ Pn wr w1.heap.size v9 zs9 ∧ Fr (fun _ => False) w wr) (fun i _ => zs9.length - (intOf i).toNat)
                  case atStart => exact ⟨0, Nat.zero_le _, rfl, ⟨zs9.map (fun (z : Nat) => (z : Int)), by simp, by simpa [rowOf, Function.comp_def] using O10.out⟩, h10, F10⟩
                  case round =>
                    obtain ⟨j, hj, rfl, ⟨cs, hcs, ox⟩, hx, fx⟩ := hrel
                    clear O10 h10 F10 hcv
                    by_cases hjl : j < zs9.length
                    · have hcv := ownsRow_cell ox j (.int .u8 (cs.getD j 0)) (by simp [List.getD, show j < cs.length by omega])
                      have hfz := ownsRow_thaw ox
                      have hji : (j : Int) < (zs9.length : Int) := by omega
                      obtain ⟨c, hcc⟩ : ∃ c, c = cs.getD j 0 := ⟨_, rfl⟩
                      rw [← hcc] at hcv
                      clear hcc
                      go_wp2
                      go_roundw
                      case rel =>
                        refine ⟨j + 1, by omega, by go_num, ⟨cs.set j ((c + 1) % 256), by simpa using hcs, ?_⟩, ?_, fx.setCell (fun h => by simp at h; omega) _⟩
                        · have := ownsRow_set ox j (.int .u8 ((c + 1) % 256))
                          simpa [List.map_set] using this
                        · exact hx.fr ((Fr.refl (fun b => b = q10) wr).setCell (fun _ => rfl) _) (by omega) (fun i hi e => by have := N2.out i hi; omega)
                      case measure => simp [intOf]; omega
                    · have hji : ¬ (j : Int) < (zs9.length : Int) := by omega
                      clear ox hcs
                      go_wp2
                      go_roundw
                      case rel => exact ⟨k + 1, v9, zs9, by omega, by omega, by go_num, congrArg Value.string HT9.out, hx, O9, hl9, fx⟩
                      case measure => simp [intOf]; omega
              · obtain ⟨hx0, hx1⟩ := hx
                obtain ⟨y, rfl⟩ := Int.eq_ofNat_of_zero_le hx0
                have hy : y < 4294967296 := by omega
                have hW : hasW (y : Int) = true := by unfold hasW; simp only [decide_eq_true_eq]; omega
                have hC := hid (show wordC (y : Int) = word4 y by unfold wordC; rw [hW]; rfl)
                have D1 := hid (hnb.cell 1)
                have hne1 : ¬ wr.heap.size = w1.heap.size := by omega
                have hP := hid (pword_any _ w1.heap.size v zs (y : Int) h7 (by omega))
                rw [hW] at hP
                go_wp2_with fail
                refine hP.out.mono ?_
                clear hP
                rintro e w8 ⟨rfl, g8⟩
                have d8 := held_pen g8 hne1 hne2 D1.out
                obtain ⟨v9, h8, F8, O9, _⟩ := g8.outer F7 (by omega) O7
                rw [hC.out] at h8
                clear h7 F7 O7 g8 D1
                go_wp2_with fail
                refine (pword_nil _ _).mono ?_
                rintro e w9a ⟨rfl, f9a⟩
                have d9 := (f9a.cell (p := ⟨wr.heap.size, 1, none⟩) (cell_lt d8) (fun h => h)).trans d8
                have h9a := h8.fr f9a (fun h => h) (fun _ _ h => h)
                have F9a := F8.trans' f9a
                clear h8 F8 f9a d8
                go_wp2_with fail
                refine (refWord_any _ y hy).mono ?_
                rintro e w9 ⟨rfl, f9⟩
                obtain ⟨X, hX⟩ : ∃ X, X = strOf (word4 y) := ⟨_, rfl⟩
                rw [← hX]
                have hXz : X.size ≤ 200 := by rw [hX, strOf_size, word4_length]; omega
                have HSE := hid (show S ++ X = strOf (zs ++ word4 y) by rw [HS.out, hX, strOf_append])
                clear hX
                have hl9 : (zs ++ word4 y).length ≤ 104 * (k + 1) := by simp [word4]; omega
                obtain ⟨zs9, hz9⟩ : ∃ z, z = zs ++ word4 y := ⟨_, rfl⟩
                rw [← hz9] at h9a HSE hl9
                have h9 := h9a.fr f9 (fun h => h) (fun _ _ h => h)
                have F9 := F9a.trans' f9
                clear h9a F9a hz9 f9 d9
                as_aux_lemma =>
                  obtain ⟨T9, hT9⟩ : ∃ T9, T9 = strOf zs9 := ⟨_, rfl⟩
                  rw [← hT9] at HSE
                  have HT9s := hid (show T9.size = zs9.length by rw [hT9, strOf_size])
                  have HT9 := hid hT9
                  have hT9z : T9.size ≤ 6400 := by rw [hT9, strOf_size]; omega
                  clear hT9
                  have hl9' : zs9.length ≤ 6240 := by omega
                  go_wp2_with fail
                  rw [HSE.out]
                  refine (pbytes_any _ w1.heap.size v9 zs9 h9 (by omega)).mono ?_
                  rintro e w10 ⟨q10, rfl, b10, hq10, f10⟩
                  have n1 : w1.heap.size < q10 := by have := h9.blk.lt; omega
                  have n2 : ∀ j, v9.ownBlock = some j → j < q10 := by intro j hj; have := h9.own.lt j hj; omega
                  have n3 : w.heap.size ≤ q10 := by have := F9.size; omega
                  have h10 := h9.fr f10 (fun h => h) (fun _ _ h => h)
                  have F10 := F9.trans' f10
                  have hcv := conv_bytes w10 q10 zs9 zs9.length 5 b10
                  rw [← HT9.out] at hcv
                  have hL := hid (plen_any _ _ _ _ h10)
                  rw [← HT9s.out] at hL
                  have o10 := ownsRow_blk (base := 0) b10 (Nat.zero_le _) (by omega)
                  have O10 := hid o10
                  have N2 := hid n2
                  clear n2 hq10 f10 b10 o10 h9 F9 HSE
                  go_wp2_with fail
                  refine hL.out.mono ?_
                  clear hL
                  rintro e w11 ⟨rfl, rfl⟩
                  have hTn : ((T9.size : Int) != (T9.size : Int)) = false := by simp
                  go_wp2_with fail
                  go_loopw [173] (fun i wr => ∃ j : Nat, j ≤ zs9.length ∧ i = .int .i64 (j : Int) ∧ (∃ cs : List Int, cs.length = zs9.length ∧ wr.ownsRow 0 5 1 (.slice (some ⟨q10, 0, none⟩) zs9.length zs9.length) zs9.length (cs.map (Value.int .u8))) ∧ Pn wr w1.heap.size v9 zs9 ∧ Fr (fun _ => False) w wr) (fun i _ => zs9.length - (intOf i).toNat)
                  case atStart => exact ⟨0, Nat.zero_le _, rfl, ⟨zs9.map (fun (z : Nat) => (z : Int)), by simp, by simpa [rowOf, Function.comp_def] using O10.out⟩, h10, F10⟩
                  case round =>
                    obtain ⟨j, hj, rfl, ⟨cs, hcs, ox⟩, hx, fx⟩ := hrel
                    clear O10 h10 F10 hcv
                    by_cases hjl : j < zs9.length
                    · have hcv := ownsRow_cell ox j (.int .u8 (cs.getD j 0)) (by simp [List.getD, show j < cs.length by omega])
                      have hfz := ownsRow_thaw ox
                      have hji : (j : Int) < (zs9.length : Int) := by omega
                      obtain ⟨c, hcc⟩ : ∃ c, c = cs.getD j 0 := ⟨_, rfl⟩
                      rw [← hcc] at hcv
                      clear hcc
                      go_wp2
                      go_roundw
                      case rel =>
                        refine ⟨j + 1, by omega, by go_num, ⟨cs.set j ((c + 1) % 256), by simpa using hcs, ?_⟩, ?_, fx.setCell (fun h => by simp at h; omega) _⟩
                        · have := ownsRow_set ox j (.int .u8 ((c + 1) % 256))
                          simpa [List.map_set] using this
                        · exact hx.fr ((Fr.refl (fun b => b = q10) wr).setCell (fun _ => rfl) _) (by omega) (fun i hi e => by have := N2.out i hi; omega)
                      case measure => simp [intOf]; omega
                    · have hji : ¬ (j : Int) < (zs9.length : Int) := by omega
                      clear ox hcs
                      go_wp2
                      go_roundw
                      case rel => exact ⟨k + 1, v9, zs9, by omega, by omega, by go_num, congrArg Value.string HT9.out, hx, O9, hl9, fx⟩
                      case measure => simp [intOf]; omega
              · have hx0 : 0 ≤ x := by omega
                have hx1 : ¬ x < 4294967296 := by omega
                have hW : hasW x = false := by unfold hasW; simp only [decide_eq_false_iff_not]; omega
                have hC := hid (show wordC x = [] by unfold wordC; rw [hW]; rfl)
                have D1 := hid (hnb.cell 1)
                have hne1 : ¬ wr.heap.size = w1.heap.size := by omega
                have hP := hid (pword_any _ w1.heap.size v zs x h7 (by omega))
                rw [hW] at hP
                go_wp2_with fail
                refine hP.out.mono ?_
                clear hP
                rintro e w8 ⟨rfl, g8⟩
                have d8 := held_pen g8 hne1 hne2 D1.out
                obtain ⟨v9, h8, F8, O9, _⟩ := g8.outer F7 (by omega) O7
                rw [hC.out] at h8
                clear h7 F7 O7 g8 D1
                go_wp2_with fail
                refine (pword_nil _ _).mono ?_
                rintro e w9a ⟨rfl, f9a⟩
                have d9 := (f9a.cell (p := ⟨wr.heap.size, 1, none⟩) (cell_lt d8) (fun h => h)).trans d8
                have h9a := h8.fr f9a (fun h => h) (fun _ _ h => h)
                have F9a := F8.trans' f9a
                clear h8 F8 f9a d8
                have HSE := hid (show S = strOf zs from HS.out)
                rw [List.append_nil] at h9a
                obtain ⟨zs9, hz9⟩ : ∃ z, z = zs := ⟨_, rfl⟩
                rw [← hz9] at h9a HSE hzl
                have h9 := h9a
                have F9 := F9a
                have hl9 : zs9.length ≤ 104 * (k + 1) := by omega
                clear h9a F9a hz9
                as_aux_lemma =>
                  obtain ⟨T9, hT9⟩ : ∃ T9, T9 = strOf zs9 := ⟨_, rfl⟩
                  rw [← hT9] at HSE
                  have HT9s := hid (show T9.size = zs9.length by rw [hT9, strOf_size])
                  have HT9 := hid hT9
                  have hT9z : T9.size ≤ 6400 := by rw [hT9, strOf_size]; omega
                  clear hT9
                  have hl9' : zs9.length ≤ 6240 := by omega
                  go_wp2_with fail
                  rw [HSE.out]
                  refine (pbytes_any _ w1.heap.size v9 zs9 h9 (by omega)).mono ?_
                  rintro e w10 ⟨q10, rfl, b10, hq10, f10⟩
                  have n1 : w1.heap.size < q10 := by have := h9.blk.lt; omega
                  have n2 : ∀ j, v9.ownBlock = some j → j < q10 := by intro j hj; have := h9.own.lt j hj; omega
                  have n3 : w.heap.size ≤ q10 := by have := F9.size; omega
                  have h10 := h9.fr f10 (fun h => h) (fun _ _ h => h)
                  have F10 := F9.trans' f10
                  have hcv := conv_bytes w10 q10 zs9 zs9.length 5 b10
                  rw [← HT9.out] at hcv
                  have hL := hid (plen_any _ _ _ _ h10)
                  rw [← HT9s.out] at hL
                  have o10 := ownsRow_blk (base := 0) b10 (Nat.zero_le _) (by omega)
                  have O10 := hid o10
                  have N2 := hid n2
                  clear n2 hq10 f10 b10 o10 h9 F9 HSE
                  go_wp2_with fail
                  refine hL.out.mono ?_
                  clear hL
                  rintro e w11 ⟨rfl, rfl⟩
                  have hTn : ((T9.size : Int) != (T9.size : Int)) = false := by simp
                  go_wp2_with fail
                  go_loopw [173] (fun i wr => ∃ j : Nat, j ≤ zs9.length ∧ i = .int .i64 (j : Int) ∧ (∃ cs : List Int, cs.length = zs9.length ∧ wr.ownsRow 0 5 1 (.slice (some ⟨q10, 0, none⟩) zs9.length zs9.length) zs9.length (cs.map (Value.int .u8))) ∧ Pn wr w1.heap.size v9 zs9 ∧ Fr (fun _ => False) w wr) (fun i _ => zs9.length - (intOf i).toNat)
                  case atStart => exact ⟨0, Nat.zero_le _, rfl, ⟨zs9.map (fun (z : Nat) => (z : Int)), by simp, by simpa [rowOf, Function.comp_def] using O10.out⟩, h10, F10⟩
                  case round =>
                    obtain ⟨j, hj, rfl, ⟨cs, hcs, ox⟩, hx, fx⟩ := hrel
                    clear O10 h10 F10 hcv
                    by_cases hjl : j < zs9.length
                    · have hcv := ownsRow_cell ox j (.int .u8 (cs.getD j 0)) (by simp [List.getD, show j < cs.length by omega])
                      have hfz := ownsRow_thaw ox
                      have hji : (j : Int) < (zs9.length : Int) := by omega
                      obtain ⟨c, hcc⟩ : ∃ c, c = cs.getD j 0 := ⟨_, rfl⟩
                      rw [← hcc] at hcv
                      clear hcc
                      go_wp2
                      go_roundw
                      case rel =>
                        refine ⟨j + 1, by omega, by go_num, ⟨cs.set j ((c + 1) % 256), by simpa using hcs, ?_⟩, ?_, fx.setCell (fun h => by simp at h; omega) _⟩
                        · have := ownsRow_set ox j (.int .u8 ((c + 1) % 256))
                          simpa [List.map_set] using this
                        · exact hx.fr ((Fr.refl (fun b => b = q10) wr).setCell (fun _ => rfl) _) (by omega) (fun i hi e => by have := N2.out i hi; omega)
                      case measure => simp [intOf]; omega
                    · have hji : ¬ (j : Int) < (zs9.length : Int) := by omega
                      clear ox hcs
                      go_wp2
                      go_roundw
                      case rel => exact ⟨k + 1, v9, zs9, by omega, by omega, by go_num, congrArg Value.string HT9.out, hx, O9, hl9, fx⟩
                      case measure => simp [intOf]; omega
          · as_aux_lemma =>
              by_cases hx0 : 0 ≤ x
              · skip
                have D3 := hid (hnb.cell 3)
                have hne1 : ¬ wr.heap.size = w1.heap.size := by omega
                have hlb : zb.length ≤ 100 := by have := HZB.out; omega
                have hP := hid (padd_any _ w1.heap.size v zs (.slice al ln cp) zb h7 (Reads.of_in HZB.out (HIN.out.fr F7)) (by intro c hc; simp at hc; obtain ⟨e1, e2, e3⟩ := hc; have := HIN.out.nil e1; omega) HSM.out (by omega) (by omega))
                go_wp2_with fail
                refine hP.out.mono ?_
                clear hP
                rintro e w8 ⟨rfl, g8⟩
                have d8 := held_pen g8 hne1 hne2 D3.out
                obtain ⟨v9, h8, F8, O9, _⟩ := g8.outer F7 (by omega) O7
                clear h7 F7 O7 g8 D3
                go_wp2_with fail
                refine (padd_nil _ _).mono ?_
                rintro e w9 ⟨rfl, rfl⟩
                have hcv := conv_in HZB.out (HIN.out.fr F8)
                obtain ⟨X, hX⟩ : ∃ X, X = strOf zb := ⟨_, rfl⟩
                have hXz : X.size ≤ 200 := by rw [hX, strOf_size]; omega
                rw [← hX] at hcv
                have HSE := hid (show S ++ X = strOf (zs ++ zb) by rw [HS.out, hX, strOf_append])
                clear hX
                have hl9 : (zs ++ zb).length ≤ 104 * (k + 1) := by simp; omega
                obtain ⟨zs9, hz9⟩ : ∃ z, z = zs ++ zb := ⟨_, rfl⟩
                rw [← hz9] at h8 HSE hl9
                have h9 := h8
                have F9 := F8
                clear h8 F8 hz9
                as_aux_lemma =>
                  obtain ⟨T9, hT9⟩ : ∃ T9, T9 = strOf zs9 := ⟨_, rfl⟩
                  rw [← hT9] at HSE
                  have HT9s := hid (show T9.size = zs9.length by rw [hT9, strOf_size])
                  have HT9 := hid hT9
                  have hT9z : T9.size ≤ 6400 := by rw [hT9, strOf_size]; omega
                  clear hT9
                  have hl9' : zs9.length ≤ 6240 := by omega
                  go_wp2_with fail
                  rw [HSE.out]
                  refine (pbytes_any _ w1.heap.size v9 zs9 h9 (by omega)).mono ?_
                  rintro e w10 ⟨q10, rfl, b10, hq10, f10⟩
                  have n1 : w1.heap.size < q10 := by have := h9.blk.lt; omega
                  have n2 : ∀ j, v9.ownBlock = some j → j < q10 := by intro j hj; have := h9.own.lt j hj; omega
                  have n3 : w.heap.size ≤ q10 := by have := F9.size; omega
                  have h10 := h9.fr f10 (fun h => h) (fun _ _ h => h)
                  have F10 := F9.trans' f10
                  have hcv := conv_bytes w10 q10 zs9 zs9.length 5 b10
                  rw [← HT9.out] at hcv
                  have hL := hid (plen_any _ _ _ _ h10)
                  rw [← HT9s.out] at hL
                  have o10 := ownsRow_blk (base := 0) b10 (Nat.zero_le _) (by omega)
                  have O10 := hid o10
                  have N2 := hid n2
                  clear n2 hq10 f10 b10 o10 h9 F9 HSE
                  go_wp2_with fail
                  refine hL.out.mono ?_
                  clear hL
                  rintro e w11 ⟨rfl, rfl⟩
                  have hTn : ((T9.size : Int) != (T9.size : Int)) = false := by simp
                  go_wp2_with fail
                  go_loopw [173] (fun i wr => ∃ j : Nat, j ≤ zs9.length ∧ i = .int .i64 (j : Int) ∧ (∃ cs : List Int, cs.length = zs9.length ∧ wr.ownsRow 0 5 1 (.slice (some ⟨q10, 0, none⟩) zs9.length zs9.length) zs9.length (cs.map (Value.int .u8))) ∧ Pn wr w1.heap.size v9 zs9 ∧ Fr (fun _ => False) w wr) (fun i _ => zs9.length - (intOf i).toNat)
                  case atStart => exact ⟨0, Nat.zero_le _, rfl, ⟨zs9.map (fun (z : Nat) => (z : Int)), by simp, by simpa [rowOf, Function.comp_def] using O10.out⟩, h10, F10⟩
                  case round =>
                    obtain ⟨j, hj, rfl, ⟨cs, hcs, ox⟩, hx, fx⟩ := hrel
                    clear O10 h10 F10 hcv
                    by_cases hjl : j < zs9.length
                    · have hcv := ownsRow_cell ox j (.int .u8 (cs.getD j 0)) (by simp [List.getD, show j < cs.length by omega])
                      have hfz := ownsRow_thaw ox
                      have hji : (j : Int) < (zs9.length : Int) := by omega
                      obtain ⟨c, hcc⟩ : ∃ c, c = cs.getD j 0 := ⟨_, rfl⟩
                      rw [← hcc] at hcv
                      clear hcc
                      go_wp2
                      go_roundw
                      case rel =>
                        refine ⟨j + 1, by omega, by go_num, ⟨cs.set j ((c + 1) % 256), by simpa using hcs, ?_⟩, ?_, fx.setCell (fun h => by simp at h; omega) _⟩
                        · have := ownsRow_set ox j (.int .u8 ((c + 1) % 256))
                          simpa [List.map_set] using this
                        · exact hx.fr ((Fr.refl (fun b => b = q10) wr).setCell (fun _ => rfl) _) (by omega) (fun i hi e => by have := N2.out i hi; omega)
                      case measure => simp [intOf]; omega
                    · have hji : ¬ (j : Int) < (zs9.length : Int) := by omega
                      clear ox hcs
                      go_wp2
                      go_roundw
                      case rel => exact ⟨k + 1, v9, zs9, by omega, by omega, by go_num, congrArg Value.string HT9.out, hx, O9, hl9, fx⟩
                      case measure => simp [intOf]; omega
              · skip
                have D3 := hid (hnb.cell 3)
                have hne1 : ¬ wr.heap.size = w1.heap.size := by omega
                have hlb : zb.length ≤ 100 := by have := HZB.out; omega
                have hP := hid (padd_any _ w1.heap.size v zs (.slice al ln cp) zb h7 (Reads.of_in HZB.out (HIN.out.fr F7)) (by intro c hc; simp at hc; obtain ⟨e1, e2, e3⟩ := hc; have := HIN.out.nil e1; omega) HSM.out (by omega) (by omega))
                go_wp2_with fail
                refine hP.out.mono ?_
                clear hP
                rintro e w8 ⟨rfl, g8⟩
                have d8 := held_pen g8 hne1 hne2 D3.out
                obtain ⟨v9, h8, F8, O9, _⟩ := g8.outer F7 (by omega) O7
                clear h7 F7 O7 g8 D3
                go_wp2_with fail
                refine (padd_nil _ _).mono ?_
                rintro e w9 ⟨rfl, rfl⟩
                have hcv := conv_in HZB.out (HIN.out.fr F8)
                obtain ⟨X, hX⟩ : ∃ X, X = strOf zb := ⟨_, rfl⟩
                have hXz : X.size ≤ 200 := by rw [hX, strOf_size]; omega
                rw [← hX] at hcv
                have HSE := hid (show S ++ X = strOf (zs ++ zb) by rw [HS.out, hX, strOf_append])
                clear hX
                have hl9 : (zs ++ zb).length ≤ 104 * (k + 1) := by simp; omega
                obtain ⟨zs9, hz9⟩ : ∃ z, z = zs ++ zb := ⟨_, rfl⟩
                rw [← hz9] at h8 HSE hl9
                have h9 := h8
                have F9 := F8
                clear h8 F8 hz9
                as_aux_lemma =>
                  obtain ⟨T9, hT9⟩ : ∃ T9, T9 = strOf zs9 := ⟨_, rfl⟩
                  rw [← hT9] at HSE
                  have HT9s := hid (show T9.size = zs9.length by rw [hT9, strOf_size])
                  have HT9 := hid hT9
                  have hT9z : T9.size ≤ 6400 := by rw [hT9, strOf_size]; omega
                  clear hT9
                  have hl9' : zs9.length ≤ 6240 := by omega
                  go_wp2_with fail
                  rw [HSE.out]
                  refine (pbytes_any _ w1.heap.size v9 zs9 h9 (by omega)).mono ?_
                  rintro e w10 ⟨q10, rfl, b10, hq10, f10⟩
                  have n1 : w1.heap.size < q10 := by have := h9.blk.lt; omega
                  have n2 : ∀ j, v9.ownBlock = some j → j < q10 := by intro j hj; have := h9.own.lt j hj; omega
                  have n3 : w.heap.size ≤ q10 := by have := F9.size; omega
                  have h10 := h9.fr f10 (fun h => h) (fun _ _ h => h)
                  have F10 := F9.trans' f10
                  have hcv := conv_bytes w10 q10 zs9 zs9.length 5 b10
                  rw [← HT9.out] at hcv
                  have hL := hid (plen_any _ _ _ _ h10)
                  rw [← HT9s.out] at hL
                  have o10 := ownsRow_blk (base := 0) b10 (Nat.zero_le _) (by omega)
                  have O10 := hid o10
                  have N2 := hid n2
                  clear n2 hq10 f10 b10 o10 h9 F9 HSE
                  go_wp2_with fail
                  refine hL.out.mono ?_
                  clear hL
                  rintro e w11 ⟨rfl, rfl⟩
                  have hTn : ((T9.size : Int) != (T9.size : Int)) = false := by simp
                  go_wp2_with fail
                  go_loopw [173] (fun i wr => ∃ j : Nat, j ≤ zs9.length ∧ i = .int .i64 (j : Int) ∧ (∃ cs : List Int, cs.length = zs9.length ∧ wr.ownsRow 0 5 1 (.slice (some ⟨q10, 0, none⟩) zs9.length zs9.length) zs9.length (cs.map (Value.int .u8))) ∧ Pn wr w1.heap.size v9 zs9 ∧ Fr (fun _ => False) w wr) (fun i _ => zs9.length - (intOf i).toNat)
                  case atStart => exact ⟨0, Nat.zero_le _, rfl, ⟨zs9.map (fun (z : Nat) => (z : Int)), by simp, by simpa [rowOf, Function.comp_def] using O10.out⟩, h10, F10⟩
                  case round =>
                    obtain ⟨j, hj, rfl, ⟨cs, hcs, ox⟩, hx, fx⟩ := hrel
                    clear O10 h10 F10 hcv
                    by_cases hjl : j < zs9.length
                    · have hcv := ownsRow_cell ox j (.int .u8 (cs.getD j 0)) (by simp [List.getD, show j < cs.length by omega])
                      have hfz := ownsRow_thaw ox
                      have hji : (j : Int) < (zs9.length : Int) := by omega
                      obtain ⟨c, hcc⟩ : ∃ c, c = cs.getD j 0 := ⟨_, rfl⟩
                      rw [← hcc] at hcv
                      clear hcc
                      go_wp2
                      go_roundw
                      case rel =>
                        refine ⟨j + 1, by omega, by go_num, ⟨cs.set j ((c + 1) % 256), by simpa using hcs, ?_⟩, ?_, fx.setCell (fun h => by simp at h; omega) _⟩
                        · have := ownsRow_set ox j (.int .u8 ((c + 1) % 256))
                          simpa [List.map_set] using this
                        · exact hx.fr ((Fr.refl (fun b => b = q10) wr).setCell (fun _ => rfl) _) (by omega) (fun i hi e => by have := N2.out i hi; omega)
                      case measure => simp [intOf]; omega
                    · have hji : ¬ (j : Int) < (zs9.length : Int) := by omega
                      clear ox hcs
                      go_wp2
                      go_roundw
                      case rel => exact ⟨k + 1, v9, zs9, by omega, by omega, by go_num, congrArg Value.string HT9.out, hx, O9, hl9, fx⟩
                      case measure => simp [intOf]; omega
          · as_aux_lemma =>
              have HSs := hid (show S.size = zs.length by rw [HS.out, strOf_size])
              have hS2 : (S.size : Int) ≤ 6240 := by omega
              have htr : t < 0 ∨ (0 ≤ t ∧ t ≤ (S.size : Int) - 4) ∨ (0 ≤ t ∧ (S.size : Int) - 4 < t) := by omega
              have hxr : x < 0 ∨ (0 ≤ x ∧ x < 4294967296) ∨ 4294967296 ≤ x := by omega
              rcases htr with ht | ht | ht
              · have ht0 : ¬ 0 ≤ t := by omega
                by_cases hx0 : 0 ≤ x
                · skip
                  have hQ : hasP zs.length t x = false := by have hSs := HSs.out; unfold hasP hasW; simp; omega
                  have hC := hid (show patchC zs t x = zs by unfold patchC; rw [hQ]; rfl)
                  have D1 := hid (hnb.cell 1)
                  have D2 := hid (hnb.cell 2)
                  have hne1 : ¬ wr.heap.size = w1.heap.size := by omega
                  have hP := hid (ppatch_any _ w1.heap.size v zs t x h7 (by omega))
                  rw [hQ] at hP
                  clear hQ
                  go_wp2_with fail
                  refine hP.out.mono ?_
                  clear hP
                  rintro e w8 ⟨rfl, g8⟩
                  have d8 := held_pen g8 hne1 hne2 D1.out
                  have e8 := held_pen g8 hne1 hne2 D2.out
                  obtain ⟨v9, h8, F8, O9, _⟩ := g8.outer F7 (by omega) O7
                  rw [hC.out] at h8
                  clear h7 F7 O7 g8 D1 D2
                  go_wp2_with fail
                  refine (ppatch_nil _).mono ?_
                  rintro e w9a ⟨rfl, f9a⟩
                  have d9 := (f9a.cell (p := ⟨wr.heap.size, 1, none⟩) (cell_lt d8) (fun h => h)).trans d8
                  have e9 := (f9a.cell (p := ⟨wr.heap.size, 2, none⟩) (cell_lt e8) (fun h => h)).trans e8
                  have h9a := h8.fr f9a (fun h => h) (fun _ _ h => h)
                  have F9a := F8.trans' f9a
                  clear h8 F8 f9a d8 e8
                  have HSE := hid (show S = strOf zs from HS.out)
                  obtain ⟨zs9, hz9⟩ : ∃ z, z = zs := ⟨_, rfl⟩
                  rw [← hz9] at h9a HSE hzl
                  have h9 := h9a
                  have F9 := F9a
                  have hl9 : zs9.length ≤ 104 * (k + 1) := by omega
                  clear h9a F9a hz9
                  as_aux_lemma =>
                    obtain ⟨T9, hT9⟩ : ∃ T9, T9 = strOf zs9 := ⟨_, rfl⟩
                    rw [← hT9] at HSE
                    have HT9s := hid (show T9.size = zs9.length by rw [hT9, strOf_size])
                    have HT9 := hid hT9
                    have hT9z : T9.size ≤ 6400 := by rw [hT9, strOf_size]; omega
                    clear hT9
                    have hl9' : zs9.length ≤ 6240 := by omega
                    go_wp2_with fail
                    rw [HSE.out]
                    refine (pbytes_any _ w1.heap.size v9 zs9 h9 (by omega)).mono ?_
                    rintro e w10 ⟨q10, rfl, b10, hq10, f10⟩
                    have n1 : w1.heap.size < q10 := by have := h9.blk.lt; omega
                    have n2 : ∀ j, v9.ownBlock = some j → j < q10 := by intro j hj; have := h9.own.lt j hj; omega
                    have n3 : w.heap.size ≤ q10 := by have := F9.size; omega
                    have h10 := h9.fr f10 (fun h => h) (fun _ _ h => h)
                    have F10 := F9.trans' f10
                    have hcv := conv_bytes w10 q10 zs9 zs9.length 5 b10
                    rw [← HT9.out] at hcv
                    have hL := hid (plen_any _ _ _ _ h10)
                    rw [← HT9s.out] at hL
                    have o10 := ownsRow_blk (base := 0) b10 (Nat.zero_le _) (by omega)
                    have O10 := hid o10
                    have N2 := hid n2
                    clear n2 hq10 f10 b10 o10 h9 F9 HSE
                    go_wp2_with fail
                    refine hL.out.mono ?_
                    clear hL
                    rintro e w11 ⟨rfl, rfl⟩
                    have hTn : ((T9.size : Int) != (T9.size : Int)) = false := by simp
                    go_wp2_with fail
                    go_loopw [173] (fun i wr => ∃ j : Nat, j ≤ zs9.length ∧ i = .int .i64 (j : Int) ∧ (∃ cs : List Int, cs.length = zs9.length ∧ wr.ownsRow 0 5 1 (.slice (some ⟨q10, 0, none⟩) zs9.length zs9.length) zs9.length (cs.map (Value.int .u8))) ∧ Pn wr w1.heap.size v9 zs9 ∧ Fr (fun _ => False) w wr) (fun i _ => zs9.length - (intOf i).toNat)
                    case atStart => exact ⟨0, Nat.zero_le _, rfl, ⟨zs9.map (fun (z : Nat) => (z : Int)), by simp, by simpa [rowOf, Function.comp_def] using O10.out⟩, h10, F10⟩
                    case round =>
                      obtain ⟨j, hj, rfl, ⟨cs, hcs, ox⟩, hx, fx⟩ := hrel
                      clear O10 h10 F10 hcv
                      by_cases hjl : j < zs9.length
                      · have hcv := ownsRow_cell ox j (.int .u8 (cs.getD j 0)) (by simp [List.getD, show j < cs.length by omega])
                        have hfz := ownsRow_thaw ox
                        have hji : (j : Int) < (zs9.length : Int) := by omega
                        obtain ⟨c, hcc⟩ : ∃ c, c = cs.getD j 0 := ⟨_, rfl⟩
                        rw [← hcc] at hcv
                        clear hcc
                        go_wp2
                        go_roundw
                        case rel =>
                          refine ⟨j + 1, by omega, by go_num, ⟨cs.set j ((c + 1) % 256), by simpa using hcs, ?_⟩, ?_, fx.setCell (fun h => by simp at h; omega) _⟩
                          · have := ownsRow_set ox j (.int .u8 ((c + 1) % 256))
                            simpa [List.map_set] using this
                          · exact hx.fr ((Fr.refl (fun b => b = q10) wr).setCell (fun _ => rfl) _) (by omega) (fun i hi e => by have := N2.out i hi; omega)
                        case measure => simp [intOf]; omega
                      · have hji : ¬ (j : Int) < (zs9.length : Int) := by omega
                        clear ox hcs
                        go_wp2
                        go_roundw
                        case rel => exact ⟨k + 1, v9, zs9, by omega, by omega, by go_num, congrArg Value.string HT9.out, hx, O9, hl9, fx⟩
                        case measure => simp [intOf]; omega
                · skip
                  have hQ : hasP zs.length t x = false := by have hSs := HSs.out; unfold hasP hasW; simp; omega
                  have hC := hid (show patchC zs t x = zs by unfold patchC; rw [hQ]; rfl)
                  have D1 := hid (hnb.cell 1)
                  have D2 := hid (hnb.cell 2)
                  have hne1 : ¬ wr.heap.size = w1.heap.size := by omega
                  have hP := hid (ppatch_any _ w1.heap.size v zs t x h7 (by omega))
                  rw [hQ] at hP
                  clear hQ
                  go_wp2_with fail
                  refine hP.out.mono ?_
                  clear hP
                  rintro e w8 ⟨rfl, g8⟩
                  have d8 := held_pen g8 hne1 hne2 D1.out
                  have e8 := held_pen g8 hne1 hne2 D2.out
                  obtain ⟨v9, h8, F8, O9, _⟩ := g8.outer F7 (by omega) O7
                  rw [hC.out] at h8
                  clear h7 F7 O7 g8 D1 D2
                  go_wp2_with fail
                  refine (ppatch_nil _).mono ?_
                  rintro e w9a ⟨rfl, f9a⟩
                  have d9 := (f9a.cell (p := ⟨wr.heap.size, 1, none⟩) (cell_lt d8) (fun h => h)).trans d8
                  have e9 := (f9a.cell (p := ⟨wr.heap.size, 2, none⟩) (cell_lt e8) (fun h => h)).trans e8
                  have h9a := h8.fr f9a (fun h => h) (fun _ _ h => h)
                  have F9a := F8.trans' f9a
                  clear h8 F8 f9a d8 e8
                  have HSE := hid (show S = strOf zs from HS.out)
                  obtain ⟨zs9, hz9⟩ : ∃ z, z = zs := ⟨_, rfl⟩
                  rw [← hz9] at h9a HSE hzl
                  have h9 := h9a
                  have F9 := F9a
                  have hl9 : zs9.length ≤ 104 * (k + 1) := by omega
                  clear h9a F9a hz9
                  as_aux_lemma =>
                    obtain ⟨T9, hT9⟩ : ∃ T9, T9 = strOf zs9 := ⟨_, rfl⟩
                    rw [← hT9] at HSE
                    have HT9s := hid (show T9.size = zs9.length by rw [hT9, strOf_size])
                    have HT9 := hid hT9
                    have hT9z : T9.size ≤ 6400 := by rw [hT9, strOf_size]; omega
                    clear hT9
                    have hl9' : zs9.length ≤ 6240 := by omega
                    go_wp2_with fail
                    rw [HSE.out]
                    refine (pbytes_any _ w1.heap.size v9 zs9 h9 (by omega)).mono ?_
                    rintro e w10 ⟨q10, rfl, b10, hq10, f10⟩
                    have n1 : w1.heap.size < q10 := by have := h9.blk.lt; omega
                    have n2 : ∀ j, v9.ownBlock = some j → j < q10 := by intro j hj; have := h9.own.lt j hj; omega
                    have n3 : w.heap.size ≤ q10 := by have := F9.size; omega
                    have h10 := h9.fr f10 (fun h => h) (fun _ _ h => h)
                    have F10 := F9.trans' f10
                    have hcv := conv_bytes w10 q10 zs9 zs9.length 5 b10
                    rw [← HT9.out] at hcv
                    have hL := hid (plen_any _ _ _ _ h10)
                    rw [← HT9s.out] at hL
                    have o10 := ownsRow_blk (base := 0) b10 (Nat.zero_le _) (by omega)
                    have O10 := hid o10
                    have N2 := hid n2
                    clear n2 hq10 f10 b10 o10 h9 F9 HSE
                    go_wp2_with fail
                    refine hL.out.mono ?_
                    clear hL
                    rintro e w11 ⟨rfl, rfl⟩
                    have hTn : ((T9.size : Int) != (T9.size : Int)) = false := by simp
                    go_wp2_with fail
                    go_loopw [173] (fun i wr => ∃ j : Nat, j ≤ zs9.length ∧ i = .int .i64 (j : Int) ∧ (∃ cs : List Int, cs.length = zs9.length ∧ wr.ownsRow 0 5 1 (.slice (some ⟨q10, 0, none⟩) zs9.length zs9.length) zs9.length (cs.map (Value.int .u8))) ∧ Pn wr w1.heap.size v9 zs9 ∧ Fr (fun _ => False) w wr) (fun i _ => zs9.length - (intOf i).toNat)
                    case atStart => exact ⟨0, Nat.zero_le _, rfl, ⟨zs9.map (fun (z : Nat) => (z : Int)), by simp, by simpa [rowOf, Function.comp_def] using O10.out⟩, h10, F10⟩
                    case round =>
                      obtain ⟨j, hj, rfl, ⟨cs, hcs, ox⟩, hx, fx⟩ := hrel
                      clear O10 h10 F10 hcv
                      by_cases hjl : j < zs9.length
                      · have hcv := ownsRow_cell ox j (.int .u8 (cs.getD j 0)) (by simp [List.getD, show j < cs.length by omega])
                        have hfz := ownsRow_thaw ox
                        have hji : (j : Int) < (zs9.length : Int) := by omega
                        obtain ⟨c, hcc⟩ : ∃ c, c = cs.getD j 0 := ⟨_, rfl⟩
                        rw [← hcc] at hcv
                        clear hcc
                        go_wp2
                        go_roundw
                        case rel =>
                          refine ⟨j + 1, by omega, by go_num, ⟨cs.set j ((c + 1) % 256), by simpa using hcs, ?_⟩, ?_, fx.setCell (fun h => by simp at h; omega) _⟩
                          · have := ownsRow_set ox j (.int .u8 ((c + 1) % 256))
                            simpa [List.map_set] using this
                          · exact hx.fr ((Fr.refl (fun b => b = q10) wr).setCell (fun _ => rfl) _) (by omega) (fun i hi e => by have := N2.out i hi; omega)
                        case measure => simp [intOf]; omega
                      · have hji : ¬ (j : Int) < (zs9.length : Int) := by omega
                        clear ox hcs
                        go_wp2
                        go_roundw
                        case rel => exact ⟨k + 1, v9, zs9, by omega, by omega, by go_num, congrArg Value.string HT9.out, hx, O9, hl9, fx⟩
                        case measure => simp [intOf]; omega
              · obtain ⟨ht0, ht1⟩ := ht
                rcases hxr with hx | hx | hx
                · have hx0 : ¬ 0 ≤ x := by omega
                  have hQ : hasP zs.length t x = false := by have hSs := HSs.out; unfold hasP hasW; simp; omega
                  have hC := hid (show patchC zs t x = zs by unfold patchC; rw [hQ]; rfl)
                  have D1 := hid (hnb.cell 1)
                  have D2 := hid (hnb.cell 2)
                  have hne1 : ¬ wr.heap.size = w1.heap.size := by omega
                  have hP := hid (ppatch_any _ w1.heap.size v zs t x h7 (by omega))
                  rw [hQ] at hP
                  clear hQ
                  go_wp2_with fail
                  refine hP.out.mono ?_
                  clear hP
                  rintro e w8 ⟨rfl, g8⟩
                  have d8 := held_pen g8 hne1 hne2 D1.out
                  have e8 := held_pen g8 hne1 hne2 D2.out
                  obtain ⟨v9, h8, F8, O9, _⟩ := g8.outer F7 (by omega) O7
                  rw [hC.out] at h8
                  clear h7 F7 O7 g8 D1 D2
                  go_wp2_with fail
                  refine (ppatch_nil _).mono ?_
                  rintro e w9a ⟨rfl, f9a⟩
                  have d9 := (f9a.cell (p := ⟨wr.heap.size, 1, none⟩) (cell_lt d8) (fun h => h)).trans d8
                  have e9 := (f9a.cell (p := ⟨wr.heap.size, 2, none⟩) (cell_lt e8) (fun h => h)).trans e8
                  have h9a := h8.fr f9a (fun h => h) (fun _ _ h => h)
                  have F9a := F8.trans' f9a
                  clear h8 F8 f9a d8 e8
                  have HSE := hid (show S = strOf zs from HS.out)
                  obtain ⟨zs9, hz9⟩ : ∃ z, z = zs := ⟨_, rfl⟩
                  rw [← hz9] at h9a HSE hzl
                  have h9 := h9a
                  have F9 := F9a
                  have hl9 : zs9.length ≤ 104 * (k + 1) := by omega
                  clear h9a F9a hz9
                  as_aux_lemma =>
                    obtain ⟨T9, hT9⟩ : ∃ T9, T9 = strOf zs9 := ⟨_, rfl⟩
                    rw [← hT9] at HSE
                    have HT9s := hid (show T9.size = zs9.length by rw [hT9, strOf_size])
                    have HT9 := hid hT9
                    have hT9z : T9.size ≤ 6400 := by rw [hT9, strOf_size]; omega
                    clear hT9
                    have hl9' : zs9.length ≤ 6240 := by omega
                    go_wp2_with fail
                    rw [HSE.out]
                    refine (pbytes_any _ w1.heap.size v9 zs9 h9 (by omega)).mono ?_
                    rintro e w10 ⟨q10, rfl, b10, hq10, f10⟩
                    have n1 : w1.heap.size < q10 := by have := h9.blk.lt; omega
                    have n2 : ∀ j, v9.ownBlock = some j → j < q10 := by intro j hj; have := h9.own.lt j hj; omega
                    have n3 : w.heap.size ≤ q10 := by have := F9.size; omega
                    have h10 := h9.fr f10 (fun h => h) (fun _ _ h => h)
                    have F10 := F9.trans' f10
                    have hcv := conv_bytes w10 q10 zs9 zs9.length 5 b10
                    rw [← HT9.out] at hcv
                    have hL := hid (plen_any _ _ _ _ h10)
                    rw [← HT9s.out] at hL
                    have o10 := ownsRow_blk (base := 0) b10 (Nat.zero_le _) (by omega)
                    have O10 := hid o10
                    have N2 := hid n2
                    clear n2 hq10 f10 b10 o10 h9 F9 HSE
                    go_wp2_with fail
                    refine hL.out.mono ?_
                    clear hL
                    rintro e w11 ⟨rfl, rfl⟩
                    have hTn : ((T9.size : Int) != (T9.size : Int)) = false := by simp
                    go_wp2_with fail
                    go_loopw [173] (fun i wr => ∃ j : Nat, j ≤ zs9.length ∧ i = .int .i64 (j : Int) ∧ (∃ cs : List Int, cs.length = zs9.length ∧ wr.ownsRow 0 5 1 (.slice (some ⟨q10, 0, none⟩) zs9.length zs9.length) zs9.length (cs.map (Value.int .u8))) ∧ Pn wr w1.heap.size v9 zs9 ∧ Fr (fun _ => False) w wr) (fun i _ => zs9.length - (intOf i).toNat)
                    case atStart => exact ⟨0, Nat.zero_le _, rfl, ⟨zs9.map (fun (z : Nat) => (z : Int)), by simp, by simpa [rowOf, Function.comp_def] using O10.out⟩, h10, F10⟩
                    case round =>
                      obtain ⟨j, hj, rfl, ⟨cs, hcs, ox⟩, hx, fx⟩ := hrel
                      clear O10 h10 F10 hcv
                      by_cases hjl : j < zs9.length
                      · have hcv := ownsRow_cell ox j (.int .u8 (cs.getD j 0)) (by simp [List.getD, show j < cs.length by omega])
                        have hfz := ownsRow_thaw ox
                        have hji : (j : Int) < (zs9.length : Int) := by omega
                        obtain ⟨c, hcc⟩ : ∃ c, c = cs.getD j 0 := ⟨_, rfl⟩
                        rw [← hcc] at hcv
                        clear hcc
                        go_wp2
                        go_roundw
                        case rel =>
                          refine ⟨j + 1, by omega, by go_num, ⟨cs.set j ((c + 1) % 256), by simpa using hcs, ?_⟩, ?_, fx.setCell (fun h => by simp at h; omega) _⟩
                          · have := ownsRow_set ox j (.int .u8 ((c + 1) % 256))
                            simpa [List.map_set] using this
                          · exact hx.fr ((Fr.refl (fun b => b = q10) wr).setCell (fun _ => rfl) _) (by omega) (fun i hi e => by have := N2.out i hi; omega)
                        case measure => simp [intOf]; omega
                      · have hji : ¬ (j : Int) < (zs9.length : Int) := by omega
                        clear ox hcs
                        go_wp2
                        go_roundw
                        case rel => exact ⟨k + 1, v9, zs9, by omega, by omega, by go_num, congrArg Value.string HT9.out, hx, O9, hl9, fx⟩
                        case measure => simp [intOf]; omega
                · obtain ⟨hx0, hx1⟩ := hx
                  obtain ⟨y, rfl⟩ := Int.eq_ofNat_of_zero_le hx0
                  have hy : y < 4294967296 := by omega
                  have hQ : hasP zs.length t (y : Int) = true := by have hSs := HSs.out; unfold hasP hasW; simp; omega
                  have hC := hid (show patchC zs t (y : Int) = patch4 zs t.toNat (word4 y) by unfold patchC; rw [hQ]; rfl)
                  have D1 := hid (hnb.cell 1)
                  have D2 := hid (hnb.cell 2)
                  have hne1 : ¬ wr.heap.size = w1.heap.size := by omega
                  have hP := hid (ppatch_any _ w1.heap.size v zs t (y : Int) h7 (by omega))
                  rw [hQ] at hP
                  clear hQ
                  go_wp2_with fail
                  refine hP.out.mono ?_
                  clear hP
                  rintro e w8 ⟨rfl, g8⟩
                  have d8 := held_pen g8 hne1 hne2 D1.out
                  have e8 := held_pen g8 hne1 hne2 D2.out
                  obtain ⟨v9, h8, F8, O9, _⟩ := g8.outer F7 (by omega) O7
                  rw [hC.out] at h8
                  clear h7 F7 O7 g8 D1 D2
                  go_wp2_with fail
                  refine (ppatch_nil _).mono ?_
                  rintro e w9a ⟨rfl, f9a⟩
                  have d9 := (f9a.cell (p := ⟨wr.heap.size, 1, none⟩) (cell_lt d8) (fun h => h)).trans d8
                  have e9 := (f9a.cell (p := ⟨wr.heap.size, 2, none⟩) (cell_lt e8) (fun h => h)).trans e8
                  have h9a := h8.fr f9a (fun h => h) (fun _ _ h => h)
                  have F9a := F8.trans' f9a
                  clear h8 F8 f9a d8 e8
                  obtain ⟨j, rfl⟩ := Int.eq_ofNat_of_zero_le ht0
                  rw [Int.toNat_natCast] at h9a
                  have hj1 : j ≤ S.size := by omega
                  have hj2 : j + 4 ≤ S.size := by omega
                  have f1 : ((j : Int) + 4).toNat = j + 4 := by omega
                  have f2 : (j : Int) + 4 ≤ (S.size : Int) := by omega
                  have f3 : ¬ (j : Int) + 4 < 0 := by omega
                  have f4 : IntKind.i64.wrap ((j : Int) + 4) = (j : Int) + 4 := by rw [IntKind.wrap_i64]; omega
                  have EP := hid (strOf_patch zs j (word4 y))
                  rw [← HS.out] at EP
                  obtain ⟨X, hX⟩ : ∃ X, X = strOf (word4 y) := ⟨_, rfl⟩
                  have hXz : X.size ≤ 200 := by rw [hX, strOf_size, word4_length]; omega
                  have h18 : ∀ u : World, Calls Try.prog 18 #[.int .i64 (y : Int)] u fun e w' => e = .returned (.string X) ∧ Fr (fun _ => False) u w' := by intro u; rw [hX]; exact refWord_any u y hy
                  have H18 := hid h18
                  rw [← hX] at EP
                  obtain ⟨E0, hE0⟩ : ∃ E, S.extract 0 j = E := ⟨_, rfl⟩
                  obtain ⟨E1, hE1⟩ : ∃ E, S.extract (j + 4) S.size = E := ⟨_, rfl⟩
                  have hE0z : E0.size ≤ 6240 := by rw [← hE0, ByteArray.size_extract]; omega
                  have hE1z : E1.size ≤ 6240 := by rw [← hE1, ByteArray.size_extract]; omega
                  rw [hE0, hE1] at EP
                  clear hX h18
                  go_wp2_with fail
                  have hZ0 : ¬ 9223372036854775807 < E0.size + X.size := by omega
                  have hZ1 : ¬ 9223372036854775807 < E0.size + X.size + E1.size := by omega
                  go_region_held3 (fun w' => w'.cell? ⟨wr.heap.size, 1, none⟩ = some (.int .i64 (y : Int)) ∧ w'.cell? ⟨wr.heap.size, 2, none⟩ = some (.int .i64 (j : Int))) (go_keep)
                    (first | (go_at_call 18; refine (H18.out _).mono ?_; rintro e w9 ⟨rfl, f9⟩; have d10 := (f9.cell (p := ⟨wr.heap.size, 1, none⟩) (cell_lt d9) (fun h => h)).trans d9; have e10 := (f9.cell (p := ⟨wr.heap.size, 2, none⟩) (cell_lt e9) (fun h => h)).trans e9))
                  have hl9 : (patch4 zs j (word4 y)).length ≤ 104 * (k + 1) := by
                    have hSs := HSs.out
                    rw [patch4_length zs j _ (word4_length y) (by omega)]
                    omega
                  have h9 := h9a.drew.fr f9 (fun h => h) (fun _ _ h => h)
                  have F9 := F9a.drew.trans' f9
                  have HSE := EP
                  obtain ⟨zs9, hz9⟩ : ∃ z, z = patch4 zs j (word4 y) := ⟨_, rfl⟩
                  rw [← hz9] at h9 HSE hl9
                  clear h9a F9a hz9 f9 d9 e9 d10 e10 EP H18 f1 f2 f3 f4 hj1 hj2 hE0 hE1 ht1 hZ0 hZ1
                  as_aux_lemma =>
                    obtain ⟨T9, hT9⟩ : ∃ T9, T9 = strOf zs9 := ⟨_, rfl⟩
                    rw [← hT9] at HSE
                    have HT9s := hid (show T9.size = zs9.length by rw [hT9, strOf_size])
                    have HT9 := hid hT9
                    have hT9z : T9.size ≤ 6400 := by rw [hT9, strOf_size]; omega
                    clear hT9
                    have hl9' : zs9.length ≤ 6240 := by omega
                    go_wp2_with fail
                    rw [HSE.out]
                    refine (pbytes_any _ w1.heap.size v9 zs9 h9 (by omega)).mono ?_
                    rintro e w10 ⟨q10, rfl, b10, hq10, f10⟩
                    have n1 : w1.heap.size < q10 := by have := h9.blk.lt; omega
                    have n2 : ∀ j, v9.ownBlock = some j → j < q10 := by intro j hj; have := h9.own.lt j hj; omega
                    have n3 : w.heap.size ≤ q10 := by have := F9.size; omega
                    have h10 := h9.fr f10 (fun h => h) (fun _ _ h => h)
                    have F10 := F9.trans' f10
                    have hcv := conv_bytes w10 q10 zs9 zs9.length 5 b10
                    rw [← HT9.out] at hcv
                    have hL := hid (plen_any _ _ _ _ h10)
                    rw [← HT9s.out] at hL
                    have o10 := ownsRow_blk (base := 0) b10 (Nat.zero_le _) (by omega)
                    have O10 := hid o10
                    have N2 := hid n2
                    clear n2 hq10 f10 b10 o10 h9 F9 HSE
                    go_wp2_with fail
                    refine hL.out.mono ?_
                    clear hL
                    rintro e w11 ⟨rfl, rfl⟩
                    have hTn : ((T9.size : Int) != (T9.size : Int)) = false := by simp
                    go_wp2_with fail
                    go_loopw [173] (fun i wr => ∃ j : Nat, j ≤ zs9.length ∧ i = .int .i64 (j : Int) ∧ (∃ cs : List Int, cs.length = zs9.length ∧ wr.ownsRow 0 5 1 (.slice (some ⟨q10, 0, none⟩) zs9.length zs9.length) zs9.length (cs.map (Value.int .u8))) ∧ Pn wr w1.heap.size v9 zs9 ∧ Fr (fun _ => False) w wr) (fun i _ => zs9.length - (intOf i).toNat)
                    case atStart => exact ⟨0, Nat.zero_le _, rfl, ⟨zs9.map (fun (z : Nat) => (z : Int)), by simp, by simpa [rowOf, Function.comp_def] using O10.out⟩, h10, F10⟩
                    case round =>
                      obtain ⟨j, hj, rfl, ⟨cs, hcs, ox⟩, hx, fx⟩ := hrel
                      clear O10 h10 F10 hcv
                      by_cases hjl : j < zs9.length
                      · have hcv := ownsRow_cell ox j (.int .u8 (cs.getD j 0)) (by simp [List.getD, show j < cs.length by omega])
                        have hfz := ownsRow_thaw ox
                        have hji : (j : Int) < (zs9.length : Int) := by omega
                        obtain ⟨c, hcc⟩ : ∃ c, c = cs.getD j 0 := ⟨_, rfl⟩
                        rw [← hcc] at hcv
                        clear hcc
                        go_wp2
                        go_roundw
                        case rel =>
                          refine ⟨j + 1, by omega, by go_num, ⟨cs.set j ((c + 1) % 256), by simpa using hcs, ?_⟩, ?_, fx.setCell (fun h => by simp at h; omega) _⟩
                          · have := ownsRow_set ox j (.int .u8 ((c + 1) % 256))
                            simpa [List.map_set] using this
                          · exact hx.fr ((Fr.refl (fun b => b = q10) wr).setCell (fun _ => rfl) _) (by omega) (fun i hi e => by have := N2.out i hi; omega)
                        case measure => simp [intOf]; omega
                      · have hji : ¬ (j : Int) < (zs9.length : Int) := by omega
                        clear ox hcs
                        go_wp2
                        go_roundw
                        case rel => exact ⟨k + 1, v9, zs9, by omega, by omega, by go_num, congrArg Value.string HT9.out, hx, O9, hl9, fx⟩
                        case measure => simp [intOf]; omega
                · have hx0 : 0 ≤ x := by omega
                  have hx1 : ¬ x < 4294967296 := by omega
                  have hQ : hasP zs.length t x = false := by have hSs := HSs.out; unfold hasP hasW; simp; omega
                  have hC := hid (show patchC zs t x = zs by unfold patchC; rw [hQ]; rfl)
                  have D1 := hid (hnb.cell 1)
                  have D2 := hid (hnb.cell 2)
                  have hne1 : ¬ wr.heap.size = w1.heap.size := by omega
                  have hP := hid (ppatch_any _ w1.heap.size v zs t x h7 (by omega))
                  rw [hQ] at hP
                  clear hQ
                  go_wp2_with fail
                  refine hP.out.mono ?_
                  clear hP
                  rintro e w8 ⟨rfl, g8⟩
                  have d8 := held_pen g8 hne1 hne2 D1.out
                  have e8 := held_pen g8 hne1 hne2 D2.out
                  obtain ⟨v9, h8, F8, O9, _⟩ := g8.outer F7 (by omega) O7
                  rw [hC.out] at h8
                  clear h7 F7 O7 g8 D1 D2
                  go_wp2_with fail
                  refine (ppatch_nil _).mono ?_
                  rintro e w9a ⟨rfl, f9a⟩
                  have d9 := (f9a.cell (p := ⟨wr.heap.size, 1, none⟩) (cell_lt d8) (fun h => h)).trans d8
                  have e9 := (f9a.cell (p := ⟨wr.heap.size, 2, none⟩) (cell_lt e8) (fun h => h)).trans e8
                  have h9a := h8.fr f9a (fun h => h) (fun _ _ h => h)
                  have F9a := F8.trans' f9a
                  clear h8 F8 f9a d8 e8
                  have HSE := hid (show S = strOf zs from HS.out)
                  obtain ⟨zs9, hz9⟩ : ∃ z, z = zs := ⟨_, rfl⟩
                  rw [← hz9] at h9a HSE hzl
                  have h9 := h9a
                  have F9 := F9a
                  have hl9 : zs9.length ≤ 104 * (k + 1) := by omega
                  clear h9a F9a hz9
                  as_aux_lemma =>
                    obtain ⟨T9, hT9⟩ : ∃ T9, T9 = strOf zs9 := ⟨_, rfl⟩
                    rw [← hT9] at HSE
                    have HT9s := hid (show T9.size = zs9.length by rw [hT9, strOf_size])
                    have HT9 := hid hT9
                    have hT9z : T9.size ≤ 6400 := by rw [hT9, strOf_size]; omega
                    clear hT9
                    have hl9' : zs9.length ≤ 6240 := by omega
                    go_wp2_with fail
                    rw [HSE.out]
                    refine (pbytes_any _ w1.heap.size v9 zs9 h9 (by omega)).mono ?_
                    rintro e w10 ⟨q10, rfl, b10, hq10, f10⟩
                    have n1 : w1.heap.size < q10 := by have := h9.blk.lt; omega
                    have n2 : ∀ j, v9.ownBlock = some j → j < q10 := by intro j hj; have := h9.own.lt j hj; omega
                    have n3 : w.heap.size ≤ q10 := by have := F9.size; omega
                    have h10 := h9.fr f10 (fun h => h) (fun _ _ h => h)
                    have F10 := F9.trans' f10
                    have hcv := conv_bytes w10 q10 zs9 zs9.length 5 b10
                    rw [← HT9.out] at hcv
                    have hL := hid (plen_any _ _ _ _ h10)
                    rw [← HT9s.out] at hL
                    have o10 := ownsRow_blk (base := 0) b10 (Nat.zero_le _) (by omega)
                    have O10 := hid o10
                    have N2 := hid n2
                    clear n2 hq10 f10 b10 o10 h9 F9 HSE
                    go_wp2_with fail
                    refine hL.out.mono ?_
                    clear hL
                    rintro e w11 ⟨rfl, rfl⟩
                    have hTn : ((T9.size : Int) != (T9.size : Int)) = false := by simp
                    go_wp2_with fail
                    go_loopw [173] (fun i wr => ∃ j : Nat, j ≤ zs9.length ∧ i = .int .i64 (j : Int) ∧ (∃ cs : List Int, cs.length = zs9.length ∧ wr.ownsRow 0 5 1 (.slice (some ⟨q10, 0, none⟩) zs9.length zs9.length) zs9.length (cs.map (Value.int .u8))) ∧ Pn wr w1.heap.size v9 zs9 ∧ Fr (fun _ => False) w wr) (fun i _ => zs9.length - (intOf i).toNat)
                    case atStart => exact ⟨0, Nat.zero_le _, rfl, ⟨zs9.map (fun (z : Nat) => (z : Int)), by simp, by simpa [rowOf, Function.comp_def] using O10.out⟩, h10, F10⟩
                    case round =>
                      obtain ⟨j, hj, rfl, ⟨cs, hcs, ox⟩, hx, fx⟩ := hrel
                      clear O10 h10 F10 hcv
                      by_cases hjl : j < zs9.length
                      · have hcv := ownsRow_cell ox j (.int .u8 (cs.getD j 0)) (by simp [List.getD, show j < cs.length by omega])
                        have hfz := ownsRow_thaw ox
                        have hji : (j : Int) < (zs9.length : Int) := by omega
                        obtain ⟨c, hcc⟩ : ∃ c, c = cs.getD j 0 := ⟨_, rfl⟩
                        rw [← hcc] at hcv
                        clear hcc
                        go_wp2
                        go_roundw
                        case rel =>
                          refine ⟨j + 1, by omega, by go_num, ⟨cs.set j ((c + 1) % 256), by simpa using hcs, ?_⟩, ?_, fx.setCell (fun h => by simp at h; omega) _⟩
                          · have := ownsRow_set ox j (.int .u8 ((c + 1) % 256))
                            simpa [List.map_set] using this
                          · exact hx.fr ((Fr.refl (fun b => b = q10) wr).setCell (fun _ => rfl) _) (by omega) (fun i hi e => by have := N2.out i hi; omega)
                        case measure => simp [intOf]; omega
                      · have hji : ¬ (j : Int) < (zs9.length : Int) := by omega
                        clear ox hcs
                        go_wp2
                        go_roundw
                        case rel => exact ⟨k + 1, v9, zs9, by omega, by omega, by go_num, congrArg Value.string HT9.out, hx, O9, hl9, fx⟩
                        case measure => simp [intOf]; omega
              · obtain ⟨ht0, ht⟩ := ht
                have ht1 : ¬ t ≤ (S.size : Int) - 4 := by omega
                by_cases hx0 : 0 ≤ x
                · skip
                  have hQ : hasP zs.length t x = false := by have hSs := HSs.out; unfold hasP hasW; simp; omega
                  have hC := hid (show patchC zs t x = zs by unfold patchC; rw [hQ]; rfl)
                  have D1 := hid (hnb.cell 1)
                  have D2 := hid (hnb.cell 2)
                  have hne1 : ¬ wr.heap.size = w1.heap.size := by omega
                  have hP := hid (ppatch_any _ w1.heap.size v zs t x h7 (by omega))
                  rw [hQ] at hP
                  clear hQ
                  go_wp2_with fail
                  refine hP.out.mono ?_
                  clear hP
                  rintro e w8 ⟨rfl, g8⟩
                  have d8 := held_pen g8 hne1 hne2 D1.out
                  have e8 := held_pen g8 hne1 hne2 D2.out
                  obtain ⟨v9, h8, F8, O9, _⟩ := g8.outer F7 (by omega) O7
                  rw [hC.out] at h8
                  clear h7 F7 O7 g8 D1 D2
                  go_wp2_with fail
                  refine (ppatch_nil _).mono ?_
                  rintro e w9a ⟨rfl, f9a⟩
                  have d9 := (f9a.cell (p := ⟨wr.heap.size, 1, none⟩) (cell_lt d8) (fun h => h)).trans d8
                  have e9 := (f9a.cell (p := ⟨wr.heap.size, 2, none⟩) (cell_lt e8) (fun h => h)).trans e8
                  have h9a := h8.fr f9a (fun h => h) (fun _ _ h => h)
                  have F9a := F8.trans' f9a
                  clear h8 F8 f9a d8 e8
                  have HSE := hid (show S = strOf zs from HS.out)
                  obtain ⟨zs9, hz9⟩ : ∃ z, z = zs := ⟨_, rfl⟩
                  rw [← hz9] at h9a HSE hzl
                  have h9 := h9a
                  have F9 := F9a
                  have hl9 : zs9.length ≤ 104 * (k + 1) := by omega
                  clear h9a F9a hz9
                  as_aux_lemma =>
                    obtain ⟨T9, hT9⟩ : ∃ T9, T9 = strOf zs9 := ⟨_, rfl⟩
                    rw [← hT9] at HSE
                    have HT9s := hid (show T9.size = zs9.length by rw [hT9, strOf_size])
                    have HT9 := hid hT9
                    have hT9z : T9.size ≤ 6400 := by rw [hT9, strOf_size]; omega
                    clear hT9
                    have hl9' : zs9.length ≤ 6240 := by omega
                    go_wp2_with fail
                    rw [HSE.out]
                    refine (pbytes_any _ w1.heap.size v9 zs9 h9 (by omega)).mono ?_
                    rintro e w10 ⟨q10, rfl, b10, hq10, f10⟩
                    have n1 : w1.heap.size < q10 := by have := h9.blk.lt; omega
                    have n2 : ∀ j, v9.ownBlock = some j → j < q10 := by intro j hj; have := h9.own.lt j hj; omega
                    have n3 : w.heap.size ≤ q10 := by have := F9.size; omega
                    have h10 := h9.fr f10 (fun h => h) (fun _ _ h => h)
                    have F10 := F9.trans' f10
                    have hcv := conv_bytes w10 q10 zs9 zs9.length 5 b10
                    rw [← HT9.out] at hcv
                    have hL := hid (plen_any _ _ _ _ h10)
                    rw [← HT9s.out] at hL
                    have o10 := ownsRow_blk (base := 0) b10 (Nat.zero_le _) (by omega)
                    have O10 := hid o10
                    have N2 := hid n2
                    clear n2 hq10 f10 b10 o10 h9 F9 HSE
                    go_wp2_with fail
                    refine hL.out.mono ?_
                    clear hL
                    rintro e w11 ⟨rfl, rfl⟩
                    have hTn : ((T9.size : Int) != (T9.size : Int)) = false := by simp
                    go_wp2_with fail
                    go_loopw [173] (fun i wr => ∃ j : Nat, j ≤ zs9.length ∧ i = .int .i64 (j : Int) ∧ (∃ cs : List Int, cs.length = zs9.length ∧ wr.ownsRow 0 5 1 (.slice (some ⟨q10, 0, none⟩) zs9.length zs9.length) zs9.length (cs.map (Value.int .u8))) ∧ Pn wr w1.heap.size v9 zs9 ∧ Fr (fun _ => False) w wr) (fun i _ => zs9.length - (intOf i).toNat)
                    case atStart => exact ⟨0, Nat.zero_le _, rfl, ⟨zs9.map (fun (z : Nat) => (z : Int)), by simp, by simpa [rowOf, Function.comp_def] using O10.out⟩, h10, F10⟩
                    case round =>
                      obtain ⟨j, hj, rfl, ⟨cs, hcs, ox⟩, hx, fx⟩ := hrel
                      clear O10 h10 F10 hcv
                      by_cases hjl : j < zs9.length
                      · have hcv := ownsRow_cell ox j (.int .u8 (cs.getD j 0)) (by simp [List.getD, show j < cs.length by omega])
                        have hfz := ownsRow_thaw ox
                        have hji : (j : Int) < (zs9.length : Int) := by omega
                        obtain ⟨c, hcc⟩ : ∃ c, c = cs.getD j 0 := ⟨_, rfl⟩
                        rw [← hcc] at hcv
                        clear hcc
                        go_wp2
                        go_roundw
                        case rel =>
                          refine ⟨j + 1, by omega, by go_num, ⟨cs.set j ((c + 1) % 256), by simpa using hcs, ?_⟩, ?_, fx.setCell (fun h => by simp at h; omega) _⟩
                          · have := ownsRow_set ox j (.int .u8 ((c + 1) % 256))
                            simpa [List.map_set] using this
                          · exact hx.fr ((Fr.refl (fun b => b = q10) wr).setCell (fun _ => rfl) _) (by omega) (fun i hi e => by have := N2.out i hi; omega)
                        case measure => simp [intOf]; omega
                      · have hji : ¬ (j : Int) < (zs9.length : Int) := by omega
                        clear ox hcs
                        go_wp2
                        go_roundw
                        case rel => exact ⟨k + 1, v9, zs9, by omega, by omega, by go_num, congrArg Value.string HT9.out, hx, O9, hl9, fx⟩
                        case measure => simp [intOf]; omega
                · skip
                  have hQ : hasP zs.length t x = false := by have hSs := HSs.out; unfold hasP hasW; simp; omega
                  have hC := hid (show patchC zs t x = zs by unfold patchC; rw [hQ]; rfl)
                  have D1 := hid (hnb.cell 1)
                  have D2 := hid (hnb.cell 2)
                  have hne1 : ¬ wr.heap.size = w1.heap.size := by omega
                  have hP := hid (ppatch_any _ w1.heap.size v zs t x h7 (by omega))
                  rw [hQ] at hP
                  clear hQ
                  go_wp2_with fail
                  refine hP.out.mono ?_
                  clear hP
                  rintro e w8 ⟨rfl, g8⟩
                  have d8 := held_pen g8 hne1 hne2 D1.out
                  have e8 := held_pen g8 hne1 hne2 D2.out
                  obtain ⟨v9, h8, F8, O9, _⟩ := g8.outer F7 (by omega) O7
                  rw [hC.out] at h8
                  clear h7 F7 O7 g8 D1 D2
                  go_wp2_with fail
                  refine (ppatch_nil _).mono ?_
                  rintro e w9a ⟨rfl, f9a⟩
                  have d9 := (f9a.cell (p := ⟨wr.heap.size, 1, none⟩) (cell_lt d8) (fun h => h)).trans d8
                  have e9 := (f9a.cell (p := ⟨wr.heap.size, 2, none⟩) (cell_lt e8) (fun h => h)).trans e8
                  have h9a := h8.fr f9a (fun h => h) (fun _ _ h => h)
                  have F9a := F8.trans' f9a
                  clear h8 F8 f9a d8 e8
                  have HSE := hid (show S = strOf zs from HS.out)
                  obtain ⟨zs9, hz9⟩ : ∃ z, z = zs := ⟨_, rfl⟩
                  rw [← hz9] at h9a HSE hzl
                  have h9 := h9a
                  have F9 := F9a
                  have hl9 : zs9.length ≤ 104 * (k + 1) := by omega
                  clear h9a F9a hz9
                  as_aux_lemma =>
                    obtain ⟨T9, hT9⟩ : ∃ T9, T9 = strOf zs9 := ⟨_, rfl⟩
                    rw [← hT9] at HSE
                    have HT9s := hid (show T9.size = zs9.length by rw [hT9, strOf_size])
                    have HT9 := hid hT9
                    have hT9z : T9.size ≤ 6400 := by rw [hT9, strOf_size]; omega
                    clear hT9
                    have hl9' : zs9.length ≤ 6240 := by omega
                    go_wp2_with fail
                    rw [HSE.out]
                    refine (pbytes_any _ w1.heap.size v9 zs9 h9 (by omega)).mono ?_
                    rintro e w10 ⟨q10, rfl, b10, hq10, f10⟩
                    have n1 : w1.heap.size < q10 := by have := h9.blk.lt; omega
                    have n2 : ∀ j, v9.ownBlock = some j → j < q10 := by intro j hj; have := h9.own.lt j hj; omega
                    have n3 : w.heap.size ≤ q10 := by have := F9.size; omega
                    have h10 := h9.fr f10 (fun h => h) (fun _ _ h => h)
                    have F10 := F9.trans' f10
                    have hcv := conv_bytes w10 q10 zs9 zs9.length 5 b10
                    rw [← HT9.out] at hcv
                    have hL := hid (plen_any _ _ _ _ h10)
                    rw [← HT9s.out] at hL
                    have o10 := ownsRow_blk (base := 0) b10 (Nat.zero_le _) (by omega)
                    have O10 := hid o10
                    have N2 := hid n2
                    clear n2 hq10 f10 b10 o10 h9 F9 HSE
                    go_wp2_with fail
                    refine hL.out.mono ?_
                    clear hL
                    rintro e w11 ⟨rfl, rfl⟩
                    have hTn : ((T9.size : Int) != (T9.size : Int)) = false := by simp
                    go_wp2_with fail
                    go_loopw [173] (fun i wr => ∃ j : Nat, j ≤ zs9.length ∧ i = .int .i64 (j : Int) ∧ (∃ cs : List Int, cs.length = zs9.length ∧ wr.ownsRow 0 5 1 (.slice (some ⟨q10, 0, none⟩) zs9.length zs9.length) zs9.length (cs.map (Value.int .u8))) ∧ Pn wr w1.heap.size v9 zs9 ∧ Fr (fun _ => False) w wr) (fun i _ => zs9.length - (intOf i).toNat)
                    case atStart => exact ⟨0, Nat.zero_le _, rfl, ⟨zs9.map (fun (z : Nat) => (z : Int)), by simp, by simpa [rowOf, Function.comp_def] using O10.out⟩, h10, F10⟩
                    case round =>
                      obtain ⟨j, hj, rfl, ⟨cs, hcs, ox⟩, hx, fx⟩ := hrel
                      clear O10 h10 F10 hcv
                      by_cases hjl : j < zs9.length
                      · have hcv := ownsRow_cell ox j (.int .u8 (cs.getD j 0)) (by simp [List.getD, show j < cs.length by omega])
                        have hfz := ownsRow_thaw ox
                        have hji : (j : Int) < (zs9.length : Int) := by omega
                        obtain ⟨c, hcc⟩ : ∃ c, c = cs.getD j 0 := ⟨_, rfl⟩
                        rw [← hcc] at hcv
                        clear hcc
                        go_wp2
                        go_roundw
                        case rel =>
                          refine ⟨j + 1, by omega, by go_num, ⟨cs.set j ((c + 1) % 256), by simpa using hcs, ?_⟩, ?_, fx.setCell (fun h => by simp at h; omega) _⟩
                          · have := ownsRow_set ox j (.int .u8 ((c + 1) % 256))
                            simpa [List.map_set] using this
                          · exact hx.fr ((Fr.refl (fun b => b = q10) wr).setCell (fun _ => rfl) _) (by omega) (fun i hi e => by have := N2.out i hi; omega)
                        case measure => simp [intOf]; omega
                      · have hji : ¬ (j : Int) < (zs9.length : Int) := by omega
                        clear ox hcs
                        go_wp2
                        go_roundw
                        case rel => exact ⟨k + 1, v9, zs9, by omega, by omega, by go_num, congrArg Value.string HT9.out, hx, O9, hl9, fx⟩
                        case measure => simp [intOf]; omega
      · have h60' : (60 : Int) ≤ (k : Int) := by omega
        go_wp2_with fail
        refine (plen_nil _).mono ?_
        rintro e w7 ⟨rfl, rfl⟩
        go_wp2_with fail
        refine (pbytes_nil _).mono ?_
        rintro e w8 ⟨rfl, rfl⟩
        go_wp2
        go_ret
        exact ⟨rfl, (F6.alloc _).below (Nat.le_refl _) (fun _ _ h => h)⟩
    · have hki : ¬ (k : Int) < (len : Int) := by omega
      go_wp2_with fail
      refine (plen_nil _).mono ?_
      rintro e w7 ⟨rfl, rfl⟩
      go_wp2_with fail
      refine (pbytes_nil _).mono ?_
      rintro e w8 ⟨rfl, rfl⟩
      go_wp2
      go_ret
      exact ⟨rfl, F6.below (Nat.le_refl _) (fun _ _ h => h)⟩
end Go.Proofs.Ytdadoohkpjdlhaa
