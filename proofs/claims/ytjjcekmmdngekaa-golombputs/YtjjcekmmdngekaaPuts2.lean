/-
  Law package 2: the code of any number (GolombPuts): the walk.
-/
import Derived.Test.YtjjcekmmdngekaaFirst2
import Derived.Test.YtjjcekmmdngekaaRef2
import Derived.Test.YtjjcekmmdngekaaArgs
namespace Go.Proofs.Ytjjcekmmdngekaa
open Go.RowKit

theorem bitAt_packs {zs : List Nat} {s : List Bool} (hP : Packs zs s) (j : Nat) : bitAt zs (0 + j) = s.getD j false := by rw [Nat.zero_add]; exact hP.bit j
theorem bitAt_none {zs : List Nat} (hP : Packs zs []) (p : Nat) : bitAt zs p = false := by rw [hP.bit]; rfl

theorem got_code {zs : List Nat} {z : Int} (hP : Packs zs (codeC z)) : ∃ x n, gget (bitAt zs) 31 1 0 = (x, hasC z, n) ∧ (hasC z = true → (x : Int) = z) := by
  cases hz : hasC z with
  | true =>
    have hb := hasC_true hz
    have e : codeC z = gcode z.toNat := by simp [codeC, hz]
    rw [e] at hP
    exact ⟨z.toNat, _, gget_code (bitAt zs) z.toNat 0 (by omega) (fun j _ => bitAt_packs hP j), fun _ => by omega⟩
  | false =>
    have e : codeC z = [] := by simp [codeC, hz]
    rw [e] at hP
    exact ⟨0, _, gget_nought (bitAt zs) 31 1 0 (fun p _ => bitAt_none hP p), by simp⟩
theorem sgot_code {zs : List Nat} {z : Int} (hP : Packs zs (codeS z)) : ∃ y n, sget (bitAt zs) 0 = (y, hasS z, n) ∧ (hasS z = true → y = z) := by
  cases hz : hasS z with
  | true =>
    have hb := hasS_true hz
    have e : codeS z = gsigned z := by simp [codeS, hz]
    rw [e] at hP
    exact ⟨z, _, sget_code (bitAt zs) z 0 hb.1 hb.2 (fun j _ => bitAt_packs hP j), fun _ => rfl⟩
  | false =>
    have e : codeS z = [] := by simp [codeS, hz]
    rw [e] at hP
    exact ⟨0, _, sget_zero (gget_nought (bitAt zs) 31 1 0 (fun p _ => bitAt_none hP p)), by simp⟩
theorem codeC_empty (z : Int) : (strB (codeC z)).toList.isEmpty = !(hasC z) := by
  rw [strB_isEmpty]
  cases hz : hasC z with
  | true => have := gcode_ne z.toNat; simp [codeC, hz, this]
  | false => simp [codeC, hz]
theorem codeS_empty (z : Int) : (strB (codeS z)).toList.isEmpty = !(hasS z) := by
  rw [strB_isEmpty]
  cases hz : hasS z with
  | true => have := gsigned_ne z; simp [codeS, hz, this]
  | false => simp [codeS, hz]

theorem Wr.drew' {w : World} {p : Nat} {v : Value} {zs : List Nat} {s : List Bool} (h : Wr w p v zs s) : Wr w.drew p v zs s := ⟨h.blk.drew, ownsRow_drew h.own, h.packs⟩

set_option maxHeartbeats 4000000 in
theorem puts_walk (z : Int) (w : World) (h0 : -9223372036854775808 ≤ z) (h1 : z ≤ 9223372036854775807) :
    Calls Try.prog 3 #[.int .i64 z] w fun e w' => e = .returned (.bool true) ∧ Below w.heap.size w w' := by
  go_enter Try.func3, Try.ntmps3
  go_wp2_with fail
  refine (first_any _).mono ?_
  rintro e w1 ⟨rfl, F1⟩
  have hs1 := F1.size
  have hU0 := Wr.new (w1.alloc (.cells #[.slice none 0 0, .int .i64 0] 26))
  have hW0 := (Wr.new w1).fr ((Fr.refl (fun _ => False) _).alloc (.cells #[.slice none 0 0, .int .i64 0] 26)) (fun h => h) (fun _ _ h => h)
  have F2 := (F1.alloc (.cells #[.slice none 0 0, .int .i64 0] 26)).alloc (.cells #[.slice none 0 0, .int .i64 0] 26)
  have e1 : (w1.alloc (.cells #[.slice none 0 0, .int .i64 0] 26)).heap.size = w1.heap.size + 1 := by simp
  rw [e1] at hU0
  go_wp2_with fail
  refine (refCode_any _ _).mono ?_
  rintro e w2 ⟨rfl, rfl⟩
  obtain ⟨S, hS⟩ : ∃ S, S = strB (codeC z) := ⟨_, rfl⟩
  have hSe := codeC_empty z
  have hSz : S.size = (codeC z).length := by rw [hS, strB_size]
  rw [← hS] at hSe ⊢
  have HS : Hid (S = strB (codeC z)) := hS
  clear hS
  go_wp2_with fail
  refine (refSigned_any _ _ h0 h1).mono ?_
  rintro e w2 ⟨rfl, rfl⟩
  obtain ⟨T, hT⟩ : ∃ T, T = strB (codeS z) := ⟨_, rfl⟩
  have hTe := codeS_empty z
  have hTz : T.size = (codeS z).length := by rw [hT, strB_size]
  rw [← hT] at hTe ⊢
  have HT : Hid (T = strB (codeS z)) := hT
  clear hT
  go_wp2_with fail
  refine (gput_any _ w1.heap.size _ _ _ z hW0 (by simp)).mono ?_
  rintro e w3 ⟨rfl, v3, zs3, h3, st3⟩
  rw [List.nil_append] at h3
  have hU3 := hU0.fr st3.fr (by rintro (e | e); omega; cases e) (by intro k hk; cases hk)
  have n3 : ∀ k, v3.ownBlock = some k → w1.heap.size + 2 ≤ k := by
    intro k hk
    rcases st3.at' with e | e
    · rw [e] at hk; cases hk
    · have := e k hk; simp at this; omega
  have F3 := F2.trans st3.fr (by intro i hi hk; rcases hk with e | e; omega; cases e)
  clear hU0 hW0 st3 F2
  go_wp2_with fail
  refine (gputs_any _ (w1.heap.size + 1) _ _ _ z hU3 (by simp) h0 h1).mono ?_
  rintro e w4 ⟨rfl, v4, zs4, h4, st4⟩
  rw [List.nil_append] at h4
  have hW4 := h3.fr st4.fr (by rintro (e | e); omega; cases e) (by intro k hk hh; have := n3 k hk; rcases hh with e | e; omega; cases e)
  have F4 := F3.trans st4.fr (by intro i hi hk; rcases hk with e | e; omega; cases e)
  clear h3 hU3 st4 F3 n3
  go_wp2_with fail
  refine (gputnil_any _ z).mono ?_
  rintro e w5 ⟨rfl, rfl⟩
  have hcl := codeC_len z
  have hdl := codeS_len z
  have HGC := got_code hW4.packs
  have HGS := sgot_code h4.packs
  obtain ⟨x, nx, hgx, hx⟩ := HGC
  obtain ⟨y, ny, hgy, hy⟩ := HGS
  have HX : Hid (gget (bitAt zs3) 31 1 0 = (x, hasC z, nx)) := hgx
  have HY : Hid (sget (bitAt zs4) 0 = (y, hasS z, ny)) := hgy
  have HX2 : Hid (hasC z = true → (x : Int) = z) := hx
  have HY2 : Hid (hasS z = true → y = z) := hy
  have HSI : Hid (∀ u, Calls Try.prog 12 #[.int .i64 z] u fun e w' => e = .returned (.int .i64 ((codeC z).length : Int)) ∧ w' = u) := fun u => gsize_any u z
  have HSS : Hid (∀ u, Calls Try.prog 13 #[.int .i64 z] u fun e w' => e = .returned (.int .i64 ((codeS z).length : Int)) ∧ w' = u) := fun u => gsizes_any u z h0 h1
  have HBS : Hid (∀ u, Calls Try.prog 15 #[.string S] u fun e w' => ∃ v, e = .returned v ∧ w'.ownsRow u.heap.size 5 1 v zs3.length (rowOf zs3) ∧ Fr (fun _ => False) u w') := by
    show ∀ u, _
    intro u
    rw [HS.out]
    refine (refBytes_any _ u (by omega)).mono ?_
    rintro e w8 ⟨v8, zs8, rfl, o8, P8, f8⟩
    obtain rfl := P8.unique hW4.packs
    exact ⟨v8, rfl, o8, f8⟩
  have HBT : Hid (∀ u, Calls Try.prog 15 #[.string T] u fun e w' => ∃ v, e = .returned v ∧ w'.ownsRow u.heap.size 5 1 v zs4.length (rowOf zs4) ∧ Fr (fun _ => False) u w') := by
    show ∀ u, _
    intro u
    rw [HT.out]
    refine (refBytes_any _ u (by omega)).mono ?_
    rintro e w8 ⟨v8, zs8, rfl, o8, P8, f8⟩
    obtain rfl := P8.unique h4.packs
    exact ⟨v8, rfl, o8, f8⟩
  clear hgx hgy hx hy
  generalize codeC z = C at *
  generalize codeS z = D at *
  go_wp2_with fail
  generalize hpu : w1.heap.size + 1 = pu at h4 ⊢
  clear hpu
  go_region_with (first
    | (go_at_call_of 11 (Value.pointer (some ⟨w1.heap.size, 0, none⟩)); refine (len_any _ _ _ _ _ (by exact hW4.drew')).mono ?_; rintro e w6 ⟨rfl, rfl⟩)
    | (go_at_call_of 11 (Value.pointer (some ⟨pu, 0, none⟩)); refine (len_any _ _ _ _ _ (by exact h4.drew')).mono ?_; rintro e w6 ⟨rfl, rfl⟩)
    | (go_at_call 12; refine (HSI.out _).mono ?_; rintro e w6 ⟨rfl, rfl⟩)
    | (go_at_call 13; refine (HSS.out _).mono ?_; rintro e w6 ⟨rfl, rfl⟩)
    | (go_at_call_of 14 (Value.pointer (some ⟨w1.heap.size, 0, none⟩)); refine (bytes_any _ _ _ _ _ (by exact hW4.drew') (by omega)).mono ?_; rintro e w7 ⟨q7, rfl, b7, hq7, f7⟩; have hcv7 := conv_bytes w7 q7 zs3 zs3.length 5 b7)
    | (go_at_call_of 15 (Value.string S); refine (HBS.out _).mono ?_; rintro e w8 ⟨v8, rfl, o8, f8⟩; have hcv8 := conv_owned w8 _ v8 zs3 o8; have hcv9 := conv_bytes w8 _ zs3 zs3.length 5 (b7.fr f8 (fun h => h)); have h8 := (h4.drew'.fr f7 (fun h => h) (fun _ _ h => h)).fr f8 (fun h => h) (fun _ _ h => h))
    | (go_at_call_of 14 (Value.pointer (some ⟨pu, 0, none⟩)); refine (bytes_any _ _ _ _ _ (by exact h8) (by omega)).mono ?_; rintro e w10 ⟨q10, rfl, b10, hq10, f10⟩; have hcv10 := conv_bytes w10 q10 zs4 zs4.length 5 b10)
    | (go_at_call_of 15 (Value.string T); refine (HBT.out _).mono ?_; rintro e w11 ⟨v11, rfl, o11, f11⟩; have hcv11 := conv_owned w11 _ v11 zs4 o11; have hcv12 := conv_bytes w11 _ zs4 zs4.length 5 (b10.fr f11 (fun h => h))))
  all_goals
    have F11 := (((F4.drew.trans' f7).trans' f8).trans' f10).trans' f11
    have hW11 := (((hW4.drew'.fr f7 (fun h => h) (fun _ _ h => h)).fr f8 (fun h => h) (fun _ _ h => h)).fr f10 (fun h => h) (fun _ _ h => h)).fr f11 (fun h => h) (fun _ _ h => h)
    have h11 := (h8.fr f10 (fun h => h) (fun _ _ h => h)).fr f11 (fun h => h) (fun _ _ h => h)
    have hz3 : zs3.length ≤ 100 := by have := hW11.packs.len; omega
    have hz4 : zs4.length ≤ 100 := by have := h11.packs.len; omega
    clear F4 f7 f8 f10 f11 hW4 h4 h8 b7 b10 o8 o11 hcv7 hcv8 hcv9 hcv10 hcv11 hcv12 HSI HSS HBS HBT
    go_wp2_with fail
    refine (bytes_any _ _ _ _ _ hW11 (by omega)).mono ?_
    rintro e w12 ⟨q12, rfl, b12, hq12, f12⟩
    go_wp2_with fail
    refine (new_any _ _ zs3 ⟨_, _, by rw [rowOf_length], fun _ => ⟨_, rfl, fun j u hu => World.news_of_block b12 j u hu⟩⟩ (by omega) hW11.packs.small).mono ?_
    rintro e w13 ⟨p13, q13, rfl, r13, hp13, hq13, f13⟩
    have F13 := (F11.trans' f12).trans' f13
    have h13 := (h11.fr f12 (fun h => h) (fun _ _ h => h)).fr f13 (fun h => h) (fun _ _ h => h)
    have n13 : w.heap.size ≤ p13 := by have := F11.size; have := f12.size; omega
    have n14 : pu < p13 := by have := h11.blk.lt; have := f12.size; omega
    have n15 : ∀ k, v4.ownBlock = some k → k < p13 := by intro k hk; have := h11.own.lt k hk; have := f12.size; omega
    clear F11 f12 f13 hW11 h11 b12 hq12 hq13 hp13
    go_wp2_with fail
    refine (gget_any _ p13 q13 _ _ _ r13 (by omega) (by omega) (by omega)).mono ?_
    rintro e w14 ⟨x', ok', rfl, n', hg, r14, f14⟩
    rw [HX.out] at hg
    simp only [Prod.mk.injEq] at hg
    obtain ⟨rfl, rfl, hn⟩ := hg
    have F14 := F13.trans f14 (by intro i hi e; omega)
    have h14 := h13.fr f14 (by omega) (fun k hk h => by have := n15 k hk; omega)
    clear F13 f14 h13 r13 r14 hn
    go_wp2_with fail
    refine (bytes_any _ _ _ _ _ h14 (by omega)).mono ?_
    rintro e w15 ⟨q15, rfl, b15, hq15, f15⟩
    go_wp2_with fail
    refine (new_any _ _ zs4 ⟨_, _, by rw [rowOf_length], fun _ => ⟨_, rfl, fun j u hu => World.news_of_block b15 j u hu⟩⟩ (by omega) h14.packs.small).mono ?_
    rintro e w16 ⟨p16, q16, rfl, r16, hp16, hq16, f16⟩
    have F16 := (F14.trans' f15).trans' f16
    have n16 : w.heap.size ≤ p16 := by have := F14.size; have := f15.size; omega
    clear F14 f15 f16 h14 b15 hq15 hq16 hp16
    go_wp2_with fail
    refine (sget_any _ p16 q16 _ _ _ r16 (by omega) (by omega) (by omega)).mono ?_
    rintro e w17 ⟨y', is', rfl, n', hg, r17, f17⟩
    rw [HY.out] at hg
    simp only [Prod.mk.injEq] at hg
    obtain ⟨rfl, rfl, hn⟩ := hg
    have F17 := F16.trans f17 (by intro i hi e; omega)
    clear F16 f17 r16 r17 hn HX HY
    cases hc : hasC z with
    | true =>
      obtain rfl := HX2.out hc
      cases hd : hasS (x : Int) with
      | true =>
        obtain rfl := HY2.out hd
        rw [hc] at hSe
        rw [hd] at hTe
        go_wp2
        go_ret
        exact ⟨rfl, F17.below (Nat.le_refl _) (fun _ _ h => h)⟩
      | false =>
        rw [hc] at hSe
        rw [hd] at hTe
        go_wp2
        go_ret
        exact ⟨rfl, F17.below (Nat.le_refl _) (fun _ _ h => h)⟩
    | false =>
      cases hd : hasS z with
      | true =>
        obtain rfl := HY2.out hd
        rw [hc] at hSe
        rw [hd] at hTe
        go_wp2
        go_ret
        exact ⟨rfl, F17.below (Nat.le_refl _) (fun _ _ h => h)⟩
      | false =>
        rw [hc] at hSe
        rw [hd] at hTe
        go_wp2
        go_ret
        exact ⟨rfl, F17.below (Nat.le_refl _) (fun _ _ h => h)⟩
end Go.Proofs.Ytjjcekmmdngekaa
