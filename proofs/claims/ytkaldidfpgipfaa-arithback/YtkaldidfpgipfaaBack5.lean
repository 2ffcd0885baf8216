/-
  Law package 5: bits that are put are told again, chances alike (ArithBack): the walk.
-/
import Derived.Test.YtkaldidfpgipfaaBackM5
import Derived.Deep.RegionHeld3
import Derived.Deep.AppendLies
import Derived.Deep.DeepCutAuto
namespace Go.Proofs.Ytkaldidfpgipfaa
open Go.RowKit

theorem rsame_yes (w : World) (v1 v2 : Value) (A : List Int) (h1 : Reads w v1 (intRow A)) (h2 : Reads w v2 (intRow A)) (hA : A.length ≤ 1000000) :
    Calls Try.prog 14 #[v1, v2] w fun e w' => e = .returned (.bool true) ∧ Fr (fun _ => False) w w' := by
  have := rsame_any w v1 v2 A A h1 h2 hA hA
  rw [show decide (A = A) = true by simp] at this
  exact this

/-- What is kept in the first loop, behind a name. -/
def BackIn (w wr : World) (p g n k : Nat) (vp vw : Value) : Prop := ∃ (l : List (Int × Bool)) (v : Value) (zs : List Nat), (∀ x ∈ l, hasX n x.1 = true) ∧ l.length ≤ k ∧ l.length ≤ 400 ∧ BackSt w wr p g n v zs (runC n (startC n) l) vp vw l l

set_option maxHeartbeats 4000000 in
theorem back5_walk (x : Int) (hx0 : 0 ≤ x) (hx1 : x ≤ 255) (a : Option Addr) (len cap : Nat) (C : Nat → Int) (B : Nat → Bool) (w : World) (h0 : IsBits w a len C B) :
    Calls Try.prog 5 #[.int .u8 x, .slice a len cap] w fun e w' => e = .returned (.bool true) ∧ Below w.heap.size w w' := by
  have hlen : (len : Int) ≤ 9223372036854775807 := by
    rcases h0 with h | ⟨_, _, _, h, _⟩
    · omega
    · unfold maxLen at h; omega
  have H0 := hid h0
  clear h0
  obtain ⟨n, hn⟩ : ∃ n : Nat, (n : Int) = 1 + x % 64 := ⟨(1 + x % 64).toNat, by omega⟩
  have n1 : 1 ≤ n := by omega
  have n2 : n ≤ 64 := by omega
  have HC : Hid (ctxN (n : Int) = n) := by show _ = _; unfold ctxN; omega
  have HNn : Hid (1 + x % 64 = (n : Int)) := hn.symm
  clear hn
  go_enter Try.func5, Try.ntmps5
  go_wp2_with fail
  refine (first5_any _).mono ?_
  rintro e w1 ⟨rfl, F1⟩
  go_wp2_with fail
  rw [HNn.out]
  refine (newEnc_any w1 (n : Int)).mono ?_
  rintro e w3 ⟨p, g, rfl, h3, hg3, f3⟩
  rw [HC.out] at h3
  have S3 := BackSt.start h3 (F1.trans' f3)
  have hgw : w.heap.size ≤ g := Nat.le_trans F1.size hg3
  clear h3 f3 hg3 F1
  go_wp2
  go_loopw [7, 8, 24] (fun vp vw i wr => ∃ k : Nat, k ≤ len ∧ i = .int .i64 (k : Int) ∧ BackIn w wr p g n k vp vw) (fun _ _ i _ => len - (intOf i).toNat)
  case atStart => exact ⟨0, Nat.zero_le _, rfl, [], _, _, by simp, Nat.le_refl _, by simp, S3⟩
  case round =>
    clear S3
    obtain ⟨k, hk, rfl, l, v5, zs5, hl, hl1, hl2, S5⟩ := hrel
    by_cases hlt : k < len
    · rcases H0.out with h00 | ⟨b, off, rfl, _, hall⟩
      · omega
      obtain ⟨c0, c1, g1, g2⟩ := hall k hlt
      have hbl : b < w.heap.size := cell_lt c0
      have c0' := (S5.fr.cell (p := ⟨b, off + k * 2, none⟩) hbl (fun h => h)).trans c0
      have c1' := (S5.fr.cell (p := ⟨b, off + k * 2 + 1, none⟩) hbl (fun h => h)).trans c1
      have hki : (k : Int) < (len : Int) := by omega
      generalize C k = y at *
      generalize B k = bb at *
      clear c0 c1 hall
      have S6 := S5.quiet ((Fr.refl (fun _ => False) wr).alloc (.cells #[.int .i64 y, .bool bb] 29))
      by_cases h400 : k < 400
      · have h4i : (k : Int) < 400 := by omega
        have hG := runC_good n l (startC n) (Good.first n)
        have hNl := runC_N0 n l
        have d0 : (wr.alloc (.cells #[.int .i64 y, .bool bb] 29)).cell? ⟨wr.heap.size, 0, none⟩ = some (.int .i64 y) := by rw [(Blk.new wr _ _).cell]; rfl
        have d1 : (wr.alloc (.cells #[.int .i64 y, .bool bb] 29)).cell? ⟨wr.heap.size, 1, none⟩ = some (.bool bb) := by rw [(Blk.new wr _ _).cell]; rfl
        have hpn : p < wr.heap.size := S5.en.blk.lt
        have hgn : g < p := S5.en.gp
        have hvn : ∀ j, v5.ownBlock = some j → j < wr.heap.size := fun j hj => (S5.en.vlt hj).2
        have hwg : w.heap.size ≤ wr.heap.size := S5.fr.size
        clear S5
        go_wp2_with fail
        refine (eput_any _ p g v5 zs5 n _ y bb S6.en (by omega) (by omega) hG).mono ?_
        rintro e w7 ⟨rfl, v7, zs7, h7, st7⟩
        have S7 := S6.put h7 st7 hgw
        have hnot : ¬ (wr.heap.size = p ∨ wr.heap.size = g ∨ v5.ownBlock = some wr.heap.size) := by
          rintro (e | e | e)
          · omega
          · omega
          · have := hvn _ e; omega
        have e0 := (st7.fr.cell (p := ⟨wr.heap.size, 0, none⟩) (by simp) hnot).trans d0
        have e1 := (st7.fr.cell (p := ⟨wr.heap.size, 1, none⟩) (by simp) hnot).trans d1
        clear S6 h7 st7 d0 d1 hnot
        cases hc : hasX n y with
        | false =>
          have hput : putX n (runC n (startC n) l) y bb = runC n (startC n) l := by unfold putX; rw [hc]; rfl
          rw [hput] at S7
          go_wp2
          go_roundw
          case rel => exact ⟨k + 1, by omega, by go_num, l, v7, zs7, hl, by omega, hl2, S7⟩
          case measure => simp [intOf]; omega
        | true =>
          rw [show putX n (runC n (startC n) l) y bb = runC n (startC n) (l ++ [(y, bb)]) by rw [runC_snoc]] at S7
          have hl' : ∀ z ∈ l ++ [(y, bb)], hasX n z.1 = true := by
            intro z hz
            rcases List.mem_append.1 hz with hz | hz
            · exact hl z hz
            · simp at hz; rw [hz]; exact hc
          have hll : l.length < 400 := by omega
          obtain ⟨ib, hib, hb0, hb1, hb2⟩ := info_parts Try.info_bit5
          obtain ⟨iw, hiw, hw0, hw1, hw2⟩ := info_parts Try.info_ints5
          have S8 := S7.quiet ((Fr.refl (fun _ => False) w7).alloc (.cells #[.int .i64 y, .bool bb] 29))
          have hp8 := S8.en.blk.lt
          clear S7
          go_wp2_with (at_builtin; refine wpList_append_lies _ rfl _ _ 22 rfl (p + 1) 29 ib (.agg #[.int .i64 0, .bool false]) 2 16 Try.underlying22 hib hb0 hb1 hb2 rfl (by decide) _ l.length (bitRow l) rfl S8.op ⟨w7.heap.size, 0, none⟩ 1 1 [.int .i64 y, .bool bb] rfl rfl ?c1 ?c2 (by decide) ?c3 ?c4 ?c5 (w7.heap.size + 1) (by simp) ?_)
          case c1 => exact World.news_of_block (heap_alloc_new _ _)
          case c2 => intro u hu; simp at hu; rcases hu with rfl | rfl <;> rfl
          case c3 => unfold maxLen; omega
          case c4 => omega
          case c5 => omega
          intro ga capa w9 hown hgrow hat hlta
          have S9 := S8.bit (y, bb) ga capa hown hgrow (by rcases hat with e | e; exact .inl e; exact .inr (by simpa using e)) hgw
          clear S8 hown hgrow hat
          go_wp2_with fail
          refine (echances_any _ p g _ _ n _ S9.en (by omega)).mono ?_
          rintro e w10 ⟨q, rfl, b10, hq, f10⟩
          have S10 := S9.quiet f10
          have hp9 : p < w9.heap.size := S9.en.blk.lt
          have q2 : v7.ownBlock ≠ some q := fun e => by have := (S9.en.vlt e).2; omega
          have q3 : (Value.slice (some ⟨ga, 0, none⟩) (l.length + 1) capa).ownBlock ≠ some q := fun e => by have := (S9.op.lt _ e).2; omega
          have q4 : ∀ wl, w9.ownsRow (p + 1) 34 1 u8 l.length wl → u8.ownBlock ≠ some q := fun wl o e => by have := (o.lt _ e).2; omega
          obtain ⟨wl9, o9, _⟩ := S9.ow
          have q4' := q4 wl9 o9
          have S11 := S10.quiet ((Fr.refl (fun _ => False) w10).alloc (.cells #[.slice (some ⟨q, 0, none⟩) n n] 34))
          have b11 := b10.alloc (.cells #[.slice (some ⟨q, 0, none⟩) n n] 34)
          obtain ⟨wl, o11, hwl⟩ := S11.ow
          have hp11 := S11.en.blk.lt
          clear S9 S10 b10 f10 q4 o9
          go_wp2_with (at_builtin; refine wpList_append_lies _ rfl _ _ 50 rfl (p + 1) 34 iw (.slice none 0 0) 1 24 Try.underlying50 hiw hw0 hw1 hw2 rfl (by decide) _ l.length wl rfl o11 ⟨w10.heap.size, 0, none⟩ 1 1 [.slice (some ⟨q, 0, none⟩) n n] rfl rfl ?c1 ?c2 (by decide) ?c3 ?c4 ?c5 (w10.heap.size + 1) (by simp) ?_)
          case c1 => exact World.news_of_block (heap_alloc_new _ _)
          case c2 => intro u hu; simp at hu; subst hu; rfl
          case c3 => unfold maxLen; omega
          case c4 => omega
          case c5 => omega
          intro gb capb w12 hown hgrow hat hltb
          have S12 := S11.was (y, bb) q wl hwl o11 b11 (by omega) q2 q3 q4' gb capb hown hgrow (by rcases hat with e | e; exact .inl e; exact .inr (by simpa using e)) hgw
          clear S11 hown hgrow hat o11 hwl b11
          go_wp2
          go_roundw
          case rel => exact ⟨k + 1, by omega, by go_num, l ++ [(y, bb)], v7, zs7, hl', by simp; omega, by simp; omega, by simpa using S12⟩
          case measure => simp [intOf]; omega
      · have h4i : ¬ (k : Int) < 400 := by omega
        have h4d : decide ((k : Int) < 400) = false := by simpa using h4i
        go_wp2
        go_roundw
        case rel => exact ⟨k + 1, by omega, by go_num, l, v5, zs5, hl, by omega, hl2, S6⟩
        case measure => simp [intOf]; omega
    · have hki : ¬ (k : Int) < (len : Int) := by omega
      have hG := runC_good n l (startC n) (Good.first n)
      have hNl := runC_N' n l (startC n) hl
      have hN0 : (startC n).N = 0 := rfl
      have hfew := hG.few
      rw [hNl, hN0] at hfew
      go_wp2_with fail
      refine (ebytes_any _ p g v5 zs5 n _ S5.en hG (by omega)).mono ?_
      rintro e w6 ⟨q6, cap6, ys, rfl, o6, T6, f6⟩
      have S6 := S5.quiet f6
      have hfol := tells_follow hG T6
      have hyl := T6.len
      have hsm := T6.small
      have hys : ys.length ≤ 2 * l.length + 2 := by omega
      have HT6 := hid T6
      clear S5 f6 T6
      go_wp2_with fail
      refine (newDec_any w6 _ ys (n : Int) (Reads.of_owns (by rw [rowOf_length]; exact o6)) (by omega) hsm).mono ?_
      rintro e w7 ⟨pd, gd, rd, qd, rfl, d7, hr, hq, f7⟩
      rw [HC.out, ← decSt_start] at d7
      obtain ⟨wl, E6⟩ := S6.toEnd
      have hB : w.heap.size ≤ w6.heap.size := S6.fr.size
      have E7 := E6.far f7 (fun _ h => h.elim) hB
      obtain ⟨ap, capp, rfl, hfp⟩ := ownsRow_form2 E7.op
      obtain ⟨aw, capw, rfl, hfw⟩ := ownsRow_form2 E7.ow
      have HF := hid hfol
      have hrw : w.heap.size ≤ rd := Nat.le_trans hB hr
      clear S6 E6 f7 o6 hfol
      generalize w6.heap.size = Bd at *
      go_wp2
      go_loopw [55] (fun i wx => ∃ k : Nat, k ≤ l.length ∧ i = .int .i64 (k : Int) ∧ De wx pd gd rd qd ys n (decSt (bitAt ys) (runC n (startC n) (l.take k))) ∧ BackEnd w wx p g n Bd v5 zs5 (runC n (startC n) l) (.slice ap l.length capp) (.slice aw l.length capw) l wl) (fun i _ => l.length - (intOf i).toNat)
      case atStart => exact ⟨0, Nat.zero_le _, rfl, d7, E7⟩
      case round =>
        clear d7 E7
        obtain ⟨k2, hk2, rfl, d8, E8⟩ := hrel
        have hgd := d8.gp
        have hrg := d8.rg
        by_cases hlt2 : k2 < l.length
        · obtain ⟨ga, rfl⟩ := hfp (by omega)
          obtain ⟨gb, rfl⟩ := hfw (by omega)
          have hki2 : (k2 : Int) < (l.length : Int) := by omega
          have hto := run_told l hl HF.out k2 hlt2
          obtain ⟨r0, r1⟩ := bitRow_get l k2 hlt2
          have c0 := E8.op.cells (g := ga) rfl _ _ r0
          have c1 := E8.op.cells (g := ga) rfl _ _ r1
          rw [addr_add, Nat.zero_add] at c0 c1
          obtain ⟨q, hq1, hq2, hq3⟩ := E8.rows k2 hlt2
          have hdg : DGood n (decSt (bitAt ys) (runC n (startC n) (l.take k2))) := decSt_good _ (runC_good n _ _ (Good.first n))
          have hdN : (decSt (bitAt ys) (runC n (startC n) (l.take k2))).N ≤ 1000 := by
            have := runC_N0 n (l.take k2)
            have e9 : (l.take k2).length ≤ 400 := by simp; omega
            show (runC n (startC n) (l.take k2)).N ≤ 1000
            omega
          have hPl := runC_len n (l.take (k2 + 1))
          obtain ⟨W9, hW9⟩ : ∃ W9, W9 = wr.alloc (.cells #[.int .i64 l[k2].1, .bool l[k2].2] 29) := ⟨_, rfl⟩
          obtain ⟨nb, hnb⟩ : ∃ nb, nb = wr.heap.size := ⟨_, rfl⟩
          have B9 : Blk W9 nb #[.int .i64 l[k2].1, .bool l[k2].2] 29 := by rw [hW9, hnb]; exact Blk.new wr _ _
          have d9 : De W9 pd gd rd qd ys n (decSt (bitAt ys) (runC n (startC n) (l.take k2))) := by rw [hW9]; exact d8.quiet ((Fr.refl (fun _ => False) wr).alloc _)
          have E9 : BackEnd w W9 p g n Bd v5 zs5 (runC n (startC n) l) (.slice (some ⟨ga, 0, none⟩) l.length capp) (.slice (some ⟨gb, 0, none⟩) l.length capw) l wl := by rw [hW9]; exact E8.far ((Fr.refl (fun _ => False) wr).alloc _) (fun _ h => h.elim) hB
          have hpdn : pd < nb := by rw [hnb]; exact d8.blk.lt
          have HW9 := hid hW9
          have HNB := hid hnb
          have x0 : W9.cell? ⟨nb, 0, none⟩ = some (.int .i64 l[k2].1) := by rw [B9.cell]; rfl
          have x1 : W9.cell? ⟨nb, 1, none⟩ = some (.bool l[k2].2) := by rw [B9.cell]; rfl
          have x2 : W9.cell? ⟨gb, k2, none⟩ = some (.slice (some ⟨q, 0, none⟩) n n) := ownsRow_cell E9.ow k2 _ hq1
          have hgbB : gb < Bd := E9.lw gb rfl
          have HG : Hid (Calls Try.prog 19 #[.pointer (some ⟨pd, 0, none⟩), .int .i64 l[k2].1] W9.drew fun e w' => e = .returned (.bool l[k2].2) ∧ De w' pd gd rd qd ys n (decSt (bitAt ys) (runC n (startC n) (l.take (k2 + 1)))) ∧ BackEnd w w' p g n Bd v5 zs5 (runC n (startC n) l) (.slice (some ⟨ga, 0, none⟩) l.length capp) (.slice (some ⟨gb, 0, none⟩) l.length capw) l wl ∧ w'.cell? ⟨nb, 0, none⟩ = some (.int .i64 l[k2].1) ∧ w'.cell? ⟨nb, 1, none⟩ = some (.bool l[k2].2) ∧ w'.cell? ⟨gb, k2, none⟩ = some (.slice (some ⟨q, 0, none⟩) n n)) := by
            refine (dget_any W9.drew pd gd rd qd ys n _ l[k2].1 (d9.quiet ((Fr.refl (fun _ => False) W9).drew)) (by omega) (by omega) (by omega) hdg).mono ?_
            rintro e w10 ⟨rfl, d10, f10⟩
            rw [hto.1]
            rw [hto.2] at d10
            have f11 : Fr (DeS pd gd rd) W9 w10 := ((Fr.refl (DeS pd gd rd) W9).drew).trans' f10
            have E10 := E9.far f11 (fun x hx => by unfold DeS at hx; omega) hB
            have nn : ¬ DeS pd gd rd nb := by unfold DeS; omega
            exact ⟨rfl, d10, E10, (f11.cell (p := ⟨nb, 0, none⟩) B9.lt nn).trans x0, (f11.cell (p := ⟨nb, 1, none⟩) B9.lt nn).trans x1, ownsRow_cell E10.ow k2 _ hq1⟩
          have HQ : Hid (∀ wx, BackEnd w wx p g n Bd v5 zs5 (runC n (startC n) l) (.slice (some ⟨ga, 0, none⟩) l.length capp) (.slice (some ⟨gb, 0, none⟩) l.length capw) l wl → Blk wx q (intRow (runC n (startC n) (l.take (k2 + 1))).P).toArray 3) := by
            show ∀ wx, _
            intro wx hE
            obtain ⟨q', a', b', _⟩ := hE.rows k2 hlt2
            rw [hq1] at a'
            simp at a'
            rw [a']
            exact b'
          have hPd : (decSt (bitAt ys) (runC n (startC n) (l.take (k2 + 1)))).P = (runC n (startC n) (l.take (k2 + 1))).P := rfl
          have hbit : (l[k2].2 != l[k2].2) = false := by simp
          clear hto r0 r1 d8 E8 d9 E9 hW9 hnb B9 hq2 hdg hdN
          generalize l[k2].1 = y at *
          generalize l[k2].2 = bb at *
          obtain ⟨dn, hdn⟩ : ∃ dn, dn = decSt (bitAt ys) (runC n (startC n) (l.take (k2 + 1))) := ⟨_, rfl⟩
          rw [← hdn] at HG hPd
          have HDN := hid hdn
          clear hdn
          generalize (runC n (startC n) (l.take (k2 + 1))).P = Pn at HQ hPd hPl
          go_wp2
          rw [← HW9.out, ← HNB.out]
          go_region_held3 (fun w' => w'.cell? ⟨nb, 0, none⟩ = some (.int .i64 y) ∧ w'.cell? ⟨nb, 1, none⟩ = some (.bool bb) ∧ w'.cell? ⟨gb, k2, none⟩ = some (.slice (some ⟨q, 0, none⟩) n n)) (go_keep) (first
            | (go_at_call 19; refine HG.out.mono ?_; rintro e w10 ⟨rfl, d10, E10, z0, z1, z2⟩)
            | (go_at_call 21; refine (dchances_any _ pd gd rd qd ys n dn d10 (by omega)).mono ?_; rintro e w11 ⟨q11, rfl, b11, hq11, f11⟩; have d11 := d10.quiet f11; have E11 := E10.far f11 (fun _ h => h.elim) hB; have y0 := (f11.cell (p := ⟨nb, 0, none⟩) (cell_lt z0) (fun h => h)).trans z0; have y1 := (f11.cell (p := ⟨nb, 1, none⟩) (cell_lt z1) (fun h => h)).trans z1; have y2 := (f11.cell (p := ⟨gb, k2, none⟩) (cell_lt z2) (fun h => h)).trans z2; have hsame := hid (rsame_yes w11 (.slice (some ⟨q11, 0, none⟩) n n) (.slice (some ⟨q, 0, none⟩) n n) Pn (reads_blkI (by rw [← hPd]; exact b11) hPl) (reads_blkI (HQ.out w11 E11) hPl) (by omega)))
            | (go_at_call 14; refine hsame.out.mono ?_; rintro e w12 ⟨rfl, f12⟩; have d12 := d11.quiet f12; have E12 := E11.far f12 (fun _ h => h.elim) hB; have t0 := (f12.cell (p := ⟨nb, 0, none⟩) (cell_lt y0) (fun h => h)).trans y0; have t1 := (f12.cell (p := ⟨nb, 1, none⟩) (cell_lt y1) (fun h => h)).trans y1; have t2 := (f12.cell (p := ⟨gb, k2, none⟩) (cell_lt y2) (fun h => h)).trans y2))
          all_goals
            go_wp2
            go_roundw
            case rel => exact ⟨k2 + 1, by omega, by go_num, by rw [← HDN.out]; exact d12, E12⟩
            case measure => simp [intOf]; omega
        · have hki2 : ¬ (k2 : Int) < (l.length : Int) := by omega
          go_wp2_with fail
          refine (ebytes_any _ p g v5 zs5 n _ E8.en hG (by omega)).mono ?_
          rintro e w10 ⟨q10, cap10, ys10, rfl, o10, T10, f10⟩
          obtain rfl : ys10 = ys := T10.unique HT6.out
          have hfin : (ys10.length : Int) ≤ 2 * (l.length : Int) + 2 := by omega
          go_wp2
          go_ret
          exact ⟨rfl, (E8.fr.trans' f10).below (Nat.le_refl _) (fun _ _ h => h)⟩
end Go.Proofs.Ytkaldidfpgipfaa
