/-
  Law package 5: noughts behind an encoder's bytes change nothing (ArithTail): the walk.
-/
import Derived.Test.YtkaldidfpgipfaaBackM5
import Derived.Test.YtkaldidfpgipfaaZeros5
import Derived.Deep.RegionHeld3
import Derived.Deep.AppendLies
namespace Go.Proofs.Ytkaldidfpgipfaa
open Go.RowKit

theorem rsame_same (w : World) (v1 v2 : Value) (A : List Int) (h1 : Reads w v1 (intRow A)) (h2 : Reads w v2 (intRow A)) (hA : A.length ≤ 1000000) :
    Calls Try.prog 14 #[v1, v2] w fun e w' => e = .returned (.bool true) ∧ Fr (fun _ => False) w w' := by
  have := rsame_any w v1 v2 A A h1 h2 hA hA
  rw [show decide (A = A) = true by simp] at this
  exact this

theorem ctx8 : ctxN 8 = 8 := by decide
theorem bitAt_none : bitAt [] = fun _ => false := by funext p; simp [bitAt]
theorem bitAt_more (ys : List Nat) (k : Nat) : bitAt (ys ++ List.replicate k 0) = bitAt ys := by funext p; exact bitAt_zeros ys k p

/-- What is kept in the first loop, behind a name. -/
def TailIn (w wr : World) (p g k : Nat) (vp : Value) : Prop := ∃ (l : List (Int × Bool)) (v : Value) (zs : List Nat), (∀ x ∈ l, hasX 8 x.1 = true) ∧ l.length ≤ k ∧ l.length ≤ 300 ∧ BackSt w wr p g 8 v zs (runC 8 (startC 8) l) vp (.slice none 0 0) l []

theorem getX_Nle (B : Nat → Bool) (n : Nat) (s : DX) (c : Int) : (getX B n s c).N ≤ s.N + 1 := by unfold getX; split <;> simp

/-- Three decoders, the blocks of which lie one behind the other, behind the bits that were put. -/
structure TailSep (w : World) (pa ga ra qa pb gb rb qb pn gn rn qn Ba Bb B6 : Nat) (vp : Value) : Prop where
  a1 : ga < pa
  a2 : ra < ga
  a3 : qa < ga
  a4 : pa < Ba
  b0 : Ba ≤ rb ∧ Ba ≤ qb
  b1 : gb < pb
  b2 : rb < gb
  b3 : qb < gb
  b4 : pb < Bb
  n0 : Bb ≤ rn ∧ Bb ≤ qn
  n1 : gn < pn
  n2 : rn < gn
  n3 : qn < gn
  o1 : B6 ≤ ra ∧ B6 ≤ qa
  o2 : ∀ x, vp.ownBlock = some x → x < B6
  o3 : w.heap.size ≤ B6

structure TailSt (w wx : World) (pa ga ra qa pb gb rb qb pn gn rn qn p : Nat) (ys zs2 : List Nat) (sa sb sn : DX) (vp : Value) (l : List (Int × Bool)) : Prop where
  a : De wx pa ga ra qa ys 8 sa
  b : De wx pb gb rb qb zs2 8 sb
  n : De wx pn gn rn qn [] 8 sn
  op : wx.ownsRow (p + 1) 29 2 vp l.length (bitRow l)
  fr : Fr (fun _ => False) w wx

theorem TailSt.quiet {w wx wx' : World} {pa ga ra qa pb gb rb qb pn gn rn qn p : Nat} {ys zs2 : List Nat} {sa sb sn : DX} {vp : Value} {l : List (Int × Bool)} (h : TailSt w wx pa ga ra qa pb gb rb qb pn gn rn qn p ys zs2 sa sb sn vp l) (f : Fr (fun _ => False) wx wx') : TailSt w wx' pa ga ra qa pb gb rb qb pn gn rn qn p ys zs2 sa sb sn vp l :=
  ⟨h.a.quiet f, h.b.quiet f, h.n.quiet f, ownsRow_fr h.op f (fun _ _ h => h), h.fr.trans' f⟩
theorem TailSt.getA {w wx : World} {pa ga ra qa pb gb rb qb pn gn rn qn p Ba Bb B6 : Nat} {ys zs2 : List Nat} {sa sb sn : DX} {vp : Value} {l : List (Int × Bool)} (h : TailSt w wx pa ga ra qa pb gb rb qb pn gn rn qn p ys zs2 sa sb sn vp l) (k : TailSep w pa ga ra qa pb gb rb qb pn gn rn qn Ba Bb B6 vp) (y : Int) (hz : ys.length ≤ 1000000) (hN : sa.N ≤ 1000) (hG : DGood 8 sa) :
    Calls Try.prog 19 #[.pointer (some ⟨pa, 0, none⟩), .int .i64 y] wx fun e w' => e = .returned (.bool (getB 8 sa y)) ∧ TailSt w w' pa ga ra qa pb gb rb qb pn gn rn qn p ys zs2 (getX (bitAt ys) 8 sa y) sb sn vp l ∧ Fr (DeS pa ga ra) wx w' := by
  obtain ⟨a1, a2, a3, a4, b0, b1, b2, b3, b4, n0, n1, n2, n3, o1, o2, o3⟩ := k
  refine (dget_any wx pa ga ra qa ys 8 sa y h.a (by omega) (by omega) (by omega) hG).mono ?_
  rintro e w1 ⟨rfl, d1, f1⟩
  exact ⟨rfl, ⟨d1, h.b.fr f1 (by unfold DeS; omega) (by unfold DeS; omega) (by unfold DeS; omega) (by unfold DeS; omega), h.n.fr f1 (by unfold DeS; omega) (by unfold DeS; omega) (by unfold DeS; omega) (by unfold DeS; omega), ownsRow_fr h.op f1 (fun x hx hh => by have := o2 x hx; unfold DeS at hh; omega), h.fr.trans f1 (fun i hi hh => by unfold DeS at hh; omega)⟩, f1⟩
theorem TailSt.getB {w wx : World} {pa ga ra qa pb gb rb qb pn gn rn qn p Ba Bb B6 : Nat} {ys zs2 : List Nat} {sa sb sn : DX} {vp : Value} {l : List (Int × Bool)} (h : TailSt w wx pa ga ra qa pb gb rb qb pn gn rn qn p ys zs2 sa sb sn vp l) (k : TailSep w pa ga ra qa pb gb rb qb pn gn rn qn Ba Bb B6 vp) (y : Int) (hz : zs2.length ≤ 1000000) (hN : sb.N ≤ 1000) (hG : DGood 8 sb) :
    Calls Try.prog 19 #[.pointer (some ⟨pb, 0, none⟩), .int .i64 y] wx fun e w' => e = .returned (.bool (Go.Proofs.Ytkaldidfpgipfaa.getB 8 sb y)) ∧ TailSt w w' pa ga ra qa pb gb rb qb pn gn rn qn p ys zs2 sa (getX (bitAt zs2) 8 sb y) sn vp l ∧ Fr (DeS pb gb rb) wx w' := by
  obtain ⟨a1, a2, a3, a4, b0, b1, b2, b3, b4, n0, n1, n2, n3, o1, o2, o3⟩ := k
  refine (dget_any wx pb gb rb qb zs2 8 sb y h.b (by omega) (by omega) (by omega) hG).mono ?_
  rintro e w1 ⟨rfl, d1, f1⟩
  exact ⟨rfl, ⟨h.a.fr f1 (by unfold DeS; omega) (by unfold DeS; omega) (by unfold DeS; omega) (by unfold DeS; omega), d1, h.n.fr f1 (by unfold DeS; omega) (by unfold DeS; omega) (by unfold DeS; omega) (by unfold DeS; omega), ownsRow_fr h.op f1 (fun x hx hh => by have := o2 x hx; unfold DeS at hh; omega), h.fr.trans f1 (fun i hi hh => by unfold DeS at hh; omega)⟩, f1⟩
theorem TailSt.getN {w wx : World} {pa ga ra qa pb gb rb qb pn gn rn qn p Ba Bb B6 : Nat} {ys zs2 : List Nat} {sa sb sn : DX} {vp : Value} {l : List (Int × Bool)} (h : TailSt w wx pa ga ra qa pb gb rb qb pn gn rn qn p ys zs2 sa sb sn vp l) (k : TailSep w pa ga ra qa pb gb rb qb pn gn rn qn Ba Bb B6 vp) (y : Int) (hN : sn.N ≤ 1000) (hG : DGood 8 sn) :
    Calls Try.prog 19 #[.pointer (some ⟨pn, 0, none⟩), .int .i64 y] wx fun e w' => e = .returned (.bool (Go.Proofs.Ytkaldidfpgipfaa.getB 8 sn y)) ∧ TailSt w w' pa ga ra qa pb gb rb qb pn gn rn qn p ys zs2 sa sb (getX (bitAt []) 8 sn y) vp l ∧ Fr (DeS pn gn rn) wx w' := by
  obtain ⟨a1, a2, a3, a4, b0, b1, b2, b3, b4, n0, n1, n2, n3, o1, o2, o3⟩ := k
  refine (dget_any wx pn gn rn qn [] 8 sn y h.n (by omega) (by simp) (by omega) hG).mono ?_
  rintro e w1 ⟨rfl, d1, f1⟩
  exact ⟨rfl, ⟨h.a.fr f1 (by unfold DeS; omega) (by unfold DeS; omega) (by unfold DeS; omega) (by unfold DeS; omega), h.b.fr f1 (by unfold DeS; omega) (by unfold DeS; omega) (by unfold DeS; omega) (by unfold DeS; omega), d1, ownsRow_fr h.op f1 (fun x hx hh => by have := o2 x hx; unfold DeS at hh; omega), h.fr.trans f1 (fun i hi hh => by unfold DeS at hh; omega)⟩, f1⟩

set_option maxHeartbeats 4000000 in
theorem tail5_walk (a : Option Addr) (len cap : Nat) (C : Nat → Int) (B : Nat → Bool) (z : Nat) (hz : z ≤ 255) (w : World) (h0 : IsBits w a len C B) :
    Calls Try.prog 6 #[.slice a len cap, .int .u8 (z : Int)] w fun e w' => e = .returned (.bool true) ∧ Below w.heap.size w w' := by
  have hlen : (len : Int) ≤ 9223372036854775807 := by
    rcases h0 with h | ⟨_, _, _, h, _⟩
    · omega
    · unfold maxLen at h; omega
  have H0 := hid h0
  clear h0
  go_enter Try.func6, Try.ntmps6
  go_wp2_with fail
  refine (first5_any _).mono ?_
  rintro e w1 ⟨rfl, F1⟩
  go_wp2_with fail
  refine (newEnc_any w1 8).mono ?_
  rintro e w3 ⟨p, g, rfl, h3, hg3, f3⟩
  rw [ctx8] at h3
  have S3 := BackSt.start h3 (F1.trans' f3)
  have hgw : w.heap.size ≤ g := Nat.le_trans F1.size hg3
  clear h3 f3 hg3 F1
  go_wp2
  go_loopw [6, 19] (fun vp i wr => ∃ k : Nat, k ≤ len ∧ i = .int .i64 (k : Int) ∧ TailIn w wr p g k vp) (fun _ i _ => len - (intOf i).toNat)
  case atStart => exact ⟨0, Nat.zero_le _, rfl, [], _, _, by simp, Nat.le_refl _, by simp, S3⟩
  case round =>
    clear S3
    obtain ⟨k, hk, rfl, l, v5, zs5, hl, hl1, hl2, S5⟩ := hrel
    by_cases hlt : k < len
    · rcases H0.out with h00 | ⟨b, off, rfl, _, hall⟩
      · omega
      obtain ⟨c0, c1, g1, g2⟩ := hall k hlt
      have hbl : b < w.heap.size := cell_lt c0
      have c0' := (S5.fr.cell (p := ⟨b, off + k * 2, none⟩) hbl (fun h => h)).trans c0
      have c1' := (S5.fr.cell (p := ⟨b, off + k * 2 + 1, none⟩) hbl (fun h => h)).trans c1
      have hki : (k : Int) < (len : Int) := by omega
      generalize C k = y at *
      generalize B k = bb at *
      clear c0 c1 hall
      have S6 := S5.quiet ((Fr.refl (fun _ => False) wr).alloc (.cells #[.int .i64 y, .bool bb] 29))
      by_cases h400 : k < 300
      · have h4i : (k : Int) < 300 := by omega
        have hG := runC_good 8 l (startC 8) (Good.first 8)
        have hNl := runC_N0 8 l
        have d0 : (wr.alloc (.cells #[.int .i64 y, .bool bb] 29)).cell? ⟨wr.heap.size, 0, none⟩ = some (.int .i64 y) := by rw [(Blk.new wr _ _).cell]; rfl
        have d1 : (wr.alloc (.cells #[.int .i64 y, .bool bb] 29)).cell? ⟨wr.heap.size, 1, none⟩ = some (.bool bb) := by rw [(Blk.new wr _ _).cell]; rfl
        have hpn : p < wr.heap.size := S5.en.blk.lt
        have hgn : g < p := S5.en.gp
        have hvn : ∀ j, v5.ownBlock = some j → j < wr.heap.size := fun j hj => (S5.en.vlt hj).2
        clear S5
        go_wp2_with fail
        refine (eput_any _ p g v5 zs5 8 _ y bb S6.en (by omega) (by omega) hG).mono ?_
        rintro e w7 ⟨rfl, v7, zs7, h7, st7⟩
        have S7 := S6.put h7 st7 hgw
        have hnot : ¬ (wr.heap.size = p ∨ wr.heap.size = g ∨ v5.ownBlock = some wr.heap.size) := by
          rintro (e | e | e)
          · omega
          · omega
          · have := hvn _ e; omega
        have e0 := (st7.fr.cell (p := ⟨wr.heap.size, 0, none⟩) (by simp) hnot).trans d0
        have e1 := (st7.fr.cell (p := ⟨wr.heap.size, 1, none⟩) (by simp) hnot).trans d1
        clear S6 h7 st7 d0 d1 hnot
        cases hc : hasX 8 y with
        | false =>
          have hput : putX 8 (runC 8 (startC 8) l) y bb = runC 8 (startC 8) l := by unfold putX; rw [hc]; rfl
          rw [hput] at S7
          go_wp2
          go_roundw
          case rel => exact ⟨k + 1, by omega, by go_num, l, v7, zs7, hl, by omega, hl2, S7⟩
          case measure => simp [intOf]; omega
        | true =>
          rw [show putX 8 (runC 8 (startC 8) l) y bb = runC 8 (startC 8) (l ++ [(y, bb)]) by rw [runC_snoc]] at S7
          have hl' : ∀ z ∈ l ++ [(y, bb)], hasX 8 z.1 = true := by
            intro z hz
            rcases List.mem_append.1 hz with hz | hz
            · exact hl z hz
            · simp at hz; rw [hz]; exact hc
          have hll : l.length < 300 := by omega
          obtain ⟨ib, hib, hb0, hb1, hb2⟩ := info_parts Try.info_bit5
          have S8 := S7.quiet ((Fr.refl (fun _ => False) w7).alloc (.cells #[.int .i64 y, .bool bb] 29))
          have hp8 := S8.en.blk.lt
          clear S7
          go_wp2_with (at_builtin; refine wpList_append_lies _ rfl _ _ 22 rfl (p + 1) 29 ib (.agg #[.int .i64 0, .bool false]) 2 16 Try.underlying22 hib hb0 hb1 hb2 rfl (by decide) _ l.length (bitRow l) rfl S8.op ⟨w7.heap.size, 0, none⟩ 1 1 [.int .i64 y, .bool bb] rfl rfl ?c1 ?c2 (by decide) ?c3 ?c4 ?c5 (w7.heap.size + 1) (by simp) ?_)
          case c1 => exact World.news_of_block (heap_alloc_new _ _)
          case c2 => intro u hu; simp at hu; rcases hu with rfl | rfl <;> rfl
          case c3 => unfold maxLen; omega
          case c4 => omega
          case c5 => omega
          intro ga capa w9 hown hgrow hat hlta
          have S9 := S8.bit (y, bb) ga capa hown hgrow (by rcases hat with e | e; exact .inl e; exact .inr (by simpa using e)) hgw
          clear S8 hown hgrow hat
          go_wp2
          go_roundw
          case rel => exact ⟨k + 1, by omega, by go_num, l ++ [(y, bb)], v7, zs7, hl', by simp; omega, by simp; omega, by simpa using S9⟩
          case measure => simp [intOf]; omega
      · have h4i : ¬ (k : Int) < 300 := by omega
        have h4d : decide ((k : Int) < 300) = false := by simpa using h4i
        go_wp2
        go_roundw
        case rel => exact ⟨k + 1, by omega, by go_num, l, v5, zs5, hl, by omega, hl2, S6⟩
        case measure => simp [intOf]; omega
    · have hki : ¬ (k : Int) < (len : Int) := by omega
      have hG := runC_good 8 l (startC 8) (Good.first 8)
      have hNl := runC_N0 8 l
      have hfew := hG.few
      go_wp2_with fail
      refine (ebytes_any _ p g v5 zs5 8 _ S5.en hG (by omega)).mono ?_
      rintro e w6 ⟨q6, cap6, ys, rfl, o6, T6, f6⟩
      have S6 := S5.quiet f6
      have hfol := tells_follow hG T6
      have hyl := T6.len
      have hsm := T6.small
      have hys : ys.length ≤ 1000 := by omega
      have HT6 := hid T6
      clear S5 f6 T6
      go_wp2_with fail
      refine (newDec_any w6 _ ys 8 (Reads.of_owns (by rw [rowOf_length]; exact o6)) (by omega) hsm).mono ?_
      rintro e w7 ⟨pa, ga, ra, qa, rfl, a7, hra, hqa, f7⟩
      rw [ctx8, ← decSt_start] at a7
      have S7 := S6.quiet f7
      have hw6 : w.heap.size ≤ w6.heap.size := S6.fr.size
      have hop6 : ∀ x, u6.ownBlock = some x → x < w6.heap.size := fun x hx => (S6.op.lt x hx).2
      clear S6 f7 o6
      go_wp2_with fail
      refine (ebytes_any _ p g v5 zs5 8 _ S7.en hG (by omega)).mono ?_
      rintro e w8 ⟨q8, cap8, ys8, rfl, o8, T8, f8⟩
      obtain rfl : ys8 = ys := T8.unique HT6.out
      have S8 := S7.quiet f8
      have a8 := a7.quiet f8
      obtain ⟨vz, wz, hrz, oz, fz⟩ := run_append_zeros w8 w7.heap.size q8 cap8 ys8 o8 z hz (by omega) f8.size 31
      have hq8 : w7.heap.size ≤ q8 := (o8.lt q8 rfl).1
      have ha7 : pa < w7.heap.size := a7.blk.lt
      have hgpa := a7.gp
      have hrga := a7.rg
      have hqga := a7.qg
      have hop7 : ∀ x, u6.ownBlock = some x → x < w7.heap.size := fun x hx => (S7.op.lt x hx).2
      have a9 := a8.fr fz (by omega) (by omega) (by omega) (by omega)
      have opz := ownsRow_fr S8.op fz (fun x hx e => by have := hop7 x hx; omega)
      have Fz : Fr (fun _ => False) w wz := S8.fr.trans fz (fun i hi e => by have := S7.fr.size; omega)
      have hw7 : w.heap.size ≤ w7.heap.size := S7.fr.size
      clear S7 S8 a7 a8 f8 o8 T8 fz
      go_wp2_with (at_builtin; refine Lib.wpList_append_run _ rfl _ _ 31 5 rfl _ _ rfl rfl vz wz hrz ?_)
      go_wp2_with fail
      have hsm2 : ∀ x ∈ ys8 ++ List.replicate z 0, x < 256 := by
        intro x hx
        rcases List.mem_append.1 hx with hx | hx
        · exact hsm x hx
        · rw [List.mem_replicate] at hx; rw [hx.2]; decide
      have hz2 : (ys8 ++ List.replicate z 0).length ≤ 2000 := by simp; omega
      refine (newDec_any wz vz (ys8 ++ List.replicate z 0) 8 (Reads.of_owns (by rw [rowOf_length]; exact oz)) (by omega) hsm2).mono ?_
      rintro e w10 ⟨pb, gb, rb, qb, rfl, b10, hrb, hqb, f10⟩
      rw [ctx8, ← decSt_start, bitAt_more] at b10
      have a10 := a9.quiet f10
      have op10 := ownsRow_fr opz f10 (fun _ _ h => h)
      have F10 := Fz.trans' f10
      have haz : pa < wz.heap.size := a9.blk.lt
      have hb10 : pb < w10.heap.size := b10.blk.lt
      clear a9 opz Fz f10 oz hsm hsm2
      go_wp2_with fail
      refine (newDec_any w10 (.slice none 0 0) [] 8 ⟨none, 0, rfl, fun h => by simp [rowOf] at h⟩ (by simp) (by simp)).mono ?_
      rintro e w11 ⟨pn, gn, rn, qn, rfl, n11, hrn, hqn, f11⟩
      rw [ctx8, bitAt_none] at n11
      have St : TailSt w w11 pa ga ra qa pb gb rb qb pn gn rn qn p ys8 (ys8 ++ List.replicate z 0) (decSt (bitAt ys8) (startC 8)) (decSt (bitAt ys8) (startC 8)) (startD (fun _ => false) 8) u6 l := ⟨a10.quiet f11, b10.quiet f11, n11, ownsRow_fr op10 f11 (fun _ _ h => h), F10.trans' f11⟩
      have Sep : TailSep w pa ga ra qa pb gb rb qb pn gn rn qn wz.heap.size w10.heap.size w6.heap.size u6 :=
        ⟨hgpa, hrga, hqga, haz, ⟨hrb, hqb⟩, b10.gp, b10.rg, b10.qg, hb10, ⟨hrn, hqn⟩, n11.gp, n11.rg, n11.qg, ⟨hra, hqa⟩, hop6, hw6⟩
      have HSep := hid Sep
      have HF := hid hfol
      obtain ⟨ap, capp, rfl, hfp⟩ := ownsRow_form2 St.op
      clear a10 b10 n11 op10 F10 f11 hrb hqb hrn hqn hra hqa hop6 hop7 Sep hfol hgpa hrga hqga haz hb10 hrz
      go_wp2
      go_loopw [50] (fun i wx => ∃ k : Nat, k ≤ l.length ∧ i = .int .i64 (k : Int) ∧ ∃ dz : DX, TailSt w wx pa ga ra qa pb gb rb qb pn gn rn qn p ys8 (ys8 ++ List.replicate z 0) (decSt (bitAt ys8) (runC 8 (startC 8) (l.take k))) (decSt (bitAt ys8) (runC 8 (startC 8) (l.take k))) dz (.slice ap l.length capp) l ∧ Nought dz ∧ DGood 8 dz ∧ dz.N ≤ k) (fun i _ => l.length - (intOf i).toNat)
      case atStart => exact ⟨0, Nat.zero_le _, rfl, _, St, Nought.first 8, DGood.first _ 8, Nat.le_refl _⟩
      case round =>
        clear St
        obtain ⟨k2, hk2, rfl, dz, St, hno, hdz, hdzN⟩ := hrel
        by_cases hlt2 : k2 < l.length
        · obtain ⟨gp, rfl⟩ := hfp (by omega)
          have hki2 : (k2 : Int) < (l.length : Int) := by omega
          have hto := run_told l hl HF.out k2 hlt2
          obtain ⟨r0, r1⟩ := bitRow_get l k2 hlt2
          have c0 := St.op.cells (g := gp) rfl _ _ r0
          have c1 := St.op.cells (g := gp) rfl _ _ r1
          rw [addr_add, Nat.zero_add] at c0 c1
          have hdg : DGood 8 (decSt (bitAt ys8) (runC 8 (startC 8) (l.take k2))) := decSt_good _ (runC_good 8 _ _ (Good.first 8))
          have hdN : (decSt (bitAt ys8) (runC 8 (startC 8) (l.take k2))).N ≤ 1000 := by
            have := runC_N0 8 (l.take k2)
            have e9 : (l.take k2).length ≤ 300 := by simp; omega
            show (runC 8 (startC 8) (l.take k2)).N ≤ 1000
            omega
          obtain ⟨W9, hW9⟩ : ∃ W9, W9 = wr.alloc (.cells #[.int .i64 l[k2].1, .bool l[k2].2] 29) := ⟨_, rfl⟩
          obtain ⟨nb, hnb⟩ : ∃ nb, nb = wr.heap.size := ⟨_, rfl⟩
          have B9 : Blk W9 nb #[.int .i64 l[k2].1, .bool l[k2].2] 29 := by rw [hW9, hnb]; exact Blk.new wr _ _
          have T9 : TailSt w W9 pa ga ra qa pb gb rb qb pn gn rn qn p ys8 (ys8 ++ List.replicate z 0) (decSt (bitAt ys8) (runC 8 (startC 8) (l.take k2))) (decSt (bitAt ys8) (runC 8 (startC 8) (l.take k2))) dz (.slice (some ⟨gp, 0, none⟩) l.length capp) l := by rw [hW9]; exact St.quiet ((Fr.refl (fun _ => False) wr).alloc _)
          have hpnn : pn < nb := by rw [hnb]; exact St.n.blk.lt
          have hpan : pa < nb := by rw [hnb]; exact St.a.blk.lt
          have hpbn : pb < nb := by rw [hnb]; exact St.b.blk.lt
          have HW9 := hid hW9
          have HNB := hid hnb
          have x0 : W9.cell? ⟨nb, 0, none⟩ = some (.int .i64 l[k2].1) := by rw [B9.cell]; rfl
          have x1 : W9.cell? ⟨nb, 1, none⟩ = some (.bool l[k2].2) := by rw [B9.cell]; rfl
          have T10 := T9.quiet ((Fr.refl (fun _ => False) W9).drew)
          have hno2 := Nought.get hdz hno l[k2].1
          have hdz2 := hdz.get (B := fun _ => false) l[k2].1
          have hdzN2 := getX_Nle (fun _ => false) 8 dz l[k2].1
          have hse := HSep.out
          have HA : Hid (Calls Try.prog 19 #[.pointer (some ⟨pa, 0, none⟩), .int .i64 l[k2].1] W9.drew fun e w' => e = .returned (.bool l[k2].2) ∧ TailSt w w' pa ga ra qa pb gb rb qb pn gn rn qn p ys8 (ys8 ++ List.replicate z 0) (decSt (bitAt ys8) (runC 8 (startC 8) (l.take (k2 + 1)))) (decSt (bitAt ys8) (runC 8 (startC 8) (l.take k2))) dz (.slice (some ⟨gp, 0, none⟩) l.length capp) l ∧ w'.cell? ⟨nb, 0, none⟩ = some (.int .i64 l[k2].1) ∧ w'.cell? ⟨nb, 1, none⟩ = some (.bool l[k2].2)) := by
            refine (T10.getA hse l[k2].1 (by omega) hdN hdg).mono ?_
            rintro e w10' ⟨rfl, t, f⟩
            rw [hto.1]
            rw [hto.2] at t
            have := hse.a1
            have := hse.a2
            have nn : ¬ DeS pa ga ra nb := by unfold DeS; omega
            exact ⟨rfl, t, (f.cell (p := ⟨nb, 0, none⟩) B9.lt nn).trans x0, (f.cell (p := ⟨nb, 1, none⟩) B9.lt nn).trans x1⟩
          have HBg : Hid (∀ wx, TailSt w wx pa ga ra qa pb gb rb qb pn gn rn qn p ys8 (ys8 ++ List.replicate z 0) (decSt (bitAt ys8) (runC 8 (startC 8) (l.take (k2 + 1)))) (decSt (bitAt ys8) (runC 8 (startC 8) (l.take k2))) dz (.slice (some ⟨gp, 0, none⟩) l.length capp) l → wx.cell? ⟨nb, 0, none⟩ = some (.int .i64 l[k2].1) → wx.cell? ⟨nb, 1, none⟩ = some (.bool l[k2].2) →
              Calls Try.prog 19 #[.pointer (some ⟨pb, 0, none⟩), .int .i64 l[k2].1] wx fun e w' => e = .returned (.bool l[k2].2) ∧ TailSt w w' pa ga ra qa pb gb rb qb pn gn rn qn p ys8 (ys8 ++ List.replicate z 0) (decSt (bitAt ys8) (runC 8 (startC 8) (l.take (k2 + 1)))) (decSt (bitAt ys8) (runC 8 (startC 8) (l.take (k2 + 1)))) dz (.slice (some ⟨gp, 0, none⟩) l.length capp) l ∧ w'.cell? ⟨nb, 0, none⟩ = some (.int .i64 l[k2].1) ∧ w'.cell? ⟨nb, 1, none⟩ = some (.bool l[k2].2)) := by
            show ∀ wx, _
            intro wx tx m0 m1
            refine (tx.getB hse l[k2].1 (by omega) hdN hdg).mono ?_
            rintro e w10' ⟨rfl, t, f⟩
            rw [hto.1]
            rw [bitAt_more, hto.2] at t
            have := hse.b1
            have := hse.b2
            have nn : ¬ DeS pb gb rb nb := by unfold DeS; omega
            exact ⟨rfl, t, (f.cell (p := ⟨nb, 0, none⟩) (cell_lt m0) nn).trans m0, (f.cell (p := ⟨nb, 1, none⟩) (cell_lt m1) nn).trans m1⟩
          have HNg : Hid (∀ wx, TailSt w wx pa ga ra qa pb gb rb qb pn gn rn qn p ys8 (ys8 ++ List.replicate z 0) (decSt (bitAt ys8) (runC 8 (startC 8) (l.take (k2 + 1)))) (decSt (bitAt ys8) (runC 8 (startC 8) (l.take (k2 + 1)))) dz (.slice (some ⟨gp, 0, none⟩) l.length capp) l → wx.cell? ⟨nb, 0, none⟩ = some (.int .i64 l[k2].1) → wx.cell? ⟨nb, 1, none⟩ = some (.bool l[k2].2) →
              Calls Try.prog 19 #[.pointer (some ⟨pn, 0, none⟩), .int .i64 l[k2].1] wx fun e w' => e = .returned (.bool false) ∧ TailSt w w' pa ga ra qa pb gb rb qb pn gn rn qn p ys8 (ys8 ++ List.replicate z 0) (decSt (bitAt ys8) (runC 8 (startC 8) (l.take (k2 + 1)))) (decSt (bitAt ys8) (runC 8 (startC 8) (l.take (k2 + 1)))) (getX (fun _ => false) 8 dz l[k2].1) (.slice (some ⟨gp, 0, none⟩) l.length capp) l ∧ w'.cell? ⟨nb, 0, none⟩ = some (.int .i64 l[k2].1) ∧ w'.cell? ⟨nb, 1, none⟩ = some (.bool l[k2].2)) := by
            show ∀ wx, _
            intro wx tx m0 m1
            refine (tx.getN hse l[k2].1 (by omega) hdz).mono ?_
            rintro e w10' ⟨rfl, t, f⟩
            rw [hno2.1]
            rw [bitAt_none] at t
            have := hse.n1
            have := hse.n2
            have nn : ¬ DeS pn gn rn nb := by unfold DeS; omega
            exact ⟨rfl, t, (f.cell (p := ⟨nb, 0, none⟩) (cell_lt m0) nn).trans m0, (f.cell (p := ⟨nb, 1, none⟩) (cell_lt m1) nn).trans m1⟩
          have hbit : (l[k2].2 != l[k2].2) = false := by simp
          have hno3 := hno2.2
          clear hto r0 r1 St T9 T10 hW9 hnb B9 hdg hdN hse hno2 hno hdz
          generalize getX (fun _ => false) 8 dz l[k2].1 = dz2 at *
          generalize l[k2].1 = y at *
          generalize l[k2].2 = bb at *
          go_wp2
          rw [← HW9.out, ← HNB.out]
          go_region_held3 (fun w' => w'.cell? ⟨nb, 0, none⟩ = some (.int .i64 y) ∧ w'.cell? ⟨nb, 1, none⟩ = some (.bool bb)) (go_keep) (first
            | (go_at_call_of 19 (Value.pointer (some ⟨pa, 0, none⟩)); refine HA.out.mono ?_; rintro e wa ⟨rfl, ta, a0, a1⟩; have HB2 := hid (HBg.out wa ta a0 a1))
            | (go_at_call_of 19 (Value.pointer (some ⟨pb, 0, none⟩)); refine HB2.out.mono ?_; rintro e wb ⟨rfl, tb, b0, b1⟩; have HN2 := hid (HNg.out wb tb b0 b1))
            | (go_at_call_of 19 (Value.pointer (some ⟨pn, 0, none⟩)); refine HN2.out.mono ?_; rintro e wn ⟨rfl, tn, n0, n1⟩))
          all_goals
            go_wp2
            go_roundw
            case rel => exact ⟨k2 + 1, by omega, by go_num, dz2, tn, hno3, hdz2, by omega⟩
            case measure => simp [intOf]; omega
        · have hki2 : ¬ (k2 : Int) < (l.length : Int) := by omega
          have hPl := runC_len 8 (l.take k2)
          go_wp2_with fail
          refine (dchances_any _ pa ga ra qa ys8 8 _ St.a (by omega)).mono ?_
          rintro e w12 ⟨q12, rfl, b12, _, f12⟩
          have St2 := St.quiet f12
          go_wp2_with fail
          refine (dchances_any _ pb gb rb qb _ 8 _ St2.b (by omega)).mono ?_
          rintro e w13 ⟨q13, rfl, b13, _, f13⟩
          go_wp2_with fail
          refine (rsame_same w13 _ _ (runC 8 (startC 8) (l.take k2)).P (reads_blkI (b12.fr f13 (fun h => h)) hPl) (reads_blkI b13 hPl) (by omega)).mono ?_
          rintro e w14 ⟨rfl, f14⟩
          go_wp2
          go_ret
          exact ⟨rfl, ((St2.fr.trans' f13).trans' f14).below (Nat.le_refl _) (fun _ _ h => h)⟩

theorem tail5_walk' (a : Option Addr) (len cap : Nat) (C : Nat → Int) (B : Nat → Bool) (x : Int) (hx0 : 0 ≤ x) (hx1 : x ≤ 255) (w : World) (h0 : IsBits w a len C B) :
    Calls Try.prog 6 #[.slice a len cap, .int .u8 x] w fun e w' => e = .returned (.bool true) ∧ Below w.heap.size w w' := by
  obtain ⟨z, rfl⟩ := Int.eq_ofNat_of_zero_le hx0
  exact tail5_walk a len cap C B z (by omega) w h0
end Go.Proofs.Ytkaldidfpgipfaa
