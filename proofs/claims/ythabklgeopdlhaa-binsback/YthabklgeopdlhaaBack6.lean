/-
  Law package 6: numbers that are put are told (BinsBack): the walk.
-/
import Derived.Test.YthabklgeopdlhaaFirst6
import Derived.Deep.AppendLies
namespace Go.Proofs.Ythabklgeopdlhaa
open Go.RowKit

/-- The bits of numbers, one behind the other. -/
def allS (D : Int) (l : List Int) : List (Int × Bool) := l.flatMap (sgnSteps (fol idV 3) D 5)
theorem allS_snoc (D : Int) (l : List Int) (z : Int) : allS D (l ++ [z]) = allS D l ++ sgnSteps (fol idV 3) D 5 z := by simp [allS]
theorem allS_len (D : Int) (l : List Int) (h : ∀ z ∈ l, z.natAbs ≤ 2199023255550) : (allS D l).length ≤ 81 * l.length := by
  induction l with
  | nil => simp [allS]
  | cons z l ih =>
    have h1 := ih (fun y hy => h y (by simp [hy]))
    have h2 := ncost_le z.natAbs (h z (by simp))
    have h3 := sgnSteps_length (fol idV 3) D 5 z
    have e : allS D (z :: l) = sgnSteps (fol idV 3) D 5 z ++ allS D l := by simp [allS]
    rw [e, List.length_append, h3, List.length_cons]
    split <;> omega
theorem allS_has {D : Int} (hr : rightS idV 3 D 5 6 = true) (l : List Int) : ∀ y ∈ allS D l, hasX 6 y.1 = true := by
  intro y hy
  simp only [allS, List.mem_flatMap] at hy
  obtain ⟨z, _, hz⟩ := hy
  exact sgnSteps_has (rightS_fol hr) (rightS_data hr) (rightS_sign hr) z y hz
theorem take_succ_num (l : List Int) (j : Nat) (h : j < l.length) : l.take (j + 1) = l.take j ++ [l.getD j 0] := by
  rw [List.take_succ_eq_append_getElem h]
  simp [List.getD, h]
theorem allS_part (D : Int) (l : List Int) (j : Nat) (h : j < l.length) : allS D l = allS D (l.take j) ++ sgnSteps (fol idV 3) D 5 (l.getD j 0) ++ allS D (l.drop (j + 1)) := by
  rw [← allS_snoc, ← take_succ_num l j h]
  simp only [allS, ← List.flatMap_append, List.take_append_drop]
theorem mem_getD (l : List Int) (j : Nat) (h : j < l.length) : l.getD j 0 ∈ l := by simp [List.getD, h]

/-- What is kept in the first loop. -/
structure BackT (w wr : World) (o b : Nat) (D : Int) (p g : Nat) (v : Value) (zs : List Nat) (vp : Value) (l : List Int) : Prop where
  en : En wr p g v zs 6 (runC 6 (startC 6) (allS D l))
  op : wr.ownsRow (p + 1) 3 1 vp l.length (intRow l)
  d1 : ∀ x, vp.ownBlock = some x → v.ownBlock ≠ some x
  ob : SetObj wr o (some ⟨b, 0, none⟩) 3 3 idV b D 5
  og : o < g
  bg : b < g
  wg : w.heap.size ≤ g
  fr : Fr (fun _ => False) w wr
  ok : ∀ z ∈ l, z.natAbs ≤ 2199023255550

theorem BackT.quiet {w wr wr' : World} {o b : Nat} {D : Int} {p g : Nat} {v : Value} {zs : List Nat} {vp : Value} {l : List Int} (h : BackT w wr o b D p g v zs vp l) (f : Fr (fun _ => False) wr wr') : BackT w wr' o b D p g v zs vp l :=
  ⟨h.en.quiet f, ownsRow_fr h.op f (fun _ _ h => h), h.d1, h.ob.quiet f, h.og, h.bg, h.wg, h.fr.trans' f, h.ok⟩

/-- Behind a number that is put, ahead of its being noted. -/
structure BackU (w wr : World) (o b : Nat) (D : Int) (p g : Nat) (v : Value) (zs : List Nat) (vp : Value) (l m : List Int) : Prop where
  en : En wr p g v zs 6 (runC 6 (startC 6) (allS D m))
  op : wr.ownsRow (p + 1) 3 1 vp l.length (intRow l)
  d1 : ∀ x, vp.ownBlock = some x → v.ownBlock ≠ some x
  ob : SetObj wr o (some ⟨b, 0, none⟩) 3 3 idV b D 5
  og : o < g
  bg : b < g
  wg : w.heap.size ≤ g
  fr : Fr (fun _ => False) w wr
  ok : ∀ z ∈ m, z.natAbs ≤ 2199023255550

theorem BackT.put {w wr wr' : World} {o b : Nat} {D : Int} {p g : Nat} {v v' : Value} {zs zs' : List Nat} {vp : Value} {l m : List Int} (h : BackT w wr o b D p g v zs vp l) (he : En wr' p g v' zs' 6 (runC 6 (startC 6) (allS D m))) (st : EnStep p g v v' wr wr') (hm : ∀ z ∈ m, z.natAbs ≤ 2199023255550) : BackU w wr' o b D p g v' zs' vp l m := by
  have hgp := h.en.gp
  have lp : ∀ x, vp.ownBlock = some x → p < x ∧ x < wr.heap.size := fun x hx => by have := h.op.lt x hx; omega
  refine ⟨he, ownsRow_fr h.op st.fr (fun x hx hh => ?_), fun x hx e => ?_, h.ob.step h.en st h.og h.bg, h.og, h.bg, h.wg, st.outer h.en h.fr h.wg, hm⟩
  · have := lp x hx
    rcases hh with e | e | e
    · omega
    · omega
    · exact h.d1 x hx e
  · have := lp x hx
    rcases st.at' with q | q
    · rw [q] at e; exact h.d1 x hx e
    · have := q x e; omega
theorem BackU.same {w wr : World} {o b : Nat} {D : Int} {p g : Nat} {v : Value} {zs : List Nat} {vp : Value} {l : List Int} (h : BackU w wr o b D p g v zs vp l l) : BackT w wr o b D p g v zs vp l :=
  ⟨h.en, h.op, h.d1, h.ob, h.og, h.bg, h.wg, h.fr, h.ok⟩
theorem BackU.quiet {w wr wr' : World} {o b : Nat} {D : Int} {p g : Nat} {v : Value} {zs : List Nat} {vp : Value} {l m : List Int} (h : BackU w wr o b D p g v zs vp l m) (f : Fr (fun _ => False) wr wr') : BackU w wr' o b D p g v zs vp l m :=
  ⟨h.en.quiet f, ownsRow_fr h.op f (fun _ _ h => h), h.d1, h.ob.quiet f, h.og, h.bg, h.wg, h.fr.trans' f, h.ok⟩
/-- Noted. -/
theorem BackU.note {w wr wr' : World} {o b : Nat} {D : Int} {p g : Nat} {v : Value} {zs : List Nat} {vp : Value} {l : List Int} {z : Int} (h : BackU w wr o b D p g v zs vp l (l ++ [z])) (ga capa : Nat)
    (hown : wr'.ownsRow (p + 1) 3 1 (.slice (some ⟨ga, 0, none⟩) (l.length + 1) capa) (l.length + 1) (intRow l ++ [.int .i64 z])) (hgrow : wr.grownBy wr' vp.ownBlock) (hat : vp.ownBlock = some ga ∨ wr.heap.size ≤ ga) :
    BackT w wr' o b D p g v zs (.slice (some ⟨ga, 0, none⟩) (l.length + 1) capa) (l ++ [z]) := by
  have hgp := h.en.gp
  have hw := h.fr.size
  have hwg := h.wg
  have hog := h.og
  have hbg := h.bg
  have lp : ∀ x, vp.ownBlock = some x → p < x ∧ x < wr.heap.size := fun x hx => by have := h.op.lt x hx; omega
  have f : Fr (fun x => vp.ownBlock = some x) wr wr' := (Fr.refl _ wr).grown hgrow (fun k hk _ => hk)
  refine ⟨h.en.fr f (fun e => by have := lp _ e; omega) (fun e => by have := lp _ e; omega) (fun k hk e => h.d1 k e hk), ?_, fun x hx e => ?_, h.ob.fr f (fun e => by have := lp _ e; omega) (fun _ e => by have := lp _ e; omega), h.og, h.bg, h.wg, h.fr.grown hgrow (fun k hk hl => by have := lp _ hk; omega), h.ok⟩
  · rw [List.length_append, List.length_singleton, intRow_snoc]; exact hown
  · simp [Value.ownBlock] at hx
    subst hx
    rcases hat with q | q
    · exact h.d1 _ q e
    · have := (h.en.vlt e).2; omega

/-- What is kept in the second loop. -/
structure BackV (w wr : World) (o b : Nat) (D : Int) (p g : Nat) (B : Nat) (v : Value) (zs : List Nat) (vp : Value) (l : List Int) : Prop where
  t : BackT w wr o b D p g v zs vp l
  pB : p < B
  vB : ∀ x, v.ownBlock = some x → x < B
  lB : ∀ x, vp.ownBlock = some x → x < B
theorem BackT.toV {w wr : World} {o b : Nat} {D : Int} {p g : Nat} {v : Value} {zs : List Nat} {vp : Value} {l : List Int} (h : BackT w wr o b D p g v zs vp l) : BackV w wr o b D p g wr.heap.size v zs vp l :=
  ⟨h, h.en.blk.lt, fun _ hx => (h.en.vlt hx).2, fun x hx => (h.op.lt x hx).2⟩
theorem BackV.far {w wr wr' : World} {o b : Nat} {D : Int} {p g B : Nat} {v : Value} {zs : List Nat} {vp : Value} {l : List Int} {S : Nat → Prop} (h : BackV w wr o b D p g B v zs vp l) (f : Fr S wr wr') (hS : ∀ x, S x → B ≤ x) : BackV w wr' o b D p g B v zs vp l := by
  have h1 := h.pB
  have h2 := h.t.en.gp
  have h3 := h.t.og
  have h4 := h.t.bg
  have h5 := h.t.wg
  exact ⟨⟨h.t.en.fr f (fun e => by have := hS _ e; omega) (fun e => by have := hS _ e; omega) (fun k hk e => by have := hS _ e; have := h.vB _ hk; omega), ownsRow_fr h.t.op f (fun k hk e => by have := hS _ e; have := h.lB _ hk; omega), h.t.d1, h.t.ob.fr f (fun e => by have := hS _ e; omega) (fun _ e => by have := hS _ e; omega), h.t.og, h.t.bg, h.t.wg, h.t.fr.trans f (fun i hi e => by have := hS _ e; omega), h.t.ok⟩, h.pB, h.vB, h.lB⟩

theorem ctx6 : ctxN 6 = 6 := by decide
theorem right6 (D : Int) (h0 : 0 ≤ D) (h1 : D < 6) : rightS idV 3 D 5 6 = true := by
  unfold rightS
  rw [decide_eq_true_eq]
  refine ⟨by omega, ⟨h0, by omega⟩, by omega, fun i hi => ?_⟩
  unfold idV
  omega

set_option maxHeartbeats 4000000 in
theorem back6_walk (a : Option Addr) (len cap : Nat) (V : Nat → Int) (x : Int) (hx0 : 0 ≤ x) (hx1 : x ≤ 255) (w : World) (h0 : CellsIn w a len cap (fun i => .int .i64 (V i))) (hb : ∀ i, -9223372036854775808 ≤ V i ∧ V i ≤ 9223372036854775807) :
    Calls Try.prog 5 #[.slice a len cap, .int .u8 x] w fun e w' => e = .returned (.bool true) ∧ Below w.heap.size w w' := by
  have hlen : (len : Int) ≤ 9223372036854775807 := by have := h0.1; have := h0.2.1; unfold maxLen at *; omega
  have H0 := hid h0
  have HV := hid hb
  clear h0 hb
  have hd0 : 0 ≤ x % 6 := by omega
  have hd1 : x % 6 < 6 := by omega
  have HR := hid (right6 (x % 6) hd0 hd1)
  go_enter Try.func5, Try.ntmps5
  go_wp2_with fail
  refine (first6_any w).mono ?_
  rintro e w0 ⟨rfl, F⟩
  have O0 := SetObj.new w0 3 #[.int .i64 0, .int .i64 1, .int .i64 2] 3 (x % 6) 5 (by omega) (by intro j hj; match j, hj with | 0, _ => rfl | 1, _ => rfl | 2, _ => rfl)
  obtain ⟨W, hW⟩ : ∃ W, W = (w0.alloc (.cells #[.int .i64 0, .int .i64 1, .int .i64 2] 3)).alloc (.cells #[.slice (some ⟨w0.heap.size, 0, none⟩) 3 3, .int .i64 (x % 6), .int .i64 5] 24) := ⟨_, rfl⟩
  rw [← hW] at O0
  have F0 : Fr (fun _ => False) w W := by rw [hW]; exact (F.alloc _).alloc _
  have hsz : W.heap.size = w0.heap.size + 2 := by rw [hW]; simp
  have HW := hid hW
  have hww := F.size
  clear hW F
  obtain ⟨D, hD⟩ : ∃ D, D = x % 6 := ⟨_, rfl⟩
  have HD := hid hD
  rw [← hD] at O0 HR HW
  go_wp2_with fail
  rw [← HD.out, ← HW.out]
  refine (newEnc_any W 6).mono ?_
  rintro e w1 ⟨p, g, rfl, h1, hg, f1⟩
  rw [ctx6] at h1
  have T1 : BackT w w1 (w0.heap.size + 1) w0.heap.size D p g (.slice none 0 0) [] (.slice none 0 0) [] :=
    ⟨h1, World.ownsRow_nil _ _ _ _, fun x hx => (by cases hx), O0.quiet f1, by omega, by omega, by omega, F0.trans' f1, by simp⟩
  clear O0 f1 F0 h1 hD
  generalize w0.heap.size + 1 = o at *
  generalize w0.heap.size = b at *
  go_wp2
  go_loopw [7, 23] (fun vp i wr => ∃ (k : Nat) (l : List Int) (v : Value) (zs : List Nat), k ≤ len ∧ i = .int .i64 (k : Int) ∧ l.length ≤ k ∧ l.length ≤ 60 ∧ BackT w wr o b D p g v zs vp l) (fun _ i _ => len - (intOf i).toNat)
  case atStart => exact ⟨0, [], _, _, Nat.zero_le _, rfl, Nat.le_refl _, by simp, T1⟩
  case round =>
    clear T1
    obtain ⟨k, l, v2, zs2, hk, rfl, hl1, hl2, T2⟩ := hrel
    have hG2 := runC_good 6 (allS D l) (startC 6) (Good.first 6)
    have hN2 := runC_N0 6 (allS D l)
    have hLl := allS_len D l T2.ok
    by_cases hlt : k < len
    · obtain ⟨bb, off, rfl, hcell⟩ := (H0.out.fr T2.fr).at hlt
      have hck := hcell k hlt
      have hki : (k : Int) < (len : Int) := by omega
      obtain ⟨y, hy⟩ : ∃ y, y = V k := ⟨_, rfl⟩
      have hyb := HV.out k
      rw [← hy] at hck hyb
      obtain ⟨y0, y1⟩ := hyb
      clear hy hcell
      by_cases h60 : k < 60
      · have h6i : (k : Int) < 60 := by omega
        have k0 := T2.ob.k0
        have k1 := T2.ob.k1
        have k2 := T2.ob.k2
        go_wp2_with fail
        refine (bputS_any wr p g v2 zs2 6 _ _ 3 3 idV b D 5 y T2.en T2.ob.set (T2.en.setOff 3 b T2.bg) (by omega) (by omega) hG2 y0 y1).mono ?_
        rintro e w3 ⟨rfl, v3, zs3, h3, st3⟩
        rw [HR.out, Bool.and_true]
        cases hok : okN (unsN y) with
        | false =>
          have e1 : putG idV 3 D 5 6 (runC 6 (startC 6) (allS D l)) y = runC 6 (startC 6) (allS D l) := by unfold putG; rw [hok]; rfl
          rw [e1] at h3
          have T3 := (T2.put h3 st3 T2.ok).same
          clear T2 h3 st3 e1 k0 k1 k2
          go_wp2
          go_roundw
          case rel => exact ⟨k + 1, l, v3, zs3, by omega, by go_num, by omega, hl2, T3⟩
          case measure => simp [intOf]; omega
        | true =>
          obtain ⟨_, u2, _⟩ := unsN_ok hok
          have e1 : putG idV 3 D 5 6 (runC 6 (startC 6) (allS D l)) y = runC 6 (startC 6) (allS D (l ++ [y])) := by unfold putG; rw [hok, HR.out, allS_snoc, runC_append]; rfl
          rw [e1] at h3
          have U3 := T2.put h3 st3 (fun z hz => by rcases List.mem_append.1 hz with hz | hz; exact T2.ok z hz; simp at hz; rw [hz]; exact u2)
          have hll : l.length < 60 := by omega
          obtain ⟨i0, hi, hz0, hz1, hz2⟩ := info_parts Try.info_int
          have U4 := U3.quiet ((Fr.refl (fun _ => False) w3).alloc (.cells #[.int .i64 y] 3))
          have hp4 := U4.en.blk.lt
          clear T2 h3 st3 e1 k0 k1 k2 U3
          go_wp2_with (at_builtin; refine wpList_append_lies _ rfl _ _ 22 rfl (p + 1) 3 i0 (.int .i64 0) 1 8 Try.underlying22 hi hz0 hz1 hz2 rfl (by decide) _ l.length (intRow l) rfl U4.op ⟨w3.heap.size, 0, none⟩ 1 1 [.int .i64 y] rfl rfl ?c1 ?c2 (by decide) ?c3 ?c4 ?c5 (w3.heap.size + 1) (by simp) ?_)
          case c1 => exact World.news_of_block (heap_alloc_new _ _)
          case c2 => intro u hu; simp at hu; subst hu; rfl
          case c3 => unfold maxLen; omega
          case c4 => omega
          case c5 => omega
          intro ga capa w5 hown hgrow hat hlta
          have T5 := U4.note ga capa hown hgrow (by rcases hat with e | e; exact .inl e; exact .inr (by simp at e ⊢; omega))
          clear U4 hown hgrow hat
          go_wp2
          go_roundw
          case rel => exact ⟨k + 1, l ++ [y], v3, zs3, by omega, by go_num, by simp; omega, by simp; omega, by simpa using T5⟩
          case measure => simp [intOf]; omega
      · have h6i : ¬ (k : Int) < 60 := by omega
        have h6d : decide ((k : Int) < 60) = false := by simpa using h6i
        go_wp2
        go_roundw
        case rel => exact ⟨k + 1, l, v2, zs2, by omega, by go_num, by omega, hl2, T2⟩
        case measure => simp [intOf]; omega
    · have hki : ¬ (k : Int) < (len : Int) := by omega
      have hfew := hG2.few
      go_wp2_with fail
      refine (ebytes_any _ p g v2 zs2 6 _ T2.en hG2 (by omega)).mono ?_
      rintro e w6 ⟨q6, cap6, ys, rfl, o6, T6, f6⟩
      have S6 := (T2.quiet f6).toV
      have hfol := tells_follow hG2 T6
      have hyl := T6.len
      have hsm := T6.small
      have hys : ys.length ≤ 100000 := by omega
      clear T2 f6 T6
      go_wp2_with fail
      refine (newDec_any w6 _ ys 6 (Reads.of_owns (by rw [rowOf_length]; exact o6)) (by omega) hsm).mono ?_
      rintro e w7 ⟨pd, gd, rd, qd, rfl, d7, hr, hq, f7⟩
      rw [ctx6, ← decSt_start] at d7
      have E7 := S6.far f7 (fun _ h => h.elim)
      obtain ⟨ap, capp, rfl, hfp⟩ := ownsRow_form E7.t.op
      have HF := hid hfol
      clear S6 f7 o6 hfol
      generalize w6.heap.size = Bd at *
      go_wp2
      go_loopw [46] (fun i wx => ∃ j : Nat, j ≤ l.length ∧ i = .int .i64 (j : Int) ∧ De wx pd gd rd qd ys 6 (decSt (bitAt ys) (runC 6 (startC 6) (allS D (l.take j)))) ∧ BackV w wx o b D p g Bd v2 zs2 (.slice ap l.length capp) l) (fun i _ => l.length - (intOf i).toNat)
      case atStart => exact ⟨0, Nat.zero_le _, rfl, d7, E7⟩
      case round =>
        clear d7 E7
        obtain ⟨j, hj, rfl, d8, E8⟩ := hrel
        have hgd := d8.gp
        have hrg := d8.rg
        by_cases hlt2 : j < l.length
        · obtain ⟨ga, rfl, _⟩ := hfp (by omega)
          have hji : (j : Int) < (l.length : Int) := by omega
          have c0 := ownsRow_cell E8.t.op j _ (intRow_get l j hlt2)
          have hmem := mem_getD l j hlt2
          have hto := getG_back (B := bitAt ys) HR.out (l.getD j 0) (E8.t.ok _ hmem) (allS D (l.take j)) (allS D (l.drop (j + 1))) (by rw [← allS_part D l j hlt2]; exact allS_has HR.out l) (by rw [← allS_part D l j hlt2]; exact HF.out)
          rw [← allS_snoc, ← take_succ_num l j hlt2] at hto
          generalize l.getD j 0 = y at c0 hto hmem
          have HTo := hid hto
          have hdg : DGood 6 (decSt (bitAt ys) (runC 6 (startC 6) (allS D (l.take j)))) := decSt_good _ (runC_good 6 _ _ (Good.first 6))
          have hdN : (decSt (bitAt ys) (runC 6 (startC 6) (allS D (l.take j)))).N ≤ 10000 := by
            have h1 := runC_N0 6 (allS D (l.take j))
            have h2 := allS_len D (l.take j) (fun z hz => E8.t.ok z (List.mem_of_mem_take hz))
            have h3 : (l.take j).length ≤ 60 := by simp; omega
            show (runC 6 (startC 6) (allS D (l.take j))).N ≤ 10000
            omega
          have k0 := E8.t.ob.k0
          have k1 := E8.t.ob.k1
          have k2 := E8.t.ob.k2
          have hbB : b < Bd := by have := E8.t.bg; have := E8.t.en.gp; have := E8.pB; omega
          clear hto hmem
          go_wp2_with fail
          refine (bgetS_any wr pd gd rd qd ys 6 _ _ 3 3 idV b D 5 d8 E8.t.ob.set (fun _ => by unfold DeS; omega) (by omega) (by omega) (by omega) hdg).mono ?_
          rintro e w9 ⟨rfl, d9, f9⟩
          rw [HTo.out] at d9 ⊢
          simp only at d9 ⊢
          have E9 := E8.far f9 (fun x hx => by unfold DeS at hx; omega)
          have hself : (y != y) = false := by simp
          clear d8 E8 f9 k0 k1 k2 HTo hdg hdN
          go_wp2
          go_roundw
          case rel => exact ⟨j + 1, by omega, by go_num, d9, E9⟩
          case measure => simp [intOf]; omega
        · obtain rfl : j = l.length := by omega
          have hji : ¬ (l.length : Int) < (l.length : Int) := by omega
          rw [List.take_length] at d8
          have hNN : (decSt (bitAt ys) (runC 6 (startC 6) (allS D l))).N = (runC 6 (startC 6) (allS D l)).N := rfl
          have HNN := hid hNN
          clear hNN
          go_wp2_with fail
          refine (dcount_any _ pd gd rd qd ys 6 _ d8).mono ?_
          rintro e w9 ⟨rfl, rfl⟩
          rw [HNN.out]
          go_wp2_with fail
          refine (ecount_any _ p g _ _ 6 _ E8.t.en).mono ?_
          rintro e w9 ⟨rfl, rfl⟩
          go_wp2
          go_ret
          exact ⟨rfl, E8.t.fr.below (Nat.le_refl _) (fun _ _ h => h)⟩
end Go.Proofs.Ythabklgeopdlhaa
