/-
  The document's own answers of layer 5 (package shingleref05): the encoder.
-/
import Derived.Test.YthabklgeopdlhaaRef5
import Derived.Test.YthabklgeopdlhaaArithY
import Derived.Deep.LoopGhost
import Derived.Deep.RegionWith
import Derived.Deep.DeepCutAuto
namespace Go.Proofs.Ythabklgeopdlhaa
open Go.RowKit

/-- The document's encoder lies in block p, its chances are the value v. -/
structure REn (w : World) (p : Nat) (v : Value) (n : Nat) (s : CS) : Prop where
  blk : Blk w p #[v, .int .i64 s.e.L, .int .i64 s.e.R, .int .i64 (s.e.k : Int), .int .i64 (s.N : Int), .string (strB s.e.S)] 32
  own : w.ownsRow 0 3 1 v n (intRow s.P)
  len : s.P.length = n
  apart : v.ownBlock ≠ some p

theorem REn.fr {w w' : World} {p : Nat} {v : Value} {n : Nat} {s : CS} {S : Nat → Prop} (h : REn w p v n s) (f : Fr S w w') (hp : ¬ S p) (hv : ∀ k, v.ownBlock = some k → ¬ S k) : REn w' p v n s :=
  ⟨h.blk.fr f hp, ownsRow_fr h.own f hv, h.len, h.apart⟩
theorem REn.quiet {w w' : World} {p : Nat} {v : Value} {n : Nat} {s : CS} (h : REn w p v n s) (f : Fr (fun _ => False) w w') : REn w' p v n s :=
  h.fr f (fun h => h) (fun _ _ h => h)

/-- The document's encoder has the state s' in w', and nothing else has turned. -/
def REnGets (p : Nat) (v : Value) (w w' : World) (n : Nat) (s' : CS) : Prop := ∃ v', REn w' p v' n s' ∧ Fr (fun j => j = p) w w' ∧ (v' = v ∨ ∀ k, v'.ownBlock = some k → w.heap.size ≤ k)

theorem REn.moved {w w' : World} {p : Nat} {v : Value} {n : Nat} {s s' : CS} (h : REn w p v n s) (hb : Blk w' p #[v, .int .i64 s'.e.L, .int .i64 s'.e.R, .int .i64 (s'.e.k : Int), .int .i64 (s'.N : Int), .string (strB s'.e.S)] 32) (f : Fr (fun j => j = p) w w') (hP : s'.P = s.P) : REn w' p v n s' :=
  ⟨hb, by rw [hP]; exact ownsRow_fr h.own f (fun i hi e => h.apart (by rw [← e]; exact hi)), by rw [hP]; exact h.len, h.apart⟩

/-- NewEncoder. -/
theorem rnewEnc_any (w : World) (c : Int) :
    Calls Try.prog 9 #[.int .i64 c] w fun e w' => ∃ p v, e = .returned (.pointer (some ⟨p, 0, none⟩)) ∧ REn w' p v (ctxN c) (startC (ctxN c)) ∧ w.heap.size ≤ p ∧ (∀ k, v.ownBlock = some k → w.heap.size ≤ k) ∧ Fr (fun _ => False) w w' := by
  go_enter Try.func9, Try.ntmps9
  go_wp2_with fail
  refine (rfresh_any w c).mono ?_
  rintro e w1 ⟨v, rfl, o1, f1⟩
  obtain ⟨a, cap, rfl, _⟩ := ownsRow_form o1
  go_wp2
  go_ret
  refine ⟨w1.heap.size, _, rfl, ⟨Blk.new w1 _ _, (ownsRow_zero o1).alloc _, evenP_length _, fun e => ?_⟩, f1.size, fun k hk => (o1.lt k hk).1, f1.alloc _⟩
  have := o1.lt _ e
  omega

set_option maxRecDepth 100000 in
set_option maxHeartbeats 4000000 in
/-- Put. -/
theorem rput_any (w : World) (p : Nat) (v : Value) (n : Nat) (s : CS) (c : Int) (b : Bool) (h : REn w p v n s) (hn : n ≤ 64) (hN : s.N ≤ 1000000) (hG : Good n s) :
    Calls Try.prog 40 #[.pointer (some ⟨p, 0, none⟩), .int .i64 c, .bool b] w fun e w' => e = .returned (.bool (hasX n c)) ∧ REnGets p v w w' n (putX n s c b) := by
  have hG' := hG
  obtain ⟨P, N, e⟩ := s
  obtain ⟨L, R, k, S⟩ := e
  obtain ⟨fair, ready, few⟩ := hG'
  simp only at hN fair few
  have hspan : Span L R := ready.span
  have hwide : 16384 < R := ready.wide
  have c0 := h.blk.cell 0
  have c1 := h.blk.cell 1
  have c2 := h.blk.cell 2
  have c4 := h.blk.cell 4
  have hf := h.blk.thaw
  simp at c0 c1 c2 c4
  obtain ⟨a, cap, rfl, hform⟩ := ownsRow_form h.own
  have hni : (n : Int) ≤ 64 := by omega
  cases hc : hasX n c with
  | false =>
    have HE : Hid (putX n ⟨P, N, ⟨L, R, k, S⟩⟩ c b = ⟨P, N, ⟨L, R, k, S⟩⟩) := by show _ = _; unfold putX; rw [hc]; rfl
    have hcc : c < 0 ∨ (¬ c < 0 ∧ (n : Int) ≤ c) := by simp [hasX] at hc; omega
    rcases hcc with hcc | ⟨hc0, hcc⟩
    · go_enter Try.func40, Try.ntmps40
      go_wp2
      go_ret
      rw [HE.out]
      exact ⟨rfl, _, h, Fr.refl _ _, .inl rfl⟩
    · have hd : decide (c < 0) = false := by simpa using hc0
      go_enter Try.func40, Try.ntmps40
      go_wp2
      go_ret
      rw [HE.out]
      exact ⟨rfl, _, h, Fr.refl _ _, .inl rfl⟩
  | true =>
    obtain ⟨j, hj, rfl⟩ := hasX_true hc
    obtain ⟨gv, rfl, hgv⟩ := hform (by omega)
    have hch := fair.2 j hj
    have hji : ¬ (n : Int) ≤ (j : Int) := by omega
    have hji2 : (j : Int) < (n : Int) := by omega
    have hj0 : decide ((j : Int) < 0) = false := by simp
    have cg := ownsRow_cell h.own j _ (intRow_get P j (by have := h.len; simp only at this; omega))
    have HE : Hid (putX n ⟨P, N, ⟨L, R, k, S⟩⟩ (j : Int) b = ⟨P.set j (nextC (P.getD j 0) b), N + 1, enorm 16 (epart ⟨L, R, k, S⟩ (P.getD j 0) b)⟩) := by show _ = _; unfold putX; rw [hc, if_pos rfl, Int.toNat_natCast]; rfl
    obtain ⟨ps, p63⟩ := part_span ready hch b
    have pk : (epart ⟨L, R, k, S⟩ (P.getD j 0) b).k = k ∧ (epart ⟨L, R, k, S⟩ (P.getD j 0) b).S = S := by cases b <;> exact ⟨rfl, rfl⟩
    have h16 : 16384 < (epart ⟨L, R, k, S⟩ (P.getD j 0) b).R * 2 ^ 16 := by
      have : (63 : Int) * 2 ^ 16 ≤ (epart ⟨L, R, k, S⟩ (P.getD j 0) b).R * 2 ^ 16 := Int.mul_le_mul_of_nonneg_right p63 (by decide)
      have e2 : (63 : Int) * 2 ^ 16 = 4128768 := by decide
      omega
    have hcnt : (epart ⟨L, R, k, S⟩ (P.getD j 0) b).S.length + (epart ⟨L, R, k, S⟩ (P.getD j 0) b).k ≤ 10000000 := by rw [pk.1, pk.2]; omega
    have hq0 : 0 ≤ R * P.getD j 0 := Int.mul_nonneg (by omega) (by unfold Chance at hch; omega)
    have hq1 : R * P.getD j 0 ≤ 65536 * 65536 := Int.mul_le_mul (by unfold Span at hspan; omega) (by unfold Chance at hch; omega) (by unfold Chance at hch; omega) (by decide)
    unfold Span at hspan
    obtain ⟨x, hx⟩ : ∃ x, x = P.getD j 0 := ⟨_, rfl⟩
    rw [← hx] at cg HE ps h16 hcnt hq0 hq1 pk
    obtain ⟨sp, hsp⟩ : ∃ sp, sp = R * x / 65536 := ⟨_, rfl⟩
    have r0 : 0 ≤ sp := by omega
    have r1 : sp ≤ 65536 := by omega
    have HSP := hid hsp
    have hlen := h.len
    simp only at hlen
    have HH := hid h
    have HG := hid hgv
    have hpl := h.blk.lt
    have hgl := (h.own.lt gv hgv).2
    have hne : ¬ gv = p := fun e => h.apart (by rw [← e]; exact hgv)
    have hne' : ¬ p = gv := fun e => hne e.symm
    have hfg := ownsRow_thaw h.own
    clear hx hgv h hc fair ready hform hch few
    have HRL : Hid (R * x / 65536 = sp) := hsp.symm
    clear hsp
    go_enter Try.func40, Try.ntmps40
    go_upto_if 35 with (fail)
    rw [HRL.out]
    go_cut [] (fun wx => ∃ v', REn wx p v' n ⟨P.set j (nextC x b), N, epart ⟨L, R, k, S⟩ x b⟩ ∧ Fr (fun j => j = p) w wx ∧ ∀ i, v'.ownBlock = some i → w.heap.size ≤ i)
    case first =>
      cases b with
      | true =>
        have eL : (epart ⟨L, R, k, S⟩ x true).L = L + sp := by rw [HSP.out]; rfl
        have eR : (epart ⟨L, R, k, S⟩ x true).R = R - sp := by rw [HSP.out]; rfl
        have b1 : Blk ((w.setCell ⟨p, 1, none⟩ (.int .i64 (L + sp))).setCell ⟨p, 2, none⟩ (.int .i64 (R - sp))) p #[.slice (some ⟨gv, 0, none⟩) n cap, .int .i64 (L + sp), .int .i64 (R - sp), .int .i64 (k : Int), .int .i64 (N : Int), .string (strB S)] 32 := (HH.out.blk.set 1 (.int .i64 (L + sp))).set 2 (.int .i64 (R - sp))
        have f1 : Fr (fun j => j = p) w ((w.setCell ⟨p, 1, none⟩ (.int .i64 (L + sp))).setCell ⟨p, 2, none⟩ (.int .i64 (R - sp))) := ((Fr.refl (fun j => j = p) w).setCell (p := ⟨p, 1, none⟩) (fun _ => rfl) (.int .i64 (L + sp))).setCell (p := ⟨p, 2, none⟩) (fun _ => rfl) (.int .i64 (R - sp))
        have o1 := ownsRow_fr HH.out.own f1 (fun i hi e => HH.out.apart (by rw [← e]; exact hi))
        obtain ⟨W1, hW1⟩ : ∃ W1, W1 = (w.setCell ⟨p, 1, none⟩ (.int .i64 (L + sp))).setCell ⟨p, 2, none⟩ (.int .i64 (R - sp)) := ⟨_, rfl⟩
        have HW1 := hid hW1
        rw [← hW1] at b1 f1 o1
        clear hW1
        go_wp2
        rw [← HW1.out]
        have d0 := b1.cell 0
        have df := b1.thaw
        simp at d0
        have HL : Hid (Calls Try.prog 66 #[.int .i64 x] W1.drew fun e w' => e = .returned (.int .i64 (lessC x)) ∧ w' = W1.drew) := rless_any x W1.drew
        have HS : Hid (Calls Try.prog 65 #[.slice (some ⟨gv, 0, none⟩) n cap, .int .i64 (j : Int), .int .i64 (lessC x)] W1.drew fun e w' => ∃ v', e = .returned v' ∧ w'.ownsRow W1.drew.heap.size 3 1 v' n (intRow (P.set j (lessC x))) ∧ Fr (fun _ => False) W1.drew w') := rset_any W1.drew 0 _ n P j (lessC x) (ownsRow_drew o1) hlen hj hn
        clear c0 c1 c2 c4 hf
        go_region_with (first
          | (go_at_call 66; refine HL.out.mono ?_; rintro e w2 ⟨rfl, rfl⟩)
          | (go_at_call 65; refine HS.out.mono ?_; rintro e w3 ⟨v3, rfl, o3, f3⟩; obtain ⟨a3, cap3, rfl, _⟩ := ownsRow_form o3; have b3 := (b1.fr ((Fr.refl (fun _ => False) W1).drew.trans' f3) (fun h => h)); have t0 := b3.cell 0; have tf := b3.thaw; simp at t0))
        all_goals
          go_wp2_with fail
          go_meet
          have f4 : Fr (fun j => j = p) w w3 := (f1.drew).trans f3 (fun _ _ h => h.elim)
          refine ⟨.slice a3 n cap3, ⟨?_, ?_, by simpa using hlen, ?_⟩, f4.setCell (fun _ => rfl) _, ?_⟩
          · show Blk _ _ #[_, .int .i64 (epart ⟨L, R, k, S⟩ x true).L, .int .i64 (epart ⟨L, R, k, S⟩ x true).R, .int .i64 ((epart ⟨L, R, k, S⟩ x true).k : Int), .int .i64 (N : Int), .string (strB (epart ⟨L, R, k, S⟩ x true).S)] _
            rw [eL, eR, pk.1, pk.2]
            exact b3.set 0 _
          · exact ownsRow_fr (ownsRow_zero o3) ((Fr.refl (fun j => j = p) w3).setCell (fun _ => rfl) _) (fun i hi e => by have := (o3.lt i hi).1; have := b1.lt; have hds : W1.drew.heap.size = W1.heap.size := rfl; omega)
          · intro e; have := (o3.lt _ e).1; have := b1.lt; have hds : W1.drew.heap.size = W1.heap.size := rfl; omega
          · intro i hi; have := (o3.lt _ hi).1; have := f1.size; have hds : W1.drew.heap.size = W1.heap.size := rfl; omega
      | false =>
        have eL : (epart ⟨L, R, k, S⟩ x false).L = L := rfl
        have eR : (epart ⟨L, R, k, S⟩ x false).R = sp := by rw [HSP.out]; rfl
        have b1 : Blk (w.setCell ⟨p, 2, none⟩ (.int .i64 sp)) p #[.slice (some ⟨gv, 0, none⟩) n cap, .int .i64 (L), .int .i64 (sp), .int .i64 (k : Int), .int .i64 (N : Int), .string (strB S)] 32 := HH.out.blk.set 2 (.int .i64 sp)
        have f1 : Fr (fun j => j = p) w (w.setCell ⟨p, 2, none⟩ (.int .i64 sp)) := (Fr.refl (fun j => j = p) w).setCell (p := ⟨p, 2, none⟩) (fun _ => rfl) (.int .i64 sp)
        have o1 := ownsRow_fr HH.out.own f1 (fun i hi e => HH.out.apart (by rw [← e]; exact hi))
        obtain ⟨W1, hW1⟩ : ∃ W1, W1 = w.setCell ⟨p, 2, none⟩ (.int .i64 sp) := ⟨_, rfl⟩
        have HW1 := hid hW1
        rw [← hW1] at b1 f1 o1
        clear hW1
        go_wp2
        rw [← HW1.out]
        have d0 := b1.cell 0
        have df := b1.thaw
        simp at d0
        have HL : Hid (Calls Try.prog 67 #[.int .i64 x] W1.drew fun e w' => e = .returned (.int .i64 (moreC x)) ∧ w' = W1.drew) := rmore_any x W1.drew
        have HS : Hid (Calls Try.prog 65 #[.slice (some ⟨gv, 0, none⟩) n cap, .int .i64 (j : Int), .int .i64 (moreC x)] W1.drew fun e w' => ∃ v', e = .returned v' ∧ w'.ownsRow W1.drew.heap.size 3 1 v' n (intRow (P.set j (moreC x))) ∧ Fr (fun _ => False) W1.drew w') := rset_any W1.drew 0 _ n P j (moreC x) (ownsRow_drew o1) hlen hj hn
        clear c0 c1 c2 c4 hf
        go_region_with (first
          | (go_at_call 67; refine HL.out.mono ?_; rintro e w2 ⟨rfl, rfl⟩)
          | (go_at_call 65; refine HS.out.mono ?_; rintro e w3 ⟨v3, rfl, o3, f3⟩; obtain ⟨a3, cap3, rfl, _⟩ := ownsRow_form o3; have b3 := (b1.fr ((Fr.refl (fun _ => False) W1).drew.trans' f3) (fun h => h)); have t0 := b3.cell 0; have tf := b3.thaw; simp at t0))
        all_goals
          go_wp2_with fail
          go_meet
          have f4 : Fr (fun j => j = p) w w3 := (f1.drew).trans f3 (fun _ _ h => h.elim)
          refine ⟨.slice a3 n cap3, ⟨?_, ?_, by simpa using hlen, ?_⟩, f4.setCell (fun _ => rfl) _, ?_⟩
          · show Blk _ _ #[_, .int .i64 (epart ⟨L, R, k, S⟩ x false).L, .int .i64 (epart ⟨L, R, k, S⟩ x false).R, .int .i64 ((epart ⟨L, R, k, S⟩ x false).k : Int), .int .i64 (N : Int), .string (strB (epart ⟨L, R, k, S⟩ x false).S)] _
            rw [eL, eR, pk.1, pk.2]
            exact b3.set 0 _
          · exact ownsRow_fr (ownsRow_zero o3) ((Fr.refl (fun j => j = p) w3).setCell (fun _ => rfl) _) (fun i hi e => by have := (o3.lt i hi).1; have := b1.lt; have hds : W1.drew.heap.size = W1.heap.size := rfl; omega)
          · intro e; have := (o3.lt _ e).1; have := b1.lt; have hds : W1.drew.heap.size = W1.heap.size := rfl; omega
          · intro i hi; have := (o3.lt _ hi).1; have := f1.size; have hds : W1.drew.heap.size = W1.heap.size := rfl; omega
    case rest =>
      obtain ⟨v2, h2, F2, n2⟩ := hcut
      clear HRL HSP c0 c1 c2 c4 hf cg hq0 hq1 r0 r1 HG hne hne' hfg HH
      have t4 := h2.blk.cell 4
      have tf := h2.blk.thaw
      simp at t4
      generalize epart ⟨L, R, k, S⟩ x b = e0 at *
      generalize P.set j (nextC x b) = P' at *
      have h3 : REn (wc.setCell ⟨p, 4, none⟩ (.int .i64 ((N + 1 : Nat) : Int))) p v2 n ⟨P', N + 1, e0⟩ :=
        ⟨h2.blk.set 4 _, ownsRow_fr h2.own ((Fr.refl (fun j => j = p) wc).setCell (fun _ => rfl) _) (fun i hi e => h2.apart (by rw [← e]; exact hi)), h2.len, h2.apart⟩
      have HA : Hid (v2.ownBlock ≠ some p) := h2.apart
      clear h2
      go_wp2_with fail
      go_loopg [] 16 (fun m wr => ∃ e1 : ES, enorm m e1 = enorm 16 e0 ∧ Span e1.L e1.R ∧ 16384 < e1.R * 2 ^ m ∧ m ≤ 16 ∧ e1.S.length + e1.k ≤ 10000000 + (16 - m) ∧ REn wr p v2 n ⟨P', N + 1, e1⟩ ∧ Fr (fun j => j = p) w wr)
      case atStart => exact ⟨e0, rfl, ps, h16, Nat.le_refl _, by omega, h3, F2.setCell (fun _ => rfl) _⟩
      case round =>
        clear h3 ps h16 hcnt t4 tf F2
        obtain ⟨e1, he, hs1, h1, hm, hcnt, h4, F4⟩ := hrel
        obtain ⟨L, R, k, S⟩ := e1
        simp only at hs1 h1 hcnt
        have d1 := h4.blk.cell 1
        have d2 := h4.blk.cell 2
        have d3 := h4.blk.cell 3
        have d5 := h4.blk.cell 5
        have df := h4.blk.thaw
        simp at d1 d2 d3 d5
        obtain ⟨s0, s1, s2⟩ := hs1
        by_cases hr : R ≤ 16384
        · obtain ⟨m', rfl⟩ : ∃ m', gk = m' + 1 := by
            cases gk with
            | zero => simp at h1; omega
            | succ m' => exact ⟨m', rfl⟩
          have hspan := eshift_span (e := ⟨L, R, k, S⟩) ⟨s0, s1, s2⟩ hr
          have hcs := shift_count ⟨L, R, k, S⟩
          have HN : Hid (enorm m' (eshift ⟨L, R, k, S⟩) = enorm 16 e0) := by show _ = _; rw [← he, enorm, if_pos hr]
          have HM : Hid (16384 < (eshift ⟨L, R, k, S⟩).R * 2 ^ m') := by
            show _ < _
            rw [(eshift_LR ⟨L, R, k, S⟩).2]
            rw [Int.pow_succ] at h1
            rw [show 2 * R * 2 ^ m' = R * (2 ^ m' * 2) by rw [Int.mul_comm 2 R, Int.mul_assoc, Int.mul_comm 2]]
            exact h1
          have HSp := hid hspan
          have HCs := hid hcs
          have H4 := hid h4
          clear he h1 hspan hcs h4
          by_cases hd : differ L R
          · have HE : Hid (eshift ⟨L, R, k, S⟩ = ⟨2 * turn14 L % 65536, 2 * R, k + 1, S⟩) := if_pos hd
            obtain ⟨t0, t1⟩ := turn14_bounds s0 (show L < 65536 by omega)
            have hdd : (L / 32768 != (L + R - 1) / 32768) = true := by unfold differ at hd; rw [bne_iff_ne]; omega
            have HT : Hid (∀ u, Calls Try.prog 68 #[.int .i64 L] u fun e w' => e = .returned (.int .i64 (turn14 L)) ∧ w' = u) := fun u => rturn_any L u s0 (by omega)
            clear hd
            generalize turn14 L = tL at *
            go_wp2
            go_quiet (fail)
            have q1 : (wr.drewN nq).cell? ⟨p, 1, none⟩ = some (.int .i64 L) := d1
            go_wp2_with fail
            refine (HT.out _).mono ?_
            rintro e w5 ⟨rfl, rfl⟩
            go_wp2
            go_roundg m'
            case rel =>
              have F5 : Fr (fun j => j = p) wr (((((wr.drewN nq).setCell ⟨p, 1, none⟩ (.int .i64 tL)).setCell ⟨p, 3, none⟩ (.int .i64 ((k : Int) + 1))).setCell ⟨p, 1, none⟩ (.int .i64 (2 * tL % 65536))).setCell ⟨p, 2, none⟩ (.int .i64 (2 * R))) :=
                (((((Fr.refl (fun j => j = p) wr).drewN nq).setCell (fun _ => rfl) _).setCell (fun _ => rfl) _).setCell (fun _ => rfl) _).setCell (fun _ => rfl) _
              refine ⟨eshift ⟨L, R, k, S⟩, HN.out, HSp.out, HM.out, by omega, by rw [HCs.out]; omega, ?_, F4.trans' F5⟩
              rw [HE.out]
              refine H4.out.moved ?_ F5 rfl
              simpa using ((((H4.out.blk.drewN nq).set 1 (.int .i64 tL)).set 3 (.int .i64 ((k : Int) + 1))).set 1 (.int .i64 (2 * tL % 65536))).set 2 (.int .i64 (2 * R))
            case measure => omega
          · have HE : Hid (eshift ⟨L, R, k, S⟩ = ⟨2 * L % 65536, 2 * R, 0, S ++ topB L :: List.replicate k (!topB L)⟩) := if_neg hd
            have hdd : (L / 32768 != (L + R - 1) / 32768) = false := by unfold differ at hd; rw [bne_eq_false_iff_eq]; omega
            have htop : decide (L / 32768 = 1) = topB L := by unfold topB; rw [decide_eq_decide]; omega
            obtain ⟨T1, hT1⟩ : ∃ T1, T1 = strB [topB L] := ⟨_, rfl⟩
            obtain ⟨T2, hT2⟩ : ∃ T2, T2 = strB [!topB L] := ⟨_, rfl⟩
            have z1 : T1.size = 1 := by rw [hT1, strB_size]; rfl
            have z2 : T2.size = 1 := by rw [hT2, strB_size]; rfl
            have H1 : Hid (∀ u, Calls Try.prog 47 #[.int .i64 (L / 32768)] u fun e w' => e = .returned (.string T1) ∧ w' = u) := by
              show ∀ u, _
              intro u; rw [hT1, ← htop]; exact rone_any _ u
            have H2 : Hid (∀ u, Calls Try.prog 48 #[.int .i64 (L / 32768)] u fun e w' => e = .returned (.string T2) ∧ w' = u) := by
              show ∀ u, _
              intro u; rw [hT2, ← htop]; exact ropp_any _ u
            have HT1 := hid hT1
            have HT2 := hid hT2
            obtain ⟨Sg, hSg⟩ : ∃ Sg, Sg = strB S := ⟨_, rfl⟩
            have zS : Sg.size ≤ 100000000 := by rw [hSg, strB_size]; omega
            rw [← hSg] at d5
            have HSg := hid hSg
            clear hT1 hT2 hSg htop hd
            obtain ⟨wo, hwo⟩ : ∃ wo, wo = wr := ⟨_, rfl⟩
            subst hwo
            have n1 : ¬ 9223372036854775807 < Sg.size + T1.size := by omega
            have Z1 := hid z1
            clear z1
            go_wp2
            go_quiet (fail)
            go_wp2
            refine wp_region_still_tail 9 (by kernel_rfl) (by kernel_rfl) ?_
            show wpStill Try.prog _ (wo.drewN nq).drew (fun a' => wpList Try.prog _ _ _ a' (wo.drewN nq).drew) _ _
            simp only [List.take_succ_cons, List.take_zero, List.drop_succ_cons, List.drop_zero]
            repeat still_step
            still_call (H1.out _)
            repeat still_step
            refine wpStill_nil ?_
            have B1 : Blk ((wo.drewN nq).drew.setCell ⟨p, 5, none⟩ (.string (Sg ++ T1))) p #[v2, .int .i64 L, .int .i64 R, .int .i64 (k : Int), .int .i64 ((N + 1 : Nat) : Int), .string (strB (S ++ topB L :: List.replicate (k - k) (!topB L)))] 32 := by
              have := ((H4.out.blk.drewN nq).drew).set 5 (.string (Sg ++ T1))
              rw [HSg.out, HT1.out, strB_append] at this ⊢
              simpa using this
            have G1 : Fr (fun j => j = p) wo ((wo.drewN nq).drew.setCell ⟨p, 5, none⟩ (.string (Sg ++ T1))) := ((Fr.refl (fun j => j = p) wo).drewN nq).drew.setCell (fun _ => rfl) _
            have Z2 := hid z2
            clear z2
            go_wp2_with fail
            clear d1 d2 d3 d5 df n1
            go_loopg [] k (fun i wx => i ≤ k ∧ Blk wx p #[v2, .int .i64 L, .int .i64 R, .int .i64 (i : Int), .int .i64 ((N + 1 : Nat) : Int), .string (strB (S ++ topB L :: List.replicate (k - i) (!topB L)))] 32 ∧ Fr (fun j => j = p) wo wx)
            case atStart => exact ⟨Nat.le_refl _, B1, G1⟩
            case round =>
              clear B1 G1
              obtain ⟨hi, B2, G2⟩ := hrel
              have x1 := B2.cell 1
              have x2 := B2.cell 2
              have x3 := B2.cell 3
              have x5 := B2.cell 5
              have xf := B2.thaw
              simp at x1 x2 x3 x5
              have HB2 := hid B2
              clear B2
              by_cases h0 : 0 < gk
              · have hpos : (0 : Int) < (gk : Int) := by omega
                obtain ⟨Sx, hSx⟩ : ∃ Sx, Sx = strB (S ++ topB L :: List.replicate (k - gk) (!topB L)) := ⟨_, rfl⟩
                have zx : Sx.size ≤ 1000000000 := by rw [hSx, strB_size]; simp; omega
                rw [← hSx] at x5
                have HSx := hid hSx
                have n2' : ¬ 9223372036854775807 < Sx.size + T2.size := by have := Z2.out; omega
                clear hSx
                go_wp2
                refine wp_region_still_tail 9 (by kernel_rfl) (by kernel_rfl) ?_
                show wpStill Try.prog _ wr.drew (fun a' => wpList Try.prog _ _ _ a' wr.drew) _ _
                simp only [List.take_succ_cons, List.take_zero, List.drop_succ_cons, List.drop_zero]
                repeat still_step
                still_call (H2.out _)
                repeat still_step
                refine wpStill_nil ?_
                go_wp2
                go_roundg (gk - 1)
                case rel =>
                  refine ⟨by omega, ?_, (G2.drew.setCell (fun _ => rfl) _).setCell (fun _ => rfl) _⟩
                  have := ((HB2.out.set 5 (.string (Sx ++ T2))).set 3 (.int .i64 ((gk : Int) - 1))).drew
                  have e7 : Sx ++ T2 = strB (S ++ topB L :: List.replicate (k - (gk - 1)) (!topB L)) := by
                    rw [HSx.out, HT2.out, strB_append, show k - (gk - 1) = (k - gk) + 1 by omega, List.replicate_succ', List.append_assoc]
                    rfl
                  have e8 : (((gk - 1 : Nat)) : Int) = (gk : Int) - 1 := by omega
                  rw [e8, ← e7]
                  simpa using this
                case measure => omega
              · obtain rfl : gk = 0 := by omega
                have hpos : ¬ (0 : Int) < ((0 : Nat) : Int) := by decide
                go_wp2
                go_roundg m'
                case rel =>
                  have F5 : Fr (fun j => j = p) wo ((wr.setCell ⟨p, 1, none⟩ (.int .i64 (2 * L % 65536))).setCell ⟨p, 2, none⟩ (.int .i64 (2 * R))) := (G2.setCell (fun _ => rfl) _).setCell (fun _ => rfl) _
                  refine ⟨eshift ⟨L, R, k, S⟩, HN.out, HSp.out, HM.out, by omega, by rw [HCs.out]; omega, ?_, F4.trans' F5⟩
                  rw [HE.out]
                  refine H4.out.moved ?_ F5 rfl
                  have := (HB2.out.set 1 (.int .i64 (2 * L % 65536))).set 2 (.int .i64 (2 * R))
                  simpa using this
                case measure => omega
        · have hdd : decide (R ≤ 16384) = false := by simpa using hr
          have HF : Hid ((⟨L, R, k, S⟩ : ES) = enorm 16 e0) := by
            show _ = _
            rw [← he]
            cases gk with
            | zero => rfl
            | succ m' => rw [enorm, if_neg hr]
          clear he h1
          go_wp2
          go_ret
          rw [HE.out, ← HF.out]
          exact ⟨rfl, v2, h4, F4, .inr n2⟩
end Go.Proofs.Ythabklgeopdlhaa
