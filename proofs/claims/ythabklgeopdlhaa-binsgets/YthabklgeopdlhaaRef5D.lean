/-
  The document's own answers of layer 5 (package shingleref05): the decoder.
-/
import Derived.Test.YthabklgeopdlhaaRef5B
import Derived.Deep.DeepCutAuto
namespace Go.Proofs.Ythabklgeopdlhaa
open Go.RowKit

/-- A block's cells as a function of where the document's reader, at cell o of it, is, and how many bits it told past the end. -/
structure RLens (o : Nat) (S : ByteArray) (H : Int → Int → Array Value) : Prop where
  get0 : ∀ a b, (H a b)[o]? = some (.string S)
  get1 : ∀ a b, (H a b)[o + 1]? = some (.int .i64 a)
  get2 : ∀ a b, (H a b)[o + 2]? = some (.int .i64 b)
  set1 : ∀ a b x, (H a b).setIfInBounds (o + 1) (.int .i64 x) = H x b
  set2 : ∀ a b x, (H a b).setIfInBounds (o + 2) (.int .i64 x) = H a x

/-- Bit. -/
theorem lrefBit_any (w : World) (p o : Nat) (L : List Bool) (H : Int → Int → Array Value) (t : TypeId) (pos ov : Nat) (hl : RLens o (strB L) H) (h : Blk w p (H (pos : Int) (ov : Int)) t) (hL : L.length ≤ 1000000000000000) (hp : pos ≤ 1000000000000000) (ho : ov ≤ 1000000000000000) :
    Calls Try.prog 75 #[.pointer (some ⟨p, o, none⟩)] w fun e w' => e = .returned (.int .i64 (((L.getD pos false).toNat : Nat) : Int)) ∧ (∃ ov', ov' ≤ ov + 1 ∧ Blk w' p (H ((pos + 1 : Nat) : Int) (ov' : Int)) t) ∧ Fr (fun k => k = p) w w' := by
  have hc0 : w.cell? ⟨p, o, none⟩ = some (.string (strB L)) := by rw [h.cell, hl.get0]
  have hc1 : w.cell? ⟨p, o + 1, none⟩ = some (.int .i64 (pos : Int)) := by rw [h.cell, hl.get1]
  have hc2 : w.cell? ⟨p, o + 2, none⟩ = some (.int .i64 (ov : Int)) := by rw [h.cell, hl.get2]
  have hf := h.thaw
  obtain ⟨S, hS⟩ : ∃ S, S = strB L := ⟨_, rfl⟩
  have hsz : S.size = L.length := by rw [hS, strB_size]
  have hget : ∀ (i : Nat) (h : i < S.size), (S[i]'h).toNat = 48 + (L.getD i false).toNat := by subst hS; exact strB_get L
  rw [← hS] at hc0
  have hS2 : S.size ≤ 1000000000000000 := by omega
  clear hS
  have HH := hid h
  clear h
  by_cases hlt : pos < L.length
  · have hlt' : ¬ (S.size : Int) ≤ (pos : Int) := by omega
    have hlt2 : (pos : Int) < (S.size : Int) := by omega
    have hlt3 : pos < S.size := by omega
    have HB := hget pos hlt3
    obtain ⟨b, hb⟩ : ∃ b, b = (L.getD pos false).toNat := ⟨_, rfl⟩
    have hb1 : b ≤ 1 := by rw [hb]; cases L.getD pos false <;> simp
    rw [← hb] at HB ⊢
    clear hget hb hsz hlt
    go_enter Try.func75, Try.ntmps75
    go_wp2
    go_ret
    refine ⟨ret_int (by omega), ⟨ov, by omega, ?_⟩, (Fr.refl (fun k => k = p) w).setCell (fun _ => rfl) _⟩
    have := HH.out.set (o + 1) (.int .i64 ((pos : Int) + 1))
    rw [hl.set1] at this
    simpa using this
  · have hlt' : (S.size : Int) ≤ (pos : Int) := by omega
    have e0 : L.getD pos false = false := by simp [List.getD, List.getElem?_eq_none (show L.length ≤ pos by omega)]
    rw [e0]
    clear hget hsz hlt e0
    go_enter Try.func75, Try.ntmps75
    go_wp2
    go_ret
    refine ⟨ret_int rfl, ⟨ov + 1, by omega, ?_⟩, ((Fr.refl (fun k => k = p) w).setCell (fun _ => rfl) _).setCell (fun _ => rfl) _⟩
    have := (HH.out.set (o + 1) (.int .i64 ((pos : Int) + 1))).set (o + 2) (.int .i64 ((ov : Int) + 1))
    rw [hl.set1, hl.set2] at this
    simpa using this

set_option maxHeartbeats 400000 in
/-- Get of sixteen. -/
theorem lrefGet_any (w : World) (p o : Nat) (L : List Bool) (H : Int → Int → Array Value) (t : TypeId) (hl : RLens o (strB L) H) (h : Blk w p (H 0 0) t) (hL : L.length ≤ 1000000000000000) :
    Calls Try.prog 54 #[.pointer (some ⟨p, o, none⟩), .int .i64 16] w fun e w' => e = .returned (.int .u64 (valI (fun i => L.getD i false) 0 16)) ∧ (∃ ov' : Nat, ov' ≤ 16 ∧ Blk w' p (H 16 (ov' : Int)) t) ∧ Fr (fun k => k = p) w w' := by
  go_enter Try.func54, Try.ntmps54
  go_wp2
  go_loopw [5, 6] (fun v i wr => ∃ j : Nat, j ≤ 16 ∧ i = .int .i64 (j : Int) ∧ v = .int .u64 (valI (fun i => L.getD i false) 0 j) ∧ (∃ ov : Nat, ov ≤ j ∧ Blk wr p (H (j : Int) (ov : Int)) t) ∧ Fr (fun k => k = p) w wr) (fun _ i _ => 16 - (intOf i).toNat)
  case atStart => exact ⟨0, Nat.zero_le _, rfl, rfl, ⟨0, Nat.le_refl _, h⟩, Fr.refl _ _⟩
  case round =>
    obtain ⟨j, hj, rfl, rfl, ⟨ov, ho, h1⟩, f1⟩ := hrel
    by_cases hlt : j < 16
    · have a1 : (j : Int) < 16 := by omega
      have a2 : (j : Int) < 64 := by omega
      have hv := valI_bounds (fun i => L.getD i false) 0 j
      obtain ⟨x, hx⟩ : ∃ x, x = valI (fun i => L.getD i false) 0 j := ⟨_, rfl⟩
      rw [← hx] at hv ⊢
      have hx0 : 0 ≤ x := hv.1
      have hx2 : x < 65536 := by
        have : (2 : Int) ^ j ≤ 2 ^ 16 := pow2_le (by omega)
        have e16 : (2 : Int) ^ 16 = 65536 := rfl
        omega
      have HN : Hid (valI (fun i => L.getD i false) 0 (j + 1) = 2 * x + ((L.getD j false).toNat : Nat)) := by
        show _ = _
        rw [valI, ← hx, Nat.zero_add]
        unfold bitI
        cases L.getD j false <;> rfl
      clear hx hv
      go_wp2_with fail
      refine (lrefBit_any wr p o L H t j ov hl h1 hL (by omega) (by omega)).mono ?_
      rintro e w2 ⟨rfl, ⟨ov2, ho2, h2⟩, f2⟩
      have F : Fr (fun k => k = p) w w2 := f1.trans' f2
      have hb1 : (L.getD j false).toNat ≤ 1 := by cases L.getD j false <;> simp
      generalize (L.getD j false).toNat = b at HN hb1
      clear f2 f1 h1
      go_wp2
      go_roundw
      case rel => exact ⟨j + 1, by omega, by go_num, congrArg (Value.int .u64) (by rw [HN.out]), ⟨ov2, by omega, h2⟩, F⟩
      case measure => simp [intOf]; omega
    · obtain rfl : j = 16 := by omega
      go_wp2
      go_ret
      exact ⟨rfl, ⟨ov, ho, h1⟩, f1⟩

/-- The cells of the document's decoder. -/
def rdeA (v : Value) (L R C N : Int) (S : ByteArray) (a b : Int) : Array Value := #[v, .int .i64 L, .int .i64 R, .int .i64 C, .int .i64 N, .string S, .int .i64 a, .int .i64 b]
theorem lens_rde (v : Value) (L R C N : Int) (S : ByteArray) : RLens 5 S (fun a b => rdeA v L R C N S a b) :=
  ⟨fun _ _ => rfl, fun _ _ => rfl, fun _ _ => rfl, fun _ _ _ => rfl, fun _ _ _ => rfl⟩

/-- The document's decoder of the bytes zs lies in block p, its chances are the value v. -/
structure RDe (w : World) (p : Nat) (v : Value) (zs : List Nat) (n : Nat) (s : DX) (ov : Nat) : Prop where
  blk : Blk w p (rdeA v s.d.L s.d.R s.d.C (s.N : Int) (strB (allBits zs)) (s.d.pos : Int) (ov : Int)) 55
  own : w.ownsRow 0 3 1 v n (intRow s.P)
  len : s.P.length = n
  apart : v.ownBlock ≠ some p
  few : ov ≤ s.d.pos

theorem RDe.fr {w w' : World} {p : Nat} {v : Value} {zs : List Nat} {n : Nat} {s : DX} {ov : Nat} {S : Nat → Prop} (h : RDe w p v zs n s ov) (f : Fr S w w') (hp : ¬ S p) (hv : ∀ k, v.ownBlock = some k → ¬ S k) : RDe w' p v zs n s ov :=
  ⟨h.blk.fr f hp, ownsRow_fr h.own f hv, h.len, h.apart, h.few⟩
theorem RDe.quiet {w w' : World} {p : Nat} {v : Value} {zs : List Nat} {n : Nat} {s : DX} {ov : Nat} (h : RDe w p v zs n s ov) (f : Fr (fun _ => False) w w') : RDe w' p v zs n s ov :=
  h.fr f (fun h => h) (fun _ _ h => h)
theorem RDe.moved {w w' : World} {p : Nat} {v : Value} {zs : List Nat} {n : Nat} {s s' : DX} {ov ov' : Nat} (h : RDe w p v zs n s ov) (hb : Blk w' p (rdeA v s'.d.L s'.d.R s'.d.C (s'.N : Int) (strB (allBits zs)) (s'.d.pos : Int) (ov' : Int)) 55) (f : Fr (fun j => j = p) w w') (hP : s'.P = s.P) (ho : ov' ≤ s'.d.pos) : RDe w' p v zs n s' ov' :=
  ⟨hb, by rw [hP]; exact ownsRow_fr h.own f (fun i hi e => h.apart (by rw [← e]; exact hi)), by rw [hP]; exact h.len, h.apart, ho⟩

/-- The document's decoder has the state s' in w', and nothing else has turned. -/
def RDeGets (p : Nat) (v : Value) (zs : List Nat) (w w' : World) (n : Nat) (s' : DX) : Prop := ∃ v' ov', RDe w' p v' zs n s' ov' ∧ Fr (fun j => j = p) w w' ∧ (v' = v ∨ ∀ k, v'.ownBlock = some k → w.heap.size ≤ k)

theorem allBits_fun (zs : List Nat) : (fun i => (allBits zs).getD i false) = bitAt zs := by funext i; exact allBits_bit zs i

/-- NewDecoder. -/
theorem rnewDec_any (w : World) (a : Option Addr) (cap : Nat) (zs : List Nat) (c : Int) (hs : ∀ z ∈ zs, z < 256) (hn : zs.length ≤ 1000000) (hc : 0 < zs.length → ∃ b off, a = some ⟨b, off, none⟩ ∧ ∀ j, j < zs.length → w.cell? ⟨b, off + j, none⟩ = some (.int .u8 ((zs.getD j 0 : Nat) : Int))) :
    Calls Try.prog 23 #[.slice a zs.length cap, .int .i64 c] w fun e w' => ∃ p v ov, e = .returned (.pointer (some ⟨p, 0, none⟩)) ∧ RDe w' p v zs (ctxN c) (startD (bitAt zs) (ctxN c)) ov ∧ w.heap.size ≤ p ∧ (∀ k, v.ownBlock = some k → w.heap.size ≤ k) ∧ Fr (fun _ => False) w w' := by
  have HC := hid hc
  clear hc
  have hb := valI_bounds (fun i => (allBits zs).getD i false) 0 16
  rw [show (2 : Int) ^ 16 = 65536 from rfl] at hb
  obtain ⟨x, hx⟩ : ∃ x, x = valI (fun i => (allBits zs).getD i false) 0 16 := ⟨_, rfl⟩
  rw [← hx] at hb
  have HX := hid hx
  clear hx
  obtain ⟨x0, x1⟩ := hb
  go_enter Try.func23, Try.ntmps23
  go_wp2_with fail
  refine (rfresh_any w c).mono ?_
  rintro e w1 ⟨v, rfl, o1, f1⟩
  obtain ⟨av, capv, rfl, _⟩ := ownsRow_form o1
  go_wp2_with fail
  refine (refAll_any w1 a cap zs hs hn (fun h0 => by obtain ⟨b, off, e, k⟩ := HC.out h0; exact ⟨b, off, e, fun j hj => (f1.cell (p := ⟨b, off + j, none⟩) (cell_lt (k j hj)) (fun h => h)).trans (k j hj)⟩)).mono ?_
  rintro e w2 ⟨rfl, f2⟩
  have o2 := ownsRow_fr o1 f2 (fun _ _ h => h)
  have hlt := o1.lt
  have F2 := f1.trans' f2
  clear o1
  have b2 := Blk.new w2 (rdeA (.slice av (ctxN c) capv) 0 65536 0 0 (strB (allBits zs)) 0 0) 55
  have F3 := F2.alloc (.cells (rdeA (.slice av (ctxN c) capv) 0 65536 0 0 (strB (allBits zs)) 0 0) 55)
  have o3 := (ownsRow_zero o2).alloc (.cells (rdeA (.slice av (ctxN c) capv) 0 65536 0 0 (strB (allBits zs)) 0 0) 55)
  have ha : (Value.slice av (ctxN c) capv).ownBlock ≠ some w2.heap.size := fun e => by have := (o2.lt _ e).2; omega
  have nb : ∀ k, (Value.slice av (ctxN c) capv).ownBlock = some k → w.heap.size ≤ k := fun k hk => (o2.lt k hk).1
  have hsz := F2.size
  clear o2 hlt F2 f1 f2
  go_wp2_with fail
  refine (lrefGet_any _ w2.heap.size 5 (allBits zs) _ _ (lens_rde _ _ _ _ _ _) b2 (by rw [allBits_length]; omega)).mono ?_
  rintro e w4 ⟨rfl, ⟨ov, ho, b4⟩, f4⟩
  rw [← HX.out]
  have o4 := ownsRow_fr o3 f4 (fun k hk e => ha (by rw [hk, e]))
  have F4 := F3.trans f4 (by intro i hi e; omega)
  have hf4 := b4.thaw
  have c4 : w4.cell? ⟨w2.heap.size, 3, none⟩ = some (.int .i64 0) := by rw [b4.cell]; rfl
  clear b2 F3 o3 f4
  go_wp2
  go_ret
  refine ⟨w2.heap.size, .slice av (ctxN c) capv, ov, rfl, ⟨?_, ownsRow_fr o4 ((Fr.refl (fun j => j = w2.heap.size) w4).setCell (fun _ => rfl) _) (fun k hk e => ha (by rw [hk, e])), evenP_length _, ha, ho⟩, hsz, nb, F4.setCell (fun h => by simp at h; omega) _⟩
  show Blk _ _ (rdeA _ 0 65536 (valI (bitAt zs) 0 16) 0 _ 16 (ov : Int)) _
  rw [← allBits_fun zs, ← HX.out]
  exact b4.set 3 (.int .i64 x)

set_option maxRecDepth 100000 in
set_option maxHeartbeats 4000000 in
/-- Get. -/
theorem rget5_any (w : World) (p : Nat) (v : Value) (zs : List Nat) (n : Nat) (s : DX) (ov : Nat) (c : Int) (h : RDe w p v zs n s ov) (hn : n ≤ 64) (hz : zs.length ≤ 1000000) (hN : s.N ≤ 1000000) (hG : DGood n s) :
    Calls Try.prog 56 #[.pointer (some ⟨p, 0, none⟩), .int .i64 c] w fun e w' => e = .returned (.bool (getB n s c)) ∧ RDeGets p v zs w w' n (getX (bitAt zs) n s c) := by
  have hG' := hG
  obtain ⟨P, N, d⟩ := s
  obtain ⟨L, R, C, pos⟩ := d
  obtain ⟨fair, hspan, hwide, hC0, hC1, hpos⟩ := hG'
  simp only at hN fair hspan hwide hC0 hC1 hpos
  have c0 : w.cell? ⟨p, 0, none⟩ = some v := by rw [h.blk.cell]; rfl
  have c1 : w.cell? ⟨p, 1, none⟩ = some (.int .i64 L) := by rw [h.blk.cell]; rfl
  have c2 : w.cell? ⟨p, 2, none⟩ = some (.int .i64 R) := by rw [h.blk.cell]; rfl
  have c3 : w.cell? ⟨p, 3, none⟩ = some (.int .i64 C) := by rw [h.blk.cell]; rfl
  have hf := h.blk.thaw
  obtain ⟨a, cap, rfl, hform⟩ := ownsRow_form h.own
  have hni : (n : Int) ≤ 64 := by omega
  cases hc : hasX n c with
  | false =>
    have HE : Hid (getX (bitAt zs) n ⟨P, N, ⟨L, R, C, pos⟩⟩ c = ⟨P, N, ⟨L, R, C, pos⟩⟩) := by show _ = _; unfold getX; rw [hc]; rfl
    have HB : Hid (getB n ⟨P, N, ⟨L, R, C, pos⟩⟩ c = false) := by show _ = _; unfold getB; rw [hc]; rfl
    have hcc : c < 0 ∨ (¬ c < 0 ∧ (n : Int) ≤ c) := by simp [hasX] at hc; omega
    rcases hcc with hcc | ⟨hc0, hcc⟩
    · go_enter Try.func56, Try.ntmps56
      go_wp2
      go_ret
      rw [HE.out, HB.out]
      exact ⟨rfl, _, ov, h, Fr.refl _ _, .inl rfl⟩
    · have hd : decide (c < 0) = false := by simpa using hc0
      go_enter Try.func56, Try.ntmps56
      go_wp2
      go_ret
      rw [HE.out, HB.out]
      exact ⟨rfl, _, ov, h, Fr.refl _ _, .inl rfl⟩
  | true =>
    obtain ⟨j, hj, rfl⟩ := hasX_true hc
    obtain ⟨gv, rfl, hgv⟩ := hform (by omega)
    have hch := fair.2 j hj
    have hpm := dpart_mid (s := ⟨P, N, ⟨L, R, C, pos⟩⟩) hG hch
    have hji : ¬ (n : Int) ≤ (j : Int) := by omega
    have hji2 : (j : Int) < (n : Int) := by omega
    have hj0 : decide ((j : Int) < 0) = false := by simp
    have hlen : P.length = n := h.len
    have cg := ownsRow_cell h.own j _ (intRow_get P j (by omega))
    have hq0 : 0 ≤ R * P.getD j 0 := Int.mul_nonneg (by omega) (by unfold Chance at hch; omega)
    have hq1 : R * P.getD j 0 ≤ 65536 * 65536 := Int.mul_le_mul (by unfold Span at hspan; omega) (by unfold Chance at hch; omega) (by unfold Chance at hch; omega) (by decide)
    unfold Span at hspan
    obtain ⟨x, hx⟩ : ∃ x, x = P.getD j 0 := ⟨_, rfl⟩
    rw [← hx] at cg hq0 hq1 hpm
    obtain ⟨sp, hsp⟩ : ∃ sp, sp = R * x / 65536 := ⟨_, rfl⟩
    obtain ⟨b, hb⟩ : ∃ b, b = decide (sp ≤ C - L) := ⟨_, rfl⟩
    have HBi : Hid (dbit ⟨L, R, C, pos⟩ x = b) := by show _ = _; unfold dbit; rw [hb, hsp]
    have HB : Hid (getB n ⟨P, N, ⟨L, R, C, pos⟩⟩ (j : Int) = b) := by
      show _ = _; unfold getB; rw [hc, Int.toNat_natCast, ← hx]; simp only [Bool.true_and]; exact HBi.out
    have HE : Hid (getX (bitAt zs) n ⟨P, N, ⟨L, R, C, pos⟩⟩ (j : Int) = ⟨P.set j (nextC x b), N + 1, dnorm (bitAt zs) 16 (dpart ⟨L, R, C, pos⟩ x b)⟩) := by
      show _ = _
      unfold getX
      rw [hc, if_pos rfl, Int.toNat_natCast, ← hx]
      simp only
      rw [HBi.out]
      unfold dget
      rw [HBi.out]
    have pm := hpm b
    have pp := dpart_pos ⟨L, R, C, pos⟩ x b
    have pC : (dpart ⟨L, R, C, pos⟩ x b).C = C := by cases b <;> rfl
    have p9 : (dpart ⟨L, R, C, pos⟩ x b).pos ≤ 10000000 := by rw [pp]; show pos ≤ 10000000; omega
    have h16 : DMid (dpart ⟨L, R, C, pos⟩ x b) 16 := by
      refine ⟨pm.span, pm.c0, pm.c1, ?_⟩
      have := pm.more
      change 16384 < (dpart ⟨L, R, C, pos⟩ x b).R * 2 ^ 9 at this
      have e9 : (dpart ⟨L, R, C, pos⟩ x b).R * 2 ^ 16 = (dpart ⟨L, R, C, pos⟩ x b).R * 2 ^ 9 * 128 := by rw [Int.mul_assoc]; rfl
      rw [e9]
      omega
    have r0 : 0 ≤ sp := by omega
    have r1 : sp ≤ 65536 := by omega
    have HSP := hid hsp
    have HBB := hid hb
    have HRL : Hid (R * x / 65536 = sp) := hsp.symm
    have HH := hid h
    have hpl := h.blk.lt
    have hne : ¬ gv = p := fun e => h.apart (by rw [← e]; exact hgv)
    have hne' : ¬ p = gv := fun e => hne e.symm
    have hfg := ownsRow_thaw h.own
    have hov := h.few
    simp only at hov
    clear hx hgv h hc fair hform hch hsp hb hpm pm
    go_enter Try.func56, Try.ntmps56
    go_wp2
    rw [HRL.out]
    go_quiet (fail)
    have F1 : Fr (fun j => j = p) w (w.drewN nq) := (Fr.refl _ w).drewN nq
    have H1 := HH.out.quiet ((Fr.refl (fun _ => False) w).drewN nq)
    have x0 : (w.drewN nq).cell? ⟨p, 0, none⟩ = some (.slice (some ⟨gv, 0, none⟩) n cap) := c0
    have x1 : (w.drewN nq).cell? ⟨p, 1, none⟩ = some (.int .i64 L) := c1
    have x2 : (w.drewN nq).cell? ⟨p, 2, none⟩ = some (.int .i64 R) := c2
    have xf := H1.blk.thaw
    rw [← HBB.out]
    generalize w.drewN nq = w1 at F1 H1 x0 x1 x2 xf
    have HH1 := hid H1
    clear c0 c1 c2 c3 cg hfg hf H1 HH HBi HBB HRL
    go_upto_if 44 with (fail)
    go_cut [] (fun wx => ∃ v', RDe wx p v' zs n ⟨P.set j (nextC x b), N, dpart ⟨L, R, C, pos⟩ x b⟩ ov ∧ Fr (fun j => j = p) w wx ∧ ∀ i, v'.ownBlock = some i → w.heap.size ≤ i)
    case first =>
      cases b with
      | true =>
        have eL : (dpart ⟨L, R, C, pos⟩ x true).L = L + sp := by rw [HSP.out]; rfl
        have eR : (dpart ⟨L, R, C, pos⟩ x true).R = R - sp := by rw [HSP.out]; rfl
        have b1 : Blk ((w1.setCell ⟨p, 1, none⟩ (.int .i64 (L + sp))).setCell ⟨p, 2, none⟩ (.int .i64 (R - sp))) p (rdeA (.slice (some ⟨gv, 0, none⟩) n cap) (L + sp) (R - sp) C (N : Int) (strB (allBits zs)) (pos : Int) (ov : Int)) 55 := (HH1.out.blk.set 1 (.int .i64 (L + sp))).set 2 (.int .i64 (R - sp))
        have f1 : Fr (fun j => j = p) w1 ((w1.setCell ⟨p, 1, none⟩ (.int .i64 (L + sp))).setCell ⟨p, 2, none⟩ (.int .i64 (R - sp))) := ((Fr.refl (fun j => j = p) w1).setCell (p := ⟨p, 1, none⟩) (fun _ => rfl) (.int .i64 (L + sp))).setCell (p := ⟨p, 2, none⟩) (fun _ => rfl) (.int .i64 (R - sp))
        have o1 := ownsRow_fr HH1.out.own f1 (fun i hi e => HH1.out.apart (by rw [← e]; exact hi))
        obtain ⟨W1, hW1⟩ : ∃ W1, W1 = (w1.setCell ⟨p, 1, none⟩ (.int .i64 (L + sp))).setCell ⟨p, 2, none⟩ (.int .i64 (R - sp)) := ⟨_, rfl⟩
        have HW1 := hid hW1
        rw [← hW1] at b1 f1 o1
        clear hW1
        go_wp2
        rw [← HW1.out]
        have d0 : W1.cell? ⟨p, 0, none⟩ = some (.slice (some ⟨gv, 0, none⟩) n cap) := by rw [b1.cell]; rfl
        have df := b1.thaw
        have HL : Hid (Calls Try.prog 66 #[.int .i64 x] W1.drew fun e w' => e = .returned (.int .i64 (lessC x)) ∧ w' = W1.drew) := rless_any x W1.drew
        have HS : Hid (Calls Try.prog 65 #[.slice (some ⟨gv, 0, none⟩) n cap, .int .i64 (j : Int), .int .i64 (lessC x)] W1.drew fun e w' => ∃ v', e = .returned v' ∧ w'.ownsRow W1.drew.heap.size 3 1 v' n (intRow (P.set j (lessC x))) ∧ Fr (fun _ => False) W1.drew w') := rset_any W1.drew 0 _ n P j (lessC x) (ownsRow_drew o1) hlen hj hn
        clear x0 x1 x2 xf
        go_region_with (first
          | (go_at_call 66; refine HL.out.mono ?_; rintro e w2 ⟨rfl, rfl⟩)
          | (go_at_call 65; refine HS.out.mono ?_; rintro e w3 ⟨v3, rfl, o3, f3⟩; obtain ⟨a3, cap3, rfl, _⟩ := ownsRow_form o3; have b3 := (b1.fr ((Fr.refl (fun _ => False) W1).drew.trans' f3) (fun h => h)); have t0 : w3.cell? ⟨p, 0, none⟩ = some (.slice (some ⟨gv, 0, none⟩) n cap) := (by rw [b3.cell]; rfl); have tf := b3.thaw))
        all_goals
          go_wp2_with fail
          go_meet
          have f4 : Fr (fun j => j = p) w w3 := (F1.trans' f1).drew.trans f3 (fun _ _ h => h.elim)
          have hds : W1.drew.heap.size = W1.heap.size := rfl
          refine ⟨.slice a3 n cap3, ⟨?_, ?_, by simpa using hlen, ?_, by rw [pp]; exact hov⟩, f4.setCell (fun _ => rfl) _, ?_⟩
          · show Blk _ _ (rdeA _ (dpart ⟨L, R, C, pos⟩ x true).L (dpart ⟨L, R, C, pos⟩ x true).R (dpart ⟨L, R, C, pos⟩ x true).C (N : Int) _ ((dpart ⟨L, R, C, pos⟩ x true).pos : Int) (ov : Int)) _
            rw [eL, eR, pC, pp]
            exact b3.set 0 _
          · exact ownsRow_fr (ownsRow_zero o3) ((Fr.refl (fun j => j = p) w3).setCell (fun _ => rfl) _) (fun i hi e => by have := (o3.lt i hi).1; have := b1.lt; omega)
          · intro e; have := (o3.lt _ e).1; have := b1.lt; omega
          · intro i hi; have := (o3.lt _ hi).1; have := f1.size; have := F1.size; omega
      | false =>
        have eL : (dpart ⟨L, R, C, pos⟩ x false).L = L := rfl
        have eR : (dpart ⟨L, R, C, pos⟩ x false).R = sp := by rw [HSP.out]; rfl
        have b1 : Blk (w1.setCell ⟨p, 2, none⟩ (.int .i64 sp)) p (rdeA (.slice (some ⟨gv, 0, none⟩) n cap) (L) (sp) C (N : Int) (strB (allBits zs)) (pos : Int) (ov : Int)) 55 := HH1.out.blk.set 2 (.int .i64 sp)
        have f1 : Fr (fun j => j = p) w1 (w1.setCell ⟨p, 2, none⟩ (.int .i64 sp)) := (Fr.refl (fun j => j = p) w1).setCell (p := ⟨p, 2, none⟩) (fun _ => rfl) (.int .i64 sp)
        have o1 := ownsRow_fr HH1.out.own f1 (fun i hi e => HH1.out.apart (by rw [← e]; exact hi))
        obtain ⟨W1, hW1⟩ : ∃ W1, W1 = w1.setCell ⟨p, 2, none⟩ (.int .i64 sp) := ⟨_, rfl⟩
        have HW1 := hid hW1
        rw [← hW1] at b1 f1 o1
        clear hW1
        go_wp2
        rw [← HW1.out]
        have d0 : W1.cell? ⟨p, 0, none⟩ = some (.slice (some ⟨gv, 0, none⟩) n cap) := by rw [b1.cell]; rfl
        have df := b1.thaw
        have HL : Hid (Calls Try.prog 67 #[.int .i64 x] W1.drew fun e w' => e = .returned (.int .i64 (moreC x)) ∧ w' = W1.drew) := rmore_any x W1.drew
        have HS : Hid (Calls Try.prog 65 #[.slice (some ⟨gv, 0, none⟩) n cap, .int .i64 (j : Int), .int .i64 (moreC x)] W1.drew fun e w' => ∃ v', e = .returned v' ∧ w'.ownsRow W1.drew.heap.size 3 1 v' n (intRow (P.set j (moreC x))) ∧ Fr (fun _ => False) W1.drew w') := rset_any W1.drew 0 _ n P j (moreC x) (ownsRow_drew o1) hlen hj hn
        clear x0 x1 x2 xf
        go_region_with (first
          | (go_at_call 67; refine HL.out.mono ?_; rintro e w2 ⟨rfl, rfl⟩)
          | (go_at_call 65; refine HS.out.mono ?_; rintro e w3 ⟨v3, rfl, o3, f3⟩; obtain ⟨a3, cap3, rfl, _⟩ := ownsRow_form o3; have b3 := (b1.fr ((Fr.refl (fun _ => False) W1).drew.trans' f3) (fun h => h)); have t0 : w3.cell? ⟨p, 0, none⟩ = some (.slice (some ⟨gv, 0, none⟩) n cap) := (by rw [b3.cell]; rfl); have tf := b3.thaw))
        all_goals
          go_wp2_with fail
          go_meet
          have f4 : Fr (fun j => j = p) w w3 := (F1.trans' f1).drew.trans f3 (fun _ _ h => h.elim)
          have hds : W1.drew.heap.size = W1.heap.size := rfl
          refine ⟨.slice a3 n cap3, ⟨?_, ?_, by simpa using hlen, ?_, by rw [pp]; exact hov⟩, f4.setCell (fun _ => rfl) _, ?_⟩
          · show Blk _ _ (rdeA _ (dpart ⟨L, R, C, pos⟩ x false).L (dpart ⟨L, R, C, pos⟩ x false).R (dpart ⟨L, R, C, pos⟩ x false).C (N : Int) _ ((dpart ⟨L, R, C, pos⟩ x false).pos : Int) (ov : Int)) _
            rw [eL, eR, pC, pp]
            exact b3.set 0 _
          · exact ownsRow_fr (ownsRow_zero o3) ((Fr.refl (fun j => j = p) w3).setCell (fun _ => rfl) _) (fun i hi e => by have := (o3.lt i hi).1; have := b1.lt; omega)
          · intro e; have := (o3.lt _ e).1; have := b1.lt; omega
          · intro i hi; have := (o3.lt _ hi).1; have := f1.size; have := F1.size; omega
    case rest =>
      obtain ⟨v2, h2, F2, n2⟩ := hcut
      clear HSP x0 x1 x2 xf hq0 hq1 r0 r1 hne hne' HH1 hpl F1
      have t4 : wc.cell? ⟨p, 4, none⟩ = some (.int .i64 (N : Int)) := by rw [h2.blk.cell]; rfl
      have tf := h2.blk.thaw
      generalize dpart ⟨L, R, C, pos⟩ x b = d0 at *
      generalize P.set j (nextC x b) = P' at *
      have h3 : RDe (wc.setCell ⟨p, 4, none⟩ (.int .i64 ((N + 1 : Nat) : Int))) p v2 zs n ⟨P', N + 1, d0⟩ ov :=
        h2.moved (h2.blk.set 4 _) ((Fr.refl (fun j => j = p) wc).setCell (fun _ => rfl) _) rfl h2.few
      clear h2
      go_wp2_with fail
      go_loopg [] 16 (fun m wr => ∃ d1 : DS, dnorm (bitAt zs) m d1 = dnorm (bitAt zs) 16 d0 ∧ DMid d1 m ∧ m ≤ 16 ∧ d1.pos ≤ 10000000 + (16 - m) ∧ (∃ ov1, RDe wr p v2 zs n ⟨P', N + 1, d1⟩ ov1) ∧ Fr (fun j => j = p) w wr)
      case atStart => exact ⟨d0, rfl, h16, Nat.le_refl _, by omega, ⟨ov, h3⟩, F2.setCell (fun _ => rfl) _⟩
      case round =>
        clear h3 h16 p9 t4 tf F2 pp pC hov
        obtain ⟨d1, he, hm1, hm, hp1, ⟨ov1, h4⟩, F4⟩ := hrel
        obtain ⟨L, R, C, pos⟩ := d1
        simp only at hp1
        have y1 : wr.cell? ⟨p, 1, none⟩ = some (.int .i64 L) := by rw [h4.blk.cell]; rfl
        have y2 : wr.cell? ⟨p, 2, none⟩ = some (.int .i64 R) := by rw [h4.blk.cell]; rfl
        have y3 : wr.cell? ⟨p, 3, none⟩ = some (.int .i64 C) := by rw [h4.blk.cell]; rfl
        have yf := h4.blk.thaw
        obtain ⟨s0, s1, s2⟩ := hm1.span
        have s3 : 0 ≤ C := hm1.c0
        have s4 : C < 65536 := hm1.c1
        simp only at s0 s1 s2
        by_cases hr : R ≤ 16384
        · obtain ⟨m', rfl⟩ : ∃ m', gk = m' + 1 := by
            cases gk with
            | zero => have := hm1.more; simp at this; omega
            | succ m' => exact ⟨m', rfl⟩
          have HN : Hid (dnorm (bitAt zs) m' (dshift (bitAt zs) ⟨L, R, C, pos⟩) = dnorm (bitAt zs) 16 d0) := by show _ = _; rw [← he, dnorm, if_pos hr]
          have HMm := hid (hm1.shift (B := bitAt zs) hr)
          have HP := hid (dshift_LR (bitAt zs) ⟨L, R, C, pos⟩).2.2
          have HE2 : Hid (dshift (bitAt zs) ⟨L, R, C, pos⟩ = ⟨2 * (if differ L R then turn14 L else L) % 65536, 2 * R, 2 * (if differ L R then turn14 C else C) % 65536 + bitI (bitAt zs pos), pos + 1⟩) := by
            show _ = _
            unfold dshift
            by_cases hd : differ L R
            · rw [if_pos hd, if_pos hd, if_pos hd]
            · rw [if_neg hd, if_neg hd, if_neg hd]
          obtain ⟨t0, t1⟩ := turn14_bounds s0 (show L < 65536 by omega)
          obtain ⟨u0, u1⟩ := turn14_bounds s3 s4
          have HT : Hid (∀ u, Calls Try.prog 68 #[.int .i64 L] u fun e w' => e = .returned (.int .i64 (turn14 L)) ∧ w' = u) := fun u => rturn_any L u s0 (by omega)
          have HU : Hid (∀ u, Calls Try.prog 68 #[.int .i64 C] u fun e w' => e = .returned (.int .i64 (turn14 C)) ∧ w' = u) := fun u => rturn_any C u s3 s4
          have H4 := hid h4
          clear he h4 hm1
          obtain ⟨tL, htL⟩ : ∃ tL, tL = turn14 L := ⟨_, rfl⟩
          obtain ⟨tC, htC⟩ : ∃ tC, tC = turn14 C := ⟨_, rfl⟩
          rw [← htL] at t0 t1 HT HE2
          rw [← htC] at u0 u1 HU HE2
          clear htL htC
          obtain ⟨L', hL'⟩ : ∃ L', L' = (if differ L R then tL else L) := ⟨_, rfl⟩
          obtain ⟨C', hC'⟩ : ∃ C', C' = (if differ L R then tC else C) := ⟨_, rfl⟩
          have l0 : 0 ≤ L' ∧ L' < 65536 := by rw [hL']; split <;> omega
          have l1 : 0 ≤ C' ∧ C' < 65536 := by rw [hC']; split <;> omega
          rw [← hL', ← hC'] at HE2
          have HL' := hid hL'
          have HC' := hid hC'
          clear hL' hC'
          go_wp2
          have hdd : (L / 32768 != (L + R - 1) / 32768) = decide (differ L R) := by
            rw [Bool.eq_iff_iff, bne_iff_ne, decide_eq_true_eq]
            unfold differ
            omega
          go_quiet (fail)
          have G1 : Fr (fun j => j = p) w (wr.drewN nq) := F4.drewN nq
          have K1 := H4.out.quiet ((Fr.refl (fun _ => False) wr).drewN nq)
          have y1 : (wr.drewN nq).cell? ⟨p, 1, none⟩ = some (.int .i64 L) := by rw [K1.blk.cell]; rfl
          have y3 : (wr.drewN nq).cell? ⟨p, 3, none⟩ = some (.int .i64 C) := by rw [K1.blk.cell]; rfl
          have yf := K1.blk.thaw
          generalize wr.drewN nq = w5 at G1 K1 y1 y3 yf
          have HK1 := hid K1
          clear K1 H4 F4 y2
          go_upto_if 115 with (fail)
          go_cut [] (fun wx => RDe wx p v2 zs n ⟨P', N + 1, ⟨L', R, C', pos⟩⟩ ov1 ∧ Fr (fun j => j = p) w wx)
          case first =>
            by_cases hd : differ L R
            · have hde : decide (differ L R) = true := by simpa using hd
              have eL : L' = tL := by rw [HL'.out, if_pos hd]
              have eC : C' = tC := by rw [HC'.out, if_pos hd]
              go_wp2_with fail
              refine (HT.out _).mono ?_
              rintro e wa ⟨rfl, hwa⟩
              subst hwa
              go_wp2_with fail
              refine (HU.out _).mono ?_
              rintro e wb ⟨rfl, hwb⟩
              subst hwb
              go_wp2_with fail
              go_meet
              rw [eL, eC]
              have F6 : Fr (fun j => j = p) wa ((wa.setCell ⟨p, 1, none⟩ (.int .i64 tL)).setCell ⟨p, 3, none⟩ (.int .i64 tC)) := ((Fr.refl (fun j => j = p) wa).setCell (fun _ => rfl) _).setCell (fun _ => rfl) _
              exact ⟨HK1.out.moved ((HK1.out.blk.set 1 (.int .i64 tL)).set 3 (.int .i64 tC)) F6 rfl HK1.out.few, G1.trans' F6⟩
            · have hde : decide (differ L R) = false := by simpa using hd
              have eL : L' = L := by rw [HL'.out, if_neg hd]
              have eC : C' = C := by rw [HC'.out, if_neg hd]
              go_wp2_with fail
              go_meet
              rw [eL, eC]
              exact ⟨HK1.out, G1⟩
          case rest =>
            obtain ⟨h6, F6⟩ := hcut
            clear HK1 y1 y3 yf HT HU hdd
            have z1 : wc.cell? ⟨p, 1, none⟩ = some (.int .i64 L') := by rw [h6.blk.cell]; rfl
            have zf := h6.blk.thaw
            obtain ⟨l00, l01⟩ := l0
            obtain ⟨l10, l11⟩ := l1
            have b7 := h6.blk.set 1 (.int .i64 (2 * L' % 65536))
            have f7 : Fr (fun j => j = p) wc (wc.setCell ⟨p, 1, none⟩ (.int .i64 (2 * L' % 65536))) := (Fr.refl (fun j => j = p) wc).setCell (fun _ => rfl) _
            have h7 : RDe (wc.setCell ⟨p, 1, none⟩ (.int .i64 (2 * L' % 65536))) p v2 zs n ⟨P', N + 1, ⟨2 * L' % 65536, R, C', pos⟩⟩ ov1 := h6.moved b7 f7 rfl h6.few
            have F7 := F6.trans' f7
            obtain ⟨w7, hw7⟩ : ∃ w7, w7 = wc.setCell ⟨p, 1, none⟩ (.int .i64 (2 * L' % 65536)) := ⟨_, rfl⟩
            rw [← hw7] at h7 F7
            have HW7 := hid hw7
            clear hw7 b7 f7 h6 F6
            go_wp2
            rw [← HW7.out]
            have z3 : w7.cell? ⟨p, 3, none⟩ = some (.int .i64 C') := by rw [h7.blk.cell]; rfl
            have z2 : w7.cell? ⟨p, 2, none⟩ = some (.int .i64 R) := by rw [h7.blk.cell]; rfl
            have zf := h7.blk.thaw
            obtain ⟨y, hy⟩ : ∃ y, y = bitI (bitAt zs pos) := ⟨_, rfl⟩
            have hy01 := bitI_or (bitAt zs pos)
            rw [← hy] at hy01
            have y0 : 0 ≤ y := by omega
            have y1 : y ≤ 1 := by omega
            have HY := hid hy
            have HG : Hid (Calls Try.prog 75 #[.pointer (some ⟨p, 5, none⟩)] w7.drew fun e w' => e = .returned (.int .i64 y) ∧ (∃ ov8, RDe w' p v2 zs n ⟨P', N + 1, ⟨2 * L' % 65536, R, C', pos + 1⟩⟩ ov8) ∧ Fr (fun k => k = p) w7 w') := by
              have h8 := h7.quiet ((Fr.refl (fun _ => False) w7).drew)
              have hfew := h7.few
              simp only at hfew
              refine (lrefBit_any w7.drew p 5 (allBits zs) (fun a b => rdeA v2 (2 * L' % 65536) R C' ((N + 1 : Nat) : Int) (strB (allBits zs)) a b) _ pos ov1 (lens_rde _ _ _ _ _ _) h8.blk (by rw [allBits_length]; omega) (by omega) (by omega)).mono ?_
              rintro e w9 ⟨rfl, ⟨ov9, ho9, b9⟩, f9⟩
              have f10 : Fr (fun k => k = p) w7 w9 := ((Fr.refl (fun k => k = p) w7).drew).trans' f9
              refine ⟨?_, ⟨ov9, h7.moved b9 f10 rfl (show ov9 ≤ pos + 1 by omega)⟩, f10⟩
              rw [allBits_bit, hy]
              cases bitAt zs pos <;> rfl
            have q1 : IntKind.i64.wrap (2 * C') = 2 * C' := by rw [IntKind.wrap_i64]; omega
            have q4 : (2 * C').tmod 65536 = 2 * C' % 65536 := Int.tmod_eq_emod_of_nonneg (by omega)
            have q5 : IntKind.i64.wrap (2 * C' % 65536) = 2 * C' % 65536 := by rw [IntKind.wrap_i64]; omega
            have q6 : IntKind.i64.wrap (2 * C' % 65536 + y) = 2 * C' % 65536 + y := by rw [IntKind.wrap_i64]; omega
            clear hy hy01 h7
            go_region_with (go_at_call 75; refine HG.out.mono ?_; rintro e w8 ⟨rfl, ⟨ov8, h8⟩, f8⟩; have d3 : w8.cell? ⟨p, 3, none⟩ = some (.int .i64 C') := (by rw [h8.blk.cell]; rfl); have d2 : w8.cell? ⟨p, 2, none⟩ = some (.int .i64 R) := (by rw [h8.blk.cell]; rfl); have df := h8.blk.thaw)
            all_goals
              go_wp2
              go_roundg m'
              case rel =>
                have F9 : Fr (fun j => j = p) w8 ((w8.setCell ⟨p, 3, none⟩ (.int .i64 (2 * C' % 65536 + y))).setCell ⟨p, 2, none⟩ (.int .i64 (2 * R))) := ((Fr.refl (fun j => j = p) w8).setCell (fun _ => rfl) _).setCell (fun _ => rfl) _
                refine ⟨dshift (bitAt zs) ⟨L, R, C, pos⟩, HN.out, HMm.out, by omega, by rw [HP.out]; show pos + 1 ≤ _; omega, ⟨ov8, ?_⟩, (F7.trans' f8).trans' F9⟩
                rw [HE2.out, ← HY.out]
                exact h8.moved ((h8.blk.set 3 (.int .i64 (2 * C' % 65536 + y))).set 2 (.int .i64 (2 * R))) F9 rfl h8.few
              case measure => omega
        · have hdd : decide (R ≤ 16384) = false := by simpa using hr
          have HF : Hid ((⟨L, R, C, pos⟩ : DS) = dnorm (bitAt zs) 16 d0) := by
            show _ = _
            rw [← he]
            cases gk with
            | zero => rfl
            | succ m' => rw [dnorm, if_neg hr]
          clear he hm1
          go_wp2
          go_ret
          rw [HE.out, HB.out, ← HF.out]
          exact ⟨rfl, v2, ov1, h4, F4, .inr n2⟩
end Go.Proofs.Ythabklgeopdlhaa
