/-
  Package arith: the decoder in memory, and its calls.
-/
import Derived.Test.YthabklgeopdlhaaArithN
import Derived.Test.YthabklgeopdlhaaBitsR
import Derived.Deep.LoopGhost
import Derived.Deep.RegionWith
namespace Go.Proofs.Ythabklgeopdlhaa
open Go.RowKit

/-- The cells of a decoder. -/
def decA (ch : Value) (N L R : Int) (r : Nat) (C : Int) : Array Value := #[ch, .int .i64 N, .int .i64 L, .int .i64 R, .pointer (some ⟨r, 0, none⟩), .int .i64 C]

/-- A decoder lies in block p, its chances in block g, its reader in block r, the bytes zs in block q. -/
structure De (w : World) (p g r q : Nat) (zs : List Nat) (n : Nat) (s : DX) : Prop where
  blk : Blk w p (decA (.slice (some ⟨g, 0, none⟩) n n) (s.N : Int) s.d.L s.d.R r s.d.C) 86
  row : Blk w g (intRow s.P).toArray 3
  len : s.P.length = n
  gp : g < p
  rg : r < g
  qg : q < g
  rd : ∃ ov, ov ≤ s.d.pos ∧ Rd w r q zs s.d.pos ov

theorem De.fr {w w' : World} {p g r q : Nat} {zs : List Nat} {n : Nat} {s : DX} {S : Nat → Prop} (h : De w p g r q zs n s) (f : Fr S w w') (hp : ¬ S p) (hg : ¬ S g) (hr : ¬ S r) (hq : ¬ S q) : De w' p g r q zs n s :=
  ⟨h.blk.fr f hp, h.row.fr f hg, h.len, h.gp, h.rg, h.qg, by obtain ⟨ov, ho, rd⟩ := h.rd; exact ⟨ov, ho, rd.fr f hr hq⟩⟩
theorem De.quiet {w w' : World} {p g r q : Nat} {zs : List Nat} {n : Nat} {s : DX} (h : De w p g r q zs n s) (f : Fr (fun _ => False) w w') : De w' p g r q zs n s :=
  h.fr f (fun h => h) (fun h => h) (fun h => h) (fun h => h)

theorem lens_decM (ch : Value) (r : Nat) (C : Int) : MLens ch (fun N L R => decA ch N L R r C) :=
  ⟨fun _ _ _ => rfl, fun _ _ _ => rfl, fun _ _ _ => rfl, fun _ _ _ => rfl, fun _ _ _ _ => rfl, fun _ _ _ _ => rfl, fun _ _ _ _ => rfl⟩
theorem De.md {w : World} {p g r q : Nat} {zs : List Nat} {n : Nat} {s : DX} (h : De w p g r q zs n s) : Md w p g (fun N L R => decA (.slice (some ⟨g, 0, none⟩) n n) N L R r s.d.C) 86 n s.P s.N s.d.L s.d.R :=
  ⟨lens_decM _ _ _, h.blk, h.row, h.len, by have := h.gp; omega⟩

/-- What a call on a decoder may turn. -/
def DeS (p g r : Nat) : Nat → Prop := fun k => k = p ∨ k = g ∨ k = r
theorem DeS.outer {w0 w w' : World} {p g r q : Nat} {zs : List Nat} {n : Nat} {s : DX} (h : Fr (DeS p g r) w w') (he : De w p g r q zs n s) (f : Fr (fun _ => False) w0 w) (hr : w0.heap.size ≤ r) : Fr (fun _ => False) w0 w' := by
  refine f.trans h ?_
  intro i hi hk
  have := he.gp
  have := he.rg
  rcases hk with hk | hk | hk <;> omega

/-- A new low, a new number. -/
theorem De.low {w : World} {p g r q : Nat} {zs : List Nat} {n : Nat} {P : List Int} {N : Nat} {L R C : Int} {pos : Nat} (h : De w p g r q zs n ⟨P, N, ⟨L, R, C, pos⟩⟩) (x : Int) : De (w.setCell ⟨p, 2, none⟩ (.int .i64 x)) p g r q zs n ⟨P, N, ⟨x, R, C, pos⟩⟩ := by
  have h1 := h.gp
  have h2 := h.rg
  have h3 := h.qg
  have f := (Fr.refl (fun j => j = p) w).setCell (p := ⟨p, 2, none⟩) (fun _ => rfl) (.int .i64 x)
  obtain ⟨ov, ho, rd⟩ := h.rd
  exact ⟨h.blk.set 2 (.int .i64 x), h.row.fr f (by omega), h.len, h1, h2, h3, ov, ho, rd.fr f (by omega) (by omega)⟩
theorem De.number {w : World} {p g r q : Nat} {zs : List Nat} {n : Nat} {P : List Int} {N : Nat} {L R C : Int} {pos : Nat} (h : De w p g r q zs n ⟨P, N, ⟨L, R, C, pos⟩⟩) (x : Int) : De (w.setCell ⟨p, 5, none⟩ (.int .i64 x)) p g r q zs n ⟨P, N, ⟨L, R, x, pos⟩⟩ := by
  have h1 := h.gp
  have h2 := h.rg
  have h3 := h.qg
  have f := (Fr.refl (fun j => j = p) w).setCell (p := ⟨p, 5, none⟩) (fun _ => rfl) (.int .i64 x)
  obtain ⟨ov, ho, rd⟩ := h.rd
  exact ⟨h.blk.set 5 (.int .i64 x), h.row.fr f (by omega), h.len, h1, h2, h3, ov, ho, rd.fr f (by omega) (by omega)⟩

theorem ddouble_any (w : World) (p g r q : Nat) (zs : List Nat) (n : Nat) (P : List Int) (N : Nat) (L R C : Int) (pos : Nat) (h : De w p g r q zs n ⟨P, N, ⟨L, R, C, pos⟩⟩) (l0 : 0 ≤ L) (l1 : L ≤ 65536) (r0 : 0 ≤ R) (r1 : R ≤ 65536) :
    Calls Try.prog 81 #[.pointer (some ⟨p, 0, none⟩)] w fun e w' => e = .returned (.tuple #[]) ∧ De w' p g r q zs n ⟨P, N, ⟨2 * L % 65536, 2 * R, C, pos⟩⟩ ∧ Fr (DeS p g r) w w' := by
  refine (mdouble_any w p g _ _ n P N L R h.md l0 l1 r0 r1).mono ?_
  rintro e w1 ⟨rfl, m, f⟩
  have h1 := h.gp
  have h2 := h.rg
  have h3 := h.qg
  obtain ⟨ov, ho, rd⟩ := h.rd
  exact ⟨rfl, ⟨m.blk, m.row, m.len, h1, h2, h3, ov, ho, rd.fr f (by omega) (by omega)⟩, f.mono (fun _ _ h => .inl h)⟩

theorem rget_one (w : World) (r q : Nat) (zs : List Nat) (pos ov : Nat) (h : Rd w r q zs pos ov) (hz : zs.length ≤ 1000000000) (hp : pos ≤ 1000000000) (ho : ov ≤ 1000000000) :
    Calls Try.prog 52 #[.pointer (some ⟨r, 0, none⟩), .int .i64 1] w fun e w' => e = .returned (.int .u64 (bitI (bitAt zs pos))) ∧ (∃ ov', ov' ≤ ov + 1 ∧ Rd w' r q zs (pos + 1) ov') ∧ Fr (fun k => k = r) w w' := by
  refine (rget_any w r q zs pos ov 1 h (by omega) (by omega) (by omega)).mono ?_
  rintro e w1 ⟨rfl, rd, f⟩
  have e1 : (max 0 (min (1 : Int) 64)).toNat = 1 := by decide
  rw [e1] at rd ⊢
  have e2 : ((valOf (readsOf (bitAt zs) pos 1) : Nat) : Int) = bitI (bitAt zs pos) := by
    simp [readsOf, valOf, bitI]
    cases bitAt zs pos <;> rfl
  rw [e2]
  have := past_le pos 1 (8 * zs.length)
  exact ⟨rfl, ⟨_, by omega, rd⟩, f⟩

set_option maxHeartbeats 2000000 in
/-- shift. -/
theorem dshift_any (w : World) (p g r q : Nat) (zs : List Nat) (n : Nat) (P : List Int) (N : Nat) (L R C : Int) (pos : Nat) (h : De w p g r q zs n ⟨P, N, ⟨L, R, C, pos⟩⟩) (hz : zs.length ≤ 1000000000) (hp : pos ≤ 100000000) (hs : Span L R) (hr : R ≤ 16384) (c0 : 0 ≤ C) (c1 : C < 65536) :
    Calls Try.prog 77 #[.pointer (some ⟨p, 0, none⟩)] w fun e w' => e = .returned (.tuple #[]) ∧ De w' p g r q zs n ⟨P, N, dshift (bitAt zs) ⟨L, R, C, pos⟩⟩ ∧ Fr (DeS p g r) w w' := by
  have hL0 : 0 ≤ L := hs.1
  have hR0 : 0 ≤ R := by have := hs.2; omega
  have hL1 : L < 65536 := by have := hs.2; omega
  have HT := hid (turn14_xor L hL0 hL1)
  have HU := hid (turn14_xor C c0 c1)
  obtain ⟨t0, t1⟩ := turn14_bounds hL0 hL1
  obtain ⟨u0, u1⟩ := turn14_bounds c0 c1
  go_enter Try.func77, Try.ntmps77
  go_wp2_with fail
  refine (mastride_any w p g _ _ n P N L R h.md hs).mono ?_
  rintro e w1 ⟨rfl, m, rfl⟩
  have h1 := h.quiet ((Fr.refl (fun _ => False) w).drewN m)
  have F1 : Fr (DeS p g r) w (w.drewN m) := (Fr.refl _ w).drewN m
  generalize w.drewN m = w1 at h1 F1
  clear h
  have c2 := h1.md.c2
  have hf := h1.blk.thaw
  have c5 : w1.cell? ⟨p, 5, none⟩ = some (.int .i64 C) := by rw [h1.blk.cell]; rfl
  by_cases hd : differ L R
  · have hdd : decide (differ L R) = true := by simpa using hd
    have HE : Hid (dshift (bitAt zs) ⟨L, R, C, pos⟩ = ⟨2 * turn14 L % 65536, 2 * R, 2 * turn14 C % 65536 + bitI (bitAt zs pos), pos + 1⟩) := if_pos hd
    have H := hid h1
    clear h1
    go_wp2_with fail
    rw [HT.out, HU.out]
    refine (ddouble_any _ p g r q zs n P N (turn14 L) R (turn14 C) pos ((H.out.low (turn14 L)).number (turn14 C)) (by omega) (by omega) (by omega) (by omega)).mono ?_
    rintro e w2 ⟨rfl, h2, f2⟩
    have F2 : Fr (DeS p g r) w w2 := ((F1.setCell (p := ⟨p, 2, none⟩) (fun _ => .inl rfl) _).setCell (p := ⟨p, 5, none⟩) (fun _ => .inl rfl) _).trans' f2
    clear H F1 f2 c2 hf c5
    generalize turn14 C = D at *
    have c5 : w2.cell? ⟨p, 5, none⟩ = some (.int .i64 (D)) := by rw [h2.blk.cell]; rfl
    have c4 : w2.cell? ⟨p, 4, none⟩ = some (.pointer (some ⟨r, 0, none⟩)) := by rw [h2.blk.cell]; rfl
    have hf := h2.blk.thaw
    have hgp := h2.gp
    have hrg := h2.rg
    have hqg := h2.qg
    have hpl := h2.blk.lt
    obtain ⟨x, hx⟩ : ∃ x, x = bitI (bitAt zs pos) := ⟨_, rfl⟩
    have hx01 := bitI_or (bitAt zs pos)
    rw [← hx] at hx01
    have x0 : 0 ≤ x := by omega
    have x1 : x ≤ 1 := by omega
    have HX := hid hx
    have HG : Hid (Calls Try.prog 52 #[.pointer (some ⟨r, 0, none⟩), .int .i64 1] w2.drew fun e w' => e = .returned (.int .u64 x) ∧ De w' p g r q zs n ⟨P, N, ⟨2 * turn14 L % 65536, 2 * R, D, pos + 1⟩⟩ ∧ Fr (fun k => k = r) w2 w') := by
      obtain ⟨ov, ho, rd⟩ := h2.rd
      simp only at ho rd
      rw [hx]
      refine (rget_one w2.drew r q zs pos ov (rd.fr ((Fr.refl (fun _ => False) w2).drew) (fun h => h) (fun h => h)) hz (by omega) (by omega)).mono ?_
      rintro e w3 ⟨rfl, ⟨ov3, ho3, rd3⟩, f3⟩
      have f4 : Fr (fun k => k = r) w2 w3 := ((Fr.refl (fun k => k = r) w2).drew).trans' f3
      exact ⟨rfl, ⟨h2.blk.fr f4 (by omega), h2.row.fr f4 (by omega), h2.len, hgp, hrg, hqg, ov3, (show ov3 ≤ pos + 1 by omega), rd3⟩, f4⟩
    have q1 : IntKind.i64.wrap (2 * D) = 2 * D := by rw [IntKind.wrap_i64]; omega
    have q2 : IntKind.i64.wrap x = x := by rw [IntKind.wrap_i64]; omega
    have q3 : IntKind.i64.wrap (2 * D + x) = 2 * D + x := by rw [IntKind.wrap_i64]; omega
    have q4 : (2 * D + x).tmod 65536 = (2 * D + x) % 65536 := Int.tmod_eq_emod_of_nonneg (by omega)
    have q5 : IntKind.i64.wrap ((2 * D + x) % 65536) = (2 * D + x) % 65536 := by rw [IntKind.wrap_i64]; omega
    clear hx hx01 h2
    go_wp2
    go_region_with (go_at_call 52; refine HG.out.mono ?_; rintro e w3 ⟨rfl, h3, f3⟩; have d5 : w3.cell? ⟨p, 5, none⟩ = some (.int .i64 (D)) := (by rw [h3.blk.cell]; rfl); have df := h3.blk.thaw)
    all_goals
      go_wp2
      go_end0
      rw [HE.out, ← HX.out]
      have h4 := h3.number (2 * D % 65536 + x)
      have e0 : (2 * D + x) % 65536 = 2 * D % 65536 + x := by omega
      rw [← e0] at h4 ⊢
      exact ⟨rfl, h4, (F2.trans f3 (fun _ _ h => .inr (.inr h))).setCell (fun _ => .inl rfl) _⟩
  · have hdd : decide (differ L R) = false := by simpa using hd
    have HE : Hid (dshift (bitAt zs) ⟨L, R, C, pos⟩ = ⟨2 * L % 65536, 2 * R, 2 * C % 65536 + bitI (bitAt zs pos), pos + 1⟩) := if_neg hd
    go_wp2_with fail
    refine (ddouble_any _ p g r q zs n P N L R C pos h1 (by omega) (by omega) (by omega) (by omega)).mono ?_
    rintro e w2 ⟨rfl, h2, f2⟩
    have F2 : Fr (DeS p g r) w w2 := F1.trans' f2
    clear h1 F1 f2 c2 hf c5
    have c5 : w2.cell? ⟨p, 5, none⟩ = some (.int .i64 (C)) := by rw [h2.blk.cell]; rfl
    have c4 : w2.cell? ⟨p, 4, none⟩ = some (.pointer (some ⟨r, 0, none⟩)) := by rw [h2.blk.cell]; rfl
    have hf := h2.blk.thaw
    have hgp := h2.gp
    have hrg := h2.rg
    have hqg := h2.qg
    have hpl := h2.blk.lt
    obtain ⟨x, hx⟩ : ∃ x, x = bitI (bitAt zs pos) := ⟨_, rfl⟩
    have hx01 := bitI_or (bitAt zs pos)
    rw [← hx] at hx01
    have x0 : 0 ≤ x := by omega
    have x1 : x ≤ 1 := by omega
    have HX := hid hx
    have HG : Hid (Calls Try.prog 52 #[.pointer (some ⟨r, 0, none⟩), .int .i64 1] w2.drew fun e w' => e = .returned (.int .u64 x) ∧ De w' p g r q zs n ⟨P, N, ⟨2 * L % 65536, 2 * R, C, pos + 1⟩⟩ ∧ Fr (fun k => k = r) w2 w') := by
      obtain ⟨ov, ho, rd⟩ := h2.rd
      simp only at ho rd
      rw [hx]
      refine (rget_one w2.drew r q zs pos ov (rd.fr ((Fr.refl (fun _ => False) w2).drew) (fun h => h) (fun h => h)) hz (by omega) (by omega)).mono ?_
      rintro e w3 ⟨rfl, ⟨ov3, ho3, rd3⟩, f3⟩
      have f4 : Fr (fun k => k = r) w2 w3 := ((Fr.refl (fun k => k = r) w2).drew).trans' f3
      exact ⟨rfl, ⟨h2.blk.fr f4 (by omega), h2.row.fr f4 (by omega), h2.len, hgp, hrg, hqg, ov3, (show ov3 ≤ pos + 1 by omega), rd3⟩, f4⟩
    have q1 : IntKind.i64.wrap (2 * C) = 2 * C := by rw [IntKind.wrap_i64]; omega
    have q2 : IntKind.i64.wrap x = x := by rw [IntKind.wrap_i64]; omega
    have q3 : IntKind.i64.wrap (2 * C + x) = 2 * C + x := by rw [IntKind.wrap_i64]; omega
    have q4 : (2 * C + x).tmod 65536 = (2 * C + x) % 65536 := Int.tmod_eq_emod_of_nonneg (by omega)
    have q5 : IntKind.i64.wrap ((2 * C + x) % 65536) = (2 * C + x) % 65536 := by rw [IntKind.wrap_i64]; omega
    clear hx hx01 h2
    go_wp2
    go_region_with (go_at_call 52; refine HG.out.mono ?_; rintro e w3 ⟨rfl, h3, f3⟩; have d5 : w3.cell? ⟨p, 5, none⟩ = some (.int .i64 (C)) := (by rw [h3.blk.cell]; rfl); have df := h3.blk.thaw)
    all_goals
      go_wp2
      go_end0
      rw [HE.out, ← HX.out]
      have h4 := h3.number (2 * C % 65536 + x)
      have e0 : (2 * C + x) % 65536 = 2 * C % 65536 + x := by omega
      rw [← e0] at h4 ⊢
      exact ⟨rfl, h4, (F2.trans f3 (fun _ _ h => .inr (.inr h))).setCell (fun _ => .inl rfl) _⟩

/-- NewDecoder. -/
theorem newDec_any (w : World) (v : Value) (zs : List Nat) (c : Int) (h : Reads w v (rowOf zs)) (hn : zs.length ≤ 1000000000) (hs : ∀ z ∈ zs, z < 256) :
    Calls Try.prog 22 #[v, .int .i64 c] w fun e w' => ∃ p g r q, e = .returned (.pointer (some ⟨p, 0, none⟩)) ∧ De w' p g r q zs (ctxN c) (startD (bitAt zs) (ctxN c)) ∧ w.heap.size ≤ r ∧ w.heap.size ≤ q ∧ Fr (fun _ => False) w w' := by
  have HR := hid h
  clear h
  have e0 : (max 0 (min (16 : Int) 64)).toNat = 16 := by decide
  have hv : ∀ m, ((valOf (readsOf (bitAt zs) 0 m) : Nat) : Int) = valI (bitAt zs) 0 m := by
    intro m
    induction m with
    | zero => rfl
    | succ m ih =>
      rw [readsOf_succ, valOf_snoc, valI, ← ih]
      have : (((bitAt zs (0 + m)).toNat : Nat) : Int) = bitI (bitAt zs (0 + m)) := by cases bitAt zs (0 + m) <;> rfl
      rw [← this]
      omega
  have HV := hid (hv 16)
  have hb := valI_bounds (bitAt zs) 0 16
  rw [show (2 : Int) ^ 16 = 65536 from rfl] at hb
  obtain ⟨x, hx⟩ : ∃ x, x = valI (bitAt zs) 0 16 := ⟨_, rfl⟩
  rw [← hx] at hb HV
  have HX := hid hx
  clear hv hx
  obtain ⟨x0, x1⟩ := hb
  go_enter Try.func22, Try.ntmps22
  go_wp2_with fail
  refine (new_any w v zs HR.out (by omega) hs).mono ?_
  rintro e w1 ⟨r, q, rfl, rd1, hr, hq, f1⟩
  go_wp2_with fail
  refine (newModel_any w1 c).mono ?_
  rintro e w2 ⟨g, rfl, b2, hg, f2⟩
  have rd2 := rd1.fr f2 (fun h => h) (fun h => h)
  have hrg : r < g := Nat.lt_of_lt_of_le rd1.blk.lt hg
  have hqg : q < g := Nat.lt_of_lt_of_le rd1.row.lt hg
  have F2 := f1.trans' f2
  clear rd1 f1 f2
  go_wp2_with fail
  refine (rget_any w2 r q zs 0 0 16 rd2 (by omega) (by omega) (by omega)).mono ?_
  rintro e w3 ⟨rfl, rd3, f3⟩
  rw [e0] at rd3 ⊢
  rw [HV.out]
  have b3 := b2.fr f3 (by omega)
  have F3 := F2.trans f3 (by intro i hi e; omega)
  clear b2 rd2 F2 f3
  go_wp2
  go_ret
  have hpa := past_le 0 16 (8 * zs.length)
  refine ⟨w3.heap.size, g, r, q, rfl, ⟨?_, b3.alloc _, evenP_length _, b3.lt, hrg, hqg, _, ?_, rd3.fr ((Fr.refl (fun _ => False) w3).alloc _) (fun h => h) (fun h => h)⟩, hr, hq, F3.alloc _⟩
  · show Blk _ _ (decA _ 0 0 65536 r (valI (bitAt zs) 0 16)) _
    rw [← HX.out]
    exact Blk.new w3 _ _
  · show 0 + past 0 16 (8 * zs.length) ≤ 16
    omega

/-- Count. -/
theorem dcount_any (w : World) (p g r q : Nat) (zs : List Nat) (n : Nat) (s : DX) (h : De w p g r q zs n s) :
    Calls Try.prog 28 #[.pointer (some ⟨p, 0, none⟩)] w fun e w' => e = .returned (.int .i64 (s.N : Int)) ∧ w' = w := by
  have c1 := h.md.c1
  go_enter Try.func28, Try.ntmps28
  go_wp2
  go_ret
  exact ⟨rfl, rfl⟩

/-- Chances. -/
theorem dchances_any (w : World) (p g r q : Nat) (zs : List Nat) (n : Nat) (s : DX) (h : De w p g r q zs n s) (hn : n ≤ 64) :
    Calls Try.prog 29 #[.pointer (some ⟨p, 0, none⟩)] w fun e w' => ∃ q, e = .returned (.slice (some ⟨q, 0, none⟩) n n) ∧ Blk w' q (intRow s.P).toArray 3 ∧ w.heap.size ≤ q ∧ Fr (fun _ => False) w w' := by
  go_enter Try.func29, Try.ntmps29
  go_wp2_with fail
  refine (mcopied_any w p g _ _ n _ _ _ _ h.md (by omega)).mono ?_
  rintro e w1 ⟨q, rfl, b1, hq, f1⟩
  go_wp2
  go_ret
  exact ⟨q, rfl, b1, hq, f1⟩

/-- A nil decoder. -/
theorem dget_nil (c : Int) (w : World) : Calls Try.prog 55 #[.pointer none, .int .i64 c] w fun e w' => e = .returned (.bool false) ∧ w' = w := by
  go_enter Try.func55, Try.ntmps55
  go_wp2
  go_ret
  exact ⟨rfl, rfl⟩
theorem dchances_nil (w : World) : Calls Try.prog 29 #[.pointer none] w fun e w' => e = .returned (.slice none 0 0) ∧ w' = w := by
  go_enter Try.func29, Try.ntmps29
  go_wp2
  go_ret
  exact ⟨rfl, rfl⟩
theorem dcount_nil (w : World) : Calls Try.prog 28 #[.pointer none] w fun e w' => e = .returned (.int .i64 0) ∧ w' = w := by
  go_enter Try.func28, Try.ntmps28
  go_wp2
  go_ret
  exact ⟨rfl, rfl⟩

/-- Get. -/
theorem dget_any (w : World) (p g r q : Nat) (zs : List Nat) (n : Nat) (s : DX) (c : Int) (h : De w p g r q zs n s) (hn : n ≤ 64) (hz : zs.length ≤ 1000000000) (hN : s.N ≤ 1000000) (hG : DGood n s) :
    Calls Try.prog 55 #[.pointer (some ⟨p, 0, none⟩), .int .i64 c] w fun e w' => e = .returned (.bool (getB n s c)) ∧ De w' p g r q zs n (getX (bitAt zs) n s c) ∧ Fr (DeS p g r) w w' := by
  have hG' := hG
  obtain ⟨P, N, d⟩ := s
  obtain ⟨L, R, C, pos⟩ := d
  obtain ⟨fair, hspan, hwide, hC0, hC1, hpos⟩ := hG'
  simp only at hN fair hspan hwide hC0 hC1 hpos
  cases hc : hasX n c with
  | false =>
    have HE : Hid (getX (bitAt zs) n ⟨P, N, ⟨L, R, C, pos⟩⟩ c = ⟨P, N, ⟨L, R, C, pos⟩⟩) := by show _ = _; unfold getX; rw [hc]; rfl
    have HB : Hid (getB n ⟨P, N, ⟨L, R, C, pos⟩⟩ c = false) := by show _ = _; unfold getB; rw [hc]; rfl
    go_enter Try.func55, Try.ntmps55
    go_wp2_with fail
    refine (mhas_any w p g _ _ n P N L R c h.md (by omega)).mono ?_
    rintro e w1 ⟨rfl, rfl⟩
    rw [hc]
    go_wp2
    go_ret
    rw [HE.out, HB.out]
    exact ⟨rfl, h, Fr.refl _ _⟩
  | true =>
    obtain ⟨j, hj, rfl⟩ := hasX_true hc
    have hch := fair.2 j hj
    have hch' := hch
    unfold Chance at hch'
    have s0 : 0 ≤ L := hspan.1
    have s1 : 0 ≤ R := by have := hspan.2; omega
    have s2 : R ≤ 65536 := by have := hspan.2; omega
    have s3 : L ≤ 65536 := by have := hspan.2; omega
    have hpm := dpart_mid (s := ⟨P, N, ⟨L, R, C, pos⟩⟩) hG hch
    obtain ⟨x, hx⟩ : ∃ x, x = P.getD j 0 := ⟨_, rfl⟩
    rw [← hx] at hch' hpm
    obtain ⟨sp, hsp⟩ : ∃ sp, sp = R * x / 65536 := ⟨_, rfl⟩
    obtain ⟨b, hb⟩ : ∃ b, b = decide (sp ≤ C - L) := ⟨_, rfl⟩
    have HBi : Hid (dbit ⟨L, R, C, pos⟩ x = b) := by show _ = _; unfold dbit; rw [hb, hsp]
    have HB : Hid (getB n ⟨P, N, ⟨L, R, C, pos⟩⟩ (j : Int) = b) := by
      show _ = _; unfold getB; rw [hc, Int.toNat_natCast, ← hx]; simp only [Bool.true_and]; exact HBi.out
    have HE : Hid (getX (bitAt zs) n ⟨P, N, ⟨L, R, C, pos⟩⟩ (j : Int) = ⟨P.set j (nextC x b), N + 1, dnorm (bitAt zs) 16 (dpart ⟨L, R, C, pos⟩ x b)⟩) := by
      show _ = _
      unfold getX
      rw [hc, if_pos rfl, Int.toNat_natCast, ← hx]
      simp only
      rw [HBi.out]
      unfold dget
      rw [HBi.out]
    have pm := hpm b
    have pp := dpart_pos ⟨L, R, C, pos⟩ x b
    have pC : (dpart ⟨L, R, C, pos⟩ x b).C = C := by cases b <;> rfl
    have pL : (dpart ⟨L, R, C, pos⟩ x b).L = if b then L + R * x / 65536 else L := by cases b <;> rfl
    have pR : (dpart ⟨L, R, C, pos⟩ x b).R = if b then R - R * x / 65536 else R * x / 65536 := by cases b <;> rfl
    have HP : Hid (∀ m, Calls Try.prog 76 #[.pointer (some ⟨p, 0, none⟩), .int .i64 (j : Int)] (w.drewN m) fun e w' => e = .returned (.int .i64 sp) ∧ ∃ m', w' = (w.drewN m).drewN m') := by
      show ∀ m, _
      intro m
      rw [hsp, hx]
      exact mpart_any _ p g _ _ n P N L R j (h.md.drewN m) hj (by omega) s1 s2 (by omega) (by omega)
    have c2 := h.md.c2
    have c5 : w.cell? ⟨p, 5, none⟩ = some (.int .i64 C) := by rw [h.blk.cell]; rfl
    have HBB := hid hb
    have HX := hid hx
    have HSP := hid hsp
    have h0 := h
    clear hb hx hsp
    go_enter Try.func55, Try.ntmps55
    go_wp2_with fail
    refine (mhas_any w p g _ _ n P N L R (j : Int) h.md (by omega)).mono ?_
    rintro e w1 ⟨rfl, rfl⟩
    rw [hc]
    go_wp2
    go_quiet ((go_at_call 76; exact Calls.quiet_of (HP.out _)))
    have h1 := h.quiet ((Fr.refl (fun _ => False) w1).drewN nq)
    have F1 : Fr (DeS p g r) w1 (w1.drewN nq) := (Fr.refl _ w1).drewN nq
    generalize w1.drewN nq = w2 at h1 F1
    rw [← HBB.out]
    clear h h0 c2 c5 HP
    go_wp2_with fail
    refine (mlearn_any w2 p g _ _ n P N L R j b h1.md hj (by omega) (by omega) hspan (by rw [← HX.out]; omega) (by rw [← HX.out]; omega)).mono ?_
    rintro e w3 ⟨rfl, m3, f3⟩
    rw [← HX.out, ← pL, ← pR] at m3
    have hgp := h1.gp
    have hrg := h1.rg
    have hqg := h1.qg
    have h3 : De w3 p g r q zs n ⟨P.set j (nextC x b), N + 1, dpart ⟨L, R, C, pos⟩ x b⟩ := by
      obtain ⟨ov, ho, rd⟩ := h1.rd
      refine ⟨?_, m3.row, m3.len, hgp, hrg, hqg, ov, by rw [pp]; exact ho, by rw [pp]; exact rd.fr f3 (by omega) (by omega)⟩
      show Blk w3 p (decA _ _ (dpart ⟨L, R, C, pos⟩ x b).L (dpart ⟨L, R, C, pos⟩ x b).R r (dpart ⟨L, R, C, pos⟩ x b).C) _
      rw [pC]
      exact m3.blk
    have F3 : Fr (DeS p g r) w1 w3 := F1.trans f3 (fun _ _ h => by rcases h with h | h; exact .inl h; exact .inr (.inl h))
    have p9 : (dpart ⟨L, R, C, pos⟩ x b).pos ≤ 10000000 := by rw [pp]; omega
    generalize dpart ⟨L, R, C, pos⟩ x b = d0 at HE pm h3 p9
    clear m3 f3 F1 h1 pp pC pL pR hpm hspan hwide
    generalize P.set j (nextC x b) = P' at HE h3
    go_wp2_with fail
    go_loopg [] 16 (fun m wr => ∃ d1 : DS, dnorm (bitAt zs) m d1 = dnorm (bitAt zs) 16 d0 ∧ DMid d1 m ∧ m ≤ 16 ∧ d1.pos ≤ 10000000 + (16 - m) ∧ De wr p g r q zs n ⟨P', N + 1, d1⟩ ∧ Fr (DeS p g r) w1 wr)
    case atStart =>
      refine ⟨d0, rfl, ⟨pm.span, pm.c0, pm.c1, ?_⟩, Nat.le_refl _, by omega, h3, F3⟩
      have := pm.more
      have e9 : d0.R * 2 ^ 16 = d0.R * 2 ^ 9 * 128 := by rw [Int.mul_assoc]; rfl
      rw [e9]
      omega
    case round =>
      clear h3 F3 pm p9
      obtain ⟨d1, he, hm1, hm, hp1, h4, F4⟩ := hrel
      by_cases hr : d1.R ≤ 16384
      · obtain ⟨m', rfl⟩ : ∃ m', gk = m' + 1 := by
          cases gk with
          | zero => have := hm1.more; simp at this; omega
          | succ m' => exact ⟨m', rfl⟩
        have hdd : decide (d1.R ≤ 16384) = true := by simpa using hr
        go_wp2_with fail
        refine (mnarrow_any _ p g _ _ n _ _ _ _ h4.md).mono ?_
        rintro e w5 ⟨rfl, rfl⟩
        simp only [hdd]
        go_wp2_with fail
        refine (dshift_any _ p g r q zs n P' (N + 1) d1.L d1.R d1.C d1.pos h4 hz (by omega) hm1.span hr hm1.c0 hm1.c1).mono ?_
        rintro e w6 ⟨rfl, h6, f6⟩
        go_wp2
        go_roundg m'
        case rel =>
          refine ⟨dshift (bitAt zs) d1, ?_, hm1.shift hr, by omega, ?_, h6, F4.trans' f6⟩
          · rw [← he, dnorm, if_pos hr]
          · rw [(dshift_LR (bitAt zs) d1).2.2]; omega
        case measure => omega
      · have hdd : decide (d1.R ≤ 16384) = false := by simpa using hr
        have hfin : d1 = dnorm (bitAt zs) 16 d0 := by
          rw [← he]
          cases gk with
          | zero => rfl
          | succ m' => rw [dnorm, if_neg hr]
        go_wp2_with fail
        refine (mnarrow_any _ p g _ _ n _ _ _ _ h4.md).mono ?_
        rintro e w5 ⟨rfl, rfl⟩
        simp only [hdd]
        go_wp2
        go_ret
        rw [HE.out, HB.out, ← hfin]
        exact ⟨rfl, h4, F4⟩
end Go.Proofs.Ythabklgeopdlhaa
