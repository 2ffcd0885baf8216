/-
  Package arith: the model of chances that both coders embed, in memory: it lies at the first four cells of a block.
-/
import Derived.Test.YthabklgeopdlhaaArithB
import Derived.Test.YthabklgeopdlhaaBitsL
import Derived.Test.YthabklgeopdlhaaLutP
import Derived.Deep.QuietTactic
import Derived.BigQuiet
namespace Go.Proofs.Ythabklgeopdlhaa
open Go.RowKit

theorem i64_bits_and (a b : Nat) (ha : a < 4611686018427387904) (hb : b < 4611686018427387904) : Go.bits .and .i64 (a : Int) (b : Int) = ((a &&& b : Nat) : Int) := by
  have key : (BitVec.ofInt 64 (a : Int) &&& BitVec.ofInt 64 (b : Int)).toNat = a &&& b := by
    rw [BitVec.toNat_and, BitVec.ofInt_natCast, BitVec.ofInt_natCast, BitVec.toNat_ofNat, BitVec.toNat_ofNat, Nat.mod_eq_of_lt (by omega), Nat.mod_eq_of_lt (by omega)]
  have hle : a &&& b ≤ a := Nat.and_le_left
  show IntKind.i64.wrap ((BitVec.ofInt 64 (a : Int) &&& BitVec.ofInt 64 (b : Int)).toNat : Int) = _
  rw [key, IntKind.wrap_i64]
  omega

theorem i64_bits_xor (a b : Nat) (ha : a < 4611686018427387904) (hb : b < 4611686018427387904) : Go.bits .xor .i64 (a : Int) (b : Int) = ((a ^^^ b : Nat) : Int) := by
  have key : (BitVec.ofInt 64 (a : Int) ^^^ BitVec.ofInt 64 (b : Int)).toNat = a ^^^ b := by
    rw [BitVec.toNat_xor, BitVec.ofInt_natCast, BitVec.ofInt_natCast, BitVec.toNat_ofNat, BitVec.toNat_ofNat, Nat.mod_eq_of_lt (by omega), Nat.mod_eq_of_lt (by omega)]
  have hle : a ^^^ b < 2 ^ 62 := Nat.xor_lt_two_pow (by omega) (by omega)
  show IntKind.i64.wrap ((BitVec.ofInt 64 (a : Int) ^^^ BitVec.ofInt 64 (b : Int)).toNat : Int) = _
  rw [key, IntKind.wrap_i64]
  omega

/-- Bit 14, turned. -/
theorem turn14_xor (L : Int) (h0 : 0 ≤ L) (h1 : L < 65536) : Go.bits .xor .i64 L 16384 = turn14 L := by
  obtain ⟨x, rfl⟩ := Int.eq_ofNat_of_zero_le h0
  have e1 := i64_bits_xor x 16384 (by omega) (by decide)
  have e2 : (x ^^^ 16384) / 2 ^ 14 = x / 2 ^ 14 ^^^ 1 := by rw [Nat.xor_div_two_pow]
  have e3 : (x ^^^ 16384) % 2 ^ 14 = x % 2 ^ 14 := by rw [Nat.xor_mod_two_pow]; simp
  have hq : x / 2 ^ 14 < 4 := by omega
  have e4 : x / 2 ^ 14 ^^^ 1 = if x / 2 ^ 14 % 2 = 1 then x / 2 ^ 14 - 1 else x / 2 ^ 14 + 1 := by
    generalize x / 2 ^ 14 = q at hq
    match q, hq with
    | 0, _ => rfl
    | 1, _ => rfl
    | 2, _ => rfl
    | 3, _ => rfl
  rw [show ((16384 : Nat) : Int) = 16384 from rfl] at e1
  rw [e1]
  unfold turn14
  rw [e4] at e2
  simp only [show (2 : Nat) ^ 14 = 16384 from rfl] at e2 e3
  split at e2
  · rw [if_pos (by omega)]; omega
  · rw [if_neg (by omega)]; omega

/-- Bit 15. -/
theorem top_and (L : Int) (h0 : 0 ≤ L) (h1 : L < 65536) : (Go.bits .and .i64 L 32768 != 0) = topB L := by
  obtain ⟨x, rfl⟩ := Int.eq_ofNat_of_zero_le h0
  have e1 := i64_bits_and x 32768 (by omega) (by decide)
  rw [show ((32768 : Nat) : Int) = 32768 from rfl, nat_bit15] at e1
  rw [e1]
  unfold topB
  rw [Bool.eq_iff_iff]
  simp only [bne_iff_ne, ne_eq, decide_eq_true_eq]
  omega

/-- Bit 14. -/
theorem second_and (v : Int) (h0 : 0 ≤ v) (h1 : v ≤ 3) : (Go.bits .and .i64 (v * 16384) 16384 != 0) = decide (v % 2 = 1) := by
  have h4 : v = 0 ∨ v = 1 ∨ v = 2 ∨ v = 3 := by omega
  rcases h4 with rfl | rfl | rfl | rfl <;> decide

theorem differ_xor (L R : Int) (hs : Span L R) : (Go.bits .and .i64 (Go.bits .xor .i64 L (L + R - 1)) 32768 != 0) = decide (differ L R) := by
  unfold Span at hs
  obtain ⟨x, rfl⟩ := Int.eq_ofNat_of_zero_le hs.1
  obtain ⟨y, hy⟩ := Int.eq_ofNat_of_zero_le (show 0 ≤ (x : Int) + R - 1 by omega)
  rw [hy, i64_bits_xor x y (by omega) (by omega)]
  have hlt : x ^^^ y < 2 ^ 16 := Nat.xor_lt_two_pow (by omega) (by omega)
  have e1 := i64_bits_and (x ^^^ y) 32768 (by omega) (by decide)
  rw [show ((32768 : Nat) : Int) = 32768 from rfl, nat_bit15] at e1
  rw [e1]
  have e2 : (x ^^^ y) / 2 ^ 15 = x / 2 ^ 15 ^^^ y / 2 ^ 15 := Nat.xor_div_two_pow
  have hx : x / 2 ^ 15 < 2 := by omega
  have hy2 : y / 2 ^ 15 < 2 := by omega
  have e4 : x / 2 ^ 15 ^^^ y / 2 ^ 15 = (x / 2 ^ 15 + y / 2 ^ 15) % 2 := by
    generalize x / 2 ^ 15 = q at hx
    generalize y / 2 ^ 15 = r at hy2
    match q, hx, r, hy2 with
    | 0, _, 0, _ => rfl
    | 0, _, 1, _ => rfl
    | 1, _, 0, _ => rfl
    | 1, _, 1, _ => rfl
  rw [e4] at e2
  simp only [show (2 : Nat) ^ 15 = 32768 from rfl] at e2
  rw [Bool.eq_iff_iff]
  simp only [bne_iff_ne, ne_eq, decide_eq_true_eq, e2]
  unfold differ
  omega

/-- A block's cells as a function of a model's count, low and range. -/
structure MLens (ch : Value) (G : Int → Int → Int → Array Value) : Prop where
  get0 : ∀ n l s, (G n l s)[0]? = some ch
  get1 : ∀ n l s, (G n l s)[1]? = some (.int .i64 n)
  get2 : ∀ n l s, (G n l s)[2]? = some (.int .i64 l)
  get3 : ∀ n l s, (G n l s)[3]? = some (.int .i64 s)
  set1 : ∀ n l s x, (G n l s).setIfInBounds 1 (.int .i64 x) = G x l s
  set2 : ∀ n l s x, (G n l s).setIfInBounds 2 (.int .i64 x) = G n x s
  set3 : ∀ n l s x, (G n l s).setIfInBounds 3 (.int .i64 x) = G n l x

/-- A model lies at the beginning of block p, its chances P in block g. -/
structure Md (w : World) (p g : Nat) (G : Int → Int → Int → Array Value) (t : TypeId) (n : Nat) (P : List Int) (N : Nat) (L R : Int) : Prop where
  lens : MLens (.slice (some ⟨g, 0, none⟩) n n) G
  blk : Blk w p (G (N : Int) L R) t
  row : Blk w g (intRow P).toArray 3
  len : P.length = n
  apart : p ≠ g

theorem Md.fr {w w' : World} {p g : Nat} {G : Int → Int → Int → Array Value} {t : TypeId} {n : Nat} {P : List Int} {N : Nat} {L R : Int} {S : Nat → Prop} (h : Md w p g G t n P N L R) (f : Fr S w w') (hp : ¬ S p) (hg : ¬ S g) : Md w' p g G t n P N L R :=
  ⟨h.lens, h.blk.fr f hp, h.row.fr f hg, h.len, h.apart⟩
theorem Md.drewN {w : World} {p g : Nat} {G : Int → Int → Int → Array Value} {t : TypeId} {n : Nat} {P : List Int} {N : Nat} {L R : Int} (h : Md w p g G t n P N L R) (m : Nat) : Md (w.drewN m) p g G t n P N L R :=
  h.fr ((Fr.refl (fun _ => False) w).drewN m) (fun h => h) (fun h => h)
theorem Md.c0 {w : World} {p g : Nat} {G : Int → Int → Int → Array Value} {t : TypeId} {n : Nat} {P : List Int} {N : Nat} {L R : Int} (h : Md w p g G t n P N L R) : w.cell? ⟨p, 0, none⟩ = some (.slice (some ⟨g, 0, none⟩) n n) := by rw [h.blk.cell, h.lens.get0]
theorem Md.c1 {w : World} {p g : Nat} {G : Int → Int → Int → Array Value} {t : TypeId} {n : Nat} {P : List Int} {N : Nat} {L R : Int} (h : Md w p g G t n P N L R) : w.cell? ⟨p, 1, none⟩ = some (.int .i64 (N : Int)) := by rw [h.blk.cell, h.lens.get1]
theorem Md.c2 {w : World} {p g : Nat} {G : Int → Int → Int → Array Value} {t : TypeId} {n : Nat} {P : List Int} {N : Nat} {L R : Int} (h : Md w p g G t n P N L R) : w.cell? ⟨p, 2, none⟩ = some (.int .i64 L) := by rw [h.blk.cell, h.lens.get2]
theorem Md.c3 {w : World} {p g : Nat} {G : Int → Int → Int → Array Value} {t : TypeId} {n : Nat} {P : List Int} {N : Nat} {L R : Int} (h : Md w p g G t n P N L R) : w.cell? ⟨p, 3, none⟩ = some (.int .i64 R) := by rw [h.blk.cell, h.lens.get3]
theorem Md.cg {w : World} {p g : Nat} {G : Int → Int → Int → Array Value} {t : TypeId} {n : Nat} {P : List Int} {N : Nat} {L R : Int} (h : Md w p g G t n P N L R) (k : Nat) (hk : k < n) : w.cell? ⟨g, k, none⟩ = some (.int .i64 (P.getD k 0)) := by
  rw [h.row.cell, List.getElem?_toArray, intRow_get P k (by rw [h.len]; exact hk)]

/-- has. -/
theorem mhas_any (w : World) (p g : Nat) (G : Int → Int → Int → Array Value) (t : TypeId) (n : Nat) (P : List Int) (N : Nat) (L R : Int) (c : Int) (h : Md w p g G t n P N L R) (_hn : n ≤ 1000) :
    Calls Try.prog 61 #[.pointer (some ⟨p, 0, none⟩), .int .i64 c] w fun e w' => e = .returned (.bool (hasX n c)) ∧ w' = w := by
  have c0 := h.c0
  unfold hasX
  by_cases hc : 0 ≤ c
  · go_enter Try.func61, Try.ntmps61
    go_wp2
    go_ret
    exact ⟨by simp [hc], rfl⟩
  · have hd : decide (0 ≤ c) = false := by simp; omega
    go_enter Try.func61, Try.ntmps61
    go_wp2
    go_ret
    exact ⟨by simp, rfl⟩

/-- narrow. -/
theorem mnarrow_any (w : World) (p g : Nat) (G : Int → Int → Int → Array Value) (t : TypeId) (n : Nat) (P : List Int) (N : Nat) (L R : Int) (h : Md w p g G t n P N L R) :
    Calls Try.prog 63 #[.pointer (some ⟨p, 0, none⟩)] w fun e w' => e = .returned (.bool (decide (R ≤ 16384))) ∧ w' = w := by
  have c3 := h.c3
  go_enter Try.func63, Try.ntmps63
  go_wp2
  go_ret
  exact ⟨rfl, rfl⟩

/-- part. -/
theorem mpart_any (w : World) (p g : Nat) (G : Int → Int → Int → Array Value) (t : TypeId) (n : Nat) (P : List Int) (N : Nat) (L R : Int) (k : Nat) (h : Md w p g G t n P N L R) (hk : k < n) (_hn : n ≤ 1000) (h0 : 0 ≤ R) (h1 : R ≤ 65536) (p0 : 0 ≤ P.getD k 0) (p1 : P.getD k 0 ≤ 65536) :
    Calls Try.prog 76 #[.pointer (some ⟨p, 0, none⟩), .int .i64 (k : Int)] w fun e w' => e = .returned (.int .i64 (R * P.getD k 0 / 65536)) ∧ ∃ m, w' = w.drewN m := by
  have c0 := h.c0
  have c3 := h.c3
  have cg := h.cg k hk
  have hki : (k : Int) < (n : Int) := by omega
  generalize P.getD k 0 = x at cg p0 p1 ⊢
  have q0 : 0 ≤ R * x := Int.mul_nonneg h0 p0
  have q1 : R * x ≤ 65536 * 65536 := Int.mul_le_mul h1 p1 p0 (by decide)
  go_enter Try.func76, Try.ntmps76
  go_wp2
  go_quiet (fail)
  go_wp2
  go_ret
  exact ⟨rfl, _, rfl⟩

/-- astride. -/
theorem mastride_any (w : World) (p g : Nat) (G : Int → Int → Int → Array Value) (t : TypeId) (n : Nat) (P : List Int) (N : Nat) (L R : Int) (h : Md w p g G t n P N L R) (hs : Span L R) :
    Calls Try.prog 80 #[.pointer (some ⟨p, 0, none⟩)] w fun e w' => e = .returned (.bool (decide (differ L R))) ∧ ∃ m, w' = w.drewN m := by
  have c2 := h.c2
  have c3 := h.c3
  have HD := hid (differ_xor L R hs)
  unfold Span at hs
  obtain ⟨s0, s1, s2⟩ := hs
  go_enter Try.func80, Try.ntmps80
  go_wp2
  go_quiet (fail)
  go_wp2
  go_ret
  exact ⟨ret_bool HD.out, _, rfl⟩

/-- double. -/
theorem mdouble_any (w : World) (p g : Nat) (G : Int → Int → Int → Array Value) (t : TypeId) (n : Nat) (P : List Int) (N : Nat) (L R : Int) (h : Md w p g G t n P N L R) (l0 : 0 ≤ L) (l1 : L ≤ 65536) (r0 : 0 ≤ R) (r1 : R ≤ 65536) :
    Calls Try.prog 81 #[.pointer (some ⟨p, 0, none⟩)] w fun e w' => e = .returned (.tuple #[]) ∧ Md w' p g G t n P N (2 * L % 65536) (2 * R) ∧ Fr (fun j => j = p) w w' := by
  have c2 := h.c2
  have c3 := h.c3
  have hf := h.blk.thaw
  have H := hid h
  clear h
  go_enter Try.func81, Try.ntmps81
  go_wp2
  go_end0
  have h := H.out
  have b := (h.blk.set 2 (.int .i64 (2 * L % 65536))).set 3 (.int .i64 (2 * R))
  rw [h.lens.set2, h.lens.set3] at b
  refine ⟨rfl, ⟨h.lens, ?_, (h.row.setOther (fun e => h.apart e.symm) _).setOther (fun e => h.apart e.symm) _, h.len, h.apart⟩, ((Fr.refl (fun j => j = p) w).setCell (fun _ => rfl) _).setCell (fun _ => rfl) _⟩
  first | exact b | (rw [Int.mul_comm R 2]; exact b)

theorem intRow_set (P : List Int) (k : Nat) (x : Int) : (intRow P).set k (.int .i64 x) = intRow (P.set k x) := by simp [intRow, List.map_set]

theorem Md.store {w : World} {p g : Nat} {G : Int → Int → Int → Array Value} {t : TypeId} {n : Nat} {P : List Int} {N : Nat} {L R : Int} (h : Md w p g G t n P N L R) (k : Nat) (x : Int) : Md (w.setCell ⟨g, k, none⟩ (.int .i64 x)) p g G t n (P.set k x) N L R :=
  ⟨h.lens, h.blk.setOther h.apart _, by
    have := h.row.set k (.int .i64 x)
    rw [List.setIfInBounds_toArray, intRow_set] at this
    exact this, by simpa using h.len, h.apart⟩
theorem Md.set1 {w : World} {p g : Nat} {G : Int → Int → Int → Array Value} {t : TypeId} {n : Nat} {P : List Int} {N : Nat} {L R : Int} (h : Md w p g G t n P N L R) (M : Nat) : Md (w.setCell ⟨p, 1, none⟩ (.int .i64 (M : Int))) p g G t n P M L R :=
  ⟨h.lens, by have := h.blk.set 1 (.int .i64 (M : Int)); rwa [h.lens.set1] at this, h.row.setOther (fun e => h.apart e.symm) _, h.len, h.apart⟩
theorem Md.set2 {w : World} {p g : Nat} {G : Int → Int → Int → Array Value} {t : TypeId} {n : Nat} {P : List Int} {N : Nat} {L R : Int} (h : Md w p g G t n P N L R) (x : Int) : Md (w.setCell ⟨p, 2, none⟩ (.int .i64 x)) p g G t n P N x R :=
  ⟨h.lens, by have := h.blk.set 2 (.int .i64 x); rwa [h.lens.set2] at this, h.row.setOther (fun e => h.apart e.symm) _, h.len, h.apart⟩
theorem Md.set3 {w : World} {p g : Nat} {G : Int → Int → Int → Array Value} {t : TypeId} {n : Nat} {P : List Int} {N : Nat} {L R : Int} (h : Md w p g G t n P N L R) (x : Int) : Md (w.setCell ⟨p, 3, none⟩ (.int .i64 x)) p g G t n P N L x :=
  ⟨h.lens, by have := h.blk.set 3 (.int .i64 x); rwa [h.lens.set3] at this, h.row.setOther (fun e => h.apart e.symm) _, h.len, h.apart⟩

/-- learn, of a 1. -/
theorem mlearn_true (w : World) (p g : Nat) (G : Int → Int → Int → Array Value) (t : TypeId) (n : Nat) (P : List Int) (N : Nat) (L R : Int) (k : Nat) (h : Md w p g G t n P N L R) (hk : k < n) (hn : n ≤ 1000) (hN : N ≤ 1000000000) (hs : Span L R) (p0 : 0 ≤ P.getD k 0) (p1 : P.getD k 0 ≤ 65536) :
    Calls Try.prog 62 #[.pointer (some ⟨p, 0, none⟩), .int .i64 (k : Int), .bool true] w fun e w' => e = .returned (.tuple #[]) ∧ Md w' p g G t n (P.set k (lessC (P.getD k 0))) (N + 1) (L + R * P.getD k 0 / 65536) (R - R * P.getD k 0 / 65536) ∧ Fr (fun j => j = p ∨ j = g) w w' := by
  have c0 := h.c0
  have c1 := h.c1
  have c2 := h.c2
  have c3 := h.c3
  have hf := h.blk.thaw
  have hfg := h.row.thaw
  have cg := h.cg k hk
  have hki : (k : Int) < (n : Int) := by omega
  have hne : ¬ p = g := h.apart
  have hne' : ¬ g = p := fun e => h.apart e.symm
  obtain ⟨s0, s1, s2⟩ := hs
  have HP : Hid (∀ m, Calls Try.prog 76 #[.pointer (some ⟨p, 0, none⟩), .int .i64 (k : Int)] (w.drewN m) fun e w' => e = .returned (.int .i64 (R * P.getD k 0 / 65536)) ∧ ∃ m', w' = (w.drewN m).drewN m') := fun m => mpart_any _ p g G t n P N L R k (h.drewN m) hk hn (by omega) (by omega) p0 p1
  have q0 : 0 ≤ R * P.getD k 0 := Int.mul_nonneg (by omega) p0
  have q1 : R * P.getD k 0 ≤ 65536 * 65536 := Int.mul_le_mul (by omega) p1 p0 (by decide)
  have H := hid h
  clear h
  generalize P.getD k 0 = x at *
  obtain ⟨s, hs⟩ : ∃ s, s = R * x / 65536 := ⟨_, rfl⟩
  rw [← hs] at HP ⊢
  have r0 : 0 ≤ s := by omega
  have r1 : s ≤ 65536 := by omega
  clear hs q0 q1
  go_enter Try.func62, Try.ntmps62
  go_wp2
  go_quiet ((go_at_call 76; exact Calls.quiet_of (HP.out _)))
  go_wp2
  refine wp_region_still_tail 8 (by kernel_rfl) (by kernel_rfl) ?_
  show wpStill Try.prog _ (((w.drewN nq).setCell ⟨p, 2, none⟩ (.int .i64 (L + s))).setCell ⟨p, 3, none⟩ (.int .i64 (R - s))).drew (fun a' => wpList Try.prog _ _ _ a' (((w.drewN nq).setCell ⟨p, 2, none⟩ (.int .i64 (L + s))).setCell ⟨p, 3, none⟩ (.int .i64 (R - s))).drew) _ _
  simp only [List.take_succ_cons, List.take_zero, List.drop_succ_cons, List.drop_zero]
  repeat still_step
  still_call (lless_any _ _)
  repeat still_step
  refine wpStill_nil ?_
  go_wp2
  go_end0
  have h := H.out
  refine ⟨rfl, ?_, ?_⟩
  · have := (((((h.drewN nq).set2 (L + s)).set3 (R - s)).store k (lessC x)).set1 (N + 1)).fr (Fr.refl (fun _ => False) _).drew (fun h => h) (fun h => h)
    exact this
  · exact (((((((Fr.refl (fun j => j = p ∨ j = g) w).drewN nq).setCell (fun _ => .inl rfl) _).setCell (fun _ => .inl rfl) _)).setCell (p := ⟨g, k, none⟩) (fun _ => .inr rfl) _).setCell (p := ⟨p, 1, none⟩) (fun _ => .inl rfl) _).drew

/-- learn, of a 0. -/
theorem mlearn_false (w : World) (p g : Nat) (G : Int → Int → Int → Array Value) (t : TypeId) (n : Nat) (P : List Int) (N : Nat) (L R : Int) (k : Nat) (h : Md w p g G t n P N L R) (hk : k < n) (hn : n ≤ 1000) (hN : N ≤ 1000000000) (hs : Span L R) (p0 : 0 ≤ P.getD k 0) (p1 : P.getD k 0 ≤ 65536) :
    Calls Try.prog 62 #[.pointer (some ⟨p, 0, none⟩), .int .i64 (k : Int), .bool false] w fun e w' => e = .returned (.tuple #[]) ∧ Md w' p g G t n (P.set k (moreC (P.getD k 0))) (N + 1) L (R * P.getD k 0 / 65536) ∧ Fr (fun j => j = p ∨ j = g) w w' := by
  have c0 := h.c0
  have c1 := h.c1
  have c2 := h.c2
  have c3 := h.c3
  have hf := h.blk.thaw
  have hfg := h.row.thaw
  have cg := h.cg k hk
  have hki : (k : Int) < (n : Int) := by omega
  have hne : ¬ p = g := h.apart
  have hne' : ¬ g = p := fun e => h.apart e.symm
  obtain ⟨s0, s1, s2⟩ := hs
  have HP : Hid (∀ m, Calls Try.prog 76 #[.pointer (some ⟨p, 0, none⟩), .int .i64 (k : Int)] (w.drewN m) fun e w' => e = .returned (.int .i64 (R * P.getD k 0 / 65536)) ∧ ∃ m', w' = (w.drewN m).drewN m') := fun m => mpart_any _ p g G t n P N L R k (h.drewN m) hk hn (by omega) (by omega) p0 p1
  have q0 : 0 ≤ R * P.getD k 0 := Int.mul_nonneg (by omega) p0
  have q1 : R * P.getD k 0 ≤ 65536 * 65536 := Int.mul_le_mul (by omega) p1 p0 (by decide)
  have H := hid h
  clear h
  generalize P.getD k 0 = x at *
  obtain ⟨s, hs⟩ : ∃ s, s = R * x / 65536 := ⟨_, rfl⟩
  rw [← hs] at HP ⊢
  have r0 : 0 ≤ s := by omega
  have r1 : s ≤ 65536 := by omega
  clear hs q0 q1
  go_enter Try.func62, Try.ntmps62
  go_wp2
  go_quiet ((go_at_call 76; exact Calls.quiet_of (HP.out _)))
  go_wp2
  refine wp_region_still_tail 8 (by kernel_rfl) (by kernel_rfl) ?_
  show wpStill Try.prog _ ((w.drewN nq).setCell ⟨p, 3, none⟩ (.int .i64 s)).drew (fun a' => wpList Try.prog _ _ _ a' ((w.drewN nq).setCell ⟨p, 3, none⟩ (.int .i64 s)).drew) _ _
  simp only [List.take_succ_cons, List.take_zero, List.drop_succ_cons, List.drop_zero]
  repeat still_step
  still_call (lmore_any _ _)
  repeat still_step
  refine wpStill_nil ?_
  go_wp2
  go_end0
  have h := H.out
  refine ⟨rfl, ?_, ?_⟩
  · have := ((((h.drewN nq).set3 s).store k (moreC x)).set1 (N + 1)).fr (Fr.refl (fun _ => False) _).drew (fun h => h) (fun h => h)
    exact this
  · exact ((((((Fr.refl (fun j => j = p ∨ j = g) w).drewN nq).setCell (fun _ => .inl rfl) _)).setCell (p := ⟨g, k, none⟩) (fun _ => .inr rfl) _).setCell (p := ⟨p, 1, none⟩) (fun _ => .inl rfl) _).drew

/-- learn. -/
theorem mlearn_any (w : World) (p g : Nat) (G : Int → Int → Int → Array Value) (t : TypeId) (n : Nat) (P : List Int) (N : Nat) (L R : Int) (k : Nat) (b : Bool) (h : Md w p g G t n P N L R) (hk : k < n) (hn : n ≤ 1000) (hN : N ≤ 1000000000) (hs : Span L R) (p0 : 0 ≤ P.getD k 0) (p1 : P.getD k 0 ≤ 65536) :
    Calls Try.prog 62 #[.pointer (some ⟨p, 0, none⟩), .int .i64 (k : Int), .bool b] w fun e w' => e = .returned (.tuple #[]) ∧ Md w' p g G t n (P.set k (nextC (P.getD k 0) b)) (N + 1) (if b then L + R * P.getD k 0 / 65536 else L) (if b then R - R * P.getD k 0 / 65536 else R * P.getD k 0 / 65536) ∧ Fr (fun j => j = p ∨ j = g) w w' := by
  cases b
  · exact mlearn_false w p g G t n P N L R k h hk hn hN hs p0 p1
  · exact mlearn_true w p g G t n P N L R k h hk hn hN hs p0 p1

theorem intRow_one (zs : List Int) : ∀ u ∈ intRow zs, u.oneCell' = true := by
  intro u hu
  simp [intRow] at hu
  obtain ⟨z, _, rfl⟩ := hu
  rfl

/-- What copy leaves where all of a new row of numbers is filled. -/
theorem copy_freshI (w : World) (g cap : Nat) (zs : List Int) (hb : Blk w g (intRow zs).toArray 3) (t u : TypeId) :
    ∃ w', (Builtin.copy_ #[22, 22] t #[.slice (some ⟨w.heap.size, 0, none⟩) zs.length zs.length, .slice (some ⟨g, 0, none⟩) zs.length cap]).run Try.prog (w.alloc (.cells (madeCells #[.int .i64 0] zs.length) u)) = .ok (.int .i64 (zs.length : Int)) w' ∧
      Blk w' w.heap.size (intRow zs).toArray u ∧ w'.heap.size = w.heap.size + 1 ∧ Fr (fun _ => False) w w' := by
  have hsz : (Try.prog.info? 3).map (·.size) = some 1 := by
    obtain ⟨i0, hi, _, hz1, _⟩ := info_parts Try.info_int
    rw [hi]; simp [hz1]
  have hlt : ∀ (j : Nat) (v : Value), (intRow zs)[j]? = some v → (w.alloc (.cells (madeCells #[.int .i64 0] zs.length) u)).cell? ((⟨g, 0, none⟩ : Addr).add j) = some v := by
    intro j v hv
    have := (hb.alloc (.cells (madeCells #[.int .i64 0] zs.length) u)).cell j
    have hadd : (⟨g, 0, none⟩ : Addr).add j = ⟨g, j, none⟩ := by unfold Addr.add; split <;> simp_all
    rw [hadd, this, List.getElem?_toArray, hv]
  have := run_copy_row (P := Try.prog) (w.alloc (.cells (madeCells #[.int .i64 0] zs.length) u)) 22 22 t 3 w.heap.size 0 zs.length zs.length ⟨g, 0, none⟩ zs.length cap (madeCells #[.int .i64 0] zs.length) u (intRow zs) Try.underlying22 hsz (heap_alloc_new w _) (by simp [intRow_length]) hlt (by simp [intRow_length, size_madeCells]) (intRow_one zs)
  have e : ((madeCells #[.int .i64 0] zs.length).toList.take 0 ++ intRow zs ++ (madeCells #[.int .i64 0] zs.length).toList.drop (0 + (intRow zs).length)) = intRow zs := by
    simp [toList_madeCells_one, intRow_length]
  rw [e, intRow_length] at this
  refine ⟨_, this, ?_, ?_, ?_⟩
  · exact setRow_heap (w.alloc (.cells (madeCells #[.int .i64 0] zs.length) u)) w.heap.size (madeCells #[.int .i64 0] zs.length) (intRow zs).toArray u (0, 0) (heap_alloc_new w _)
  · simp [World.setRow]
  · exact ((Fr.refl _ w).alloc _).setRow (fun hlt => absurd hlt (by simp)) _

/-- copied. -/
theorem mcopied_any (w : World) (p g : Nat) (G : Int → Int → Int → Array Value) (t : TypeId) (n : Nat) (P : List Int) (N : Nat) (L R : Int) (h : Md w p g G t n P N L R) (hn : n ≤ 1000) :
    Calls Try.prog 50 #[.pointer (some ⟨p, 0, none⟩)] w fun e w' => ∃ q, e = .returned (.slice (some ⟨q, 0, none⟩) n n) ∧ Blk w' q (intRow P).toArray 3 ∧ w.heap.size ≤ q ∧ Fr (fun _ => False) w w' := by
  have c0 := h.c0
  have hl := h.len
  have hmk := run_make_row' (P := Try.prog) 22 3 (.int .i64 0) 8 Try.underlying22 Try.info_int rfl .i64 .i64 n (by omega) (by omega)
  obtain ⟨w1, hrun, b1, b2, b3⟩ := copy_freshI w g n P h.row 3 3
  rw [hl] at hrun
  have hp := h.blk.lt
  have c0' : (w.alloc (.cells (madeCells #[.int .i64 0] n) 3)).cell? ⟨p, 0, none⟩ = some (.slice (some ⟨g, 0, none⟩) n n) := by rw [World.cell?_of_block (w := w) (Below.heap_alloc _ _ _ hp)]; exact c0
  have HB1 := hid b1
  have HB3 := hid b3
  clear b1 b2 b3 h hl
  go_enter Try.func50, Try.ntmps50
  go_wp2
  go_ret
  exact ⟨_, rfl, HB1.out, Nat.le_refl _, HB3.out⟩
end Go.Proofs.Ythabklgeopdlhaa
