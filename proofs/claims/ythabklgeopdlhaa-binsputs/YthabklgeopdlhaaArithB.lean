/-
  Layer 5 by plain functions: a coder's state, and its bytes: no program in sight.
-/
import Derived.Test.YthabklgeopdlhaaArith
import Derived.Test.YthabklgeopdlhaaBits
namespace Go.Proofs.Ythabklgeopdlhaa

/-- What a chance is behind a bit. -/
def nextC (p : Int) (b : Bool) : Int := if b then lessC p else moreC p
/-- Is there such a context? -/
def hasX (n : Nat) (c : Int) : Bool := decide (0 ≤ c) && decide (c < (n : Int))
theorem hasX_true {n : Nat} {c : Int} (h : hasX n c = true) : ∃ k : Nat, k < n ∧ c = (k : Int) := by
  simp [hasX] at h
  exact ⟨c.toNat, by omega, by omega⟩

/-- An encoder's chances, how many bits it has coded, the rest. -/
structure CS where
  P : List Int
  N : Nat
  e : ES
/-- One bit coded. -/
def putX (n : Nat) (s : CS) (c : Int) (b : Bool) : CS :=
  if hasX n c then ⟨s.P.set c.toNat (nextC (s.P.getD c.toNat 0) b), s.N + 1, eput s.e (s.P.getD c.toNat 0) b⟩ else s

/-- A decoder's. -/
structure DX where
  P : List Int
  N : Nat
  d : DS
def getX (B : Nat → Bool) (n : Nat) (s : DX) (c : Int) : DX :=
  if hasX n c then ⟨s.P.set c.toNat (nextC (s.P.getD c.toNat 0) (dbit s.d (s.P.getD c.toNat 0))), s.N + 1, dget B s.d (s.P.getD c.toNat 0)⟩ else s
def getB (n : Nat) (s : DX) (c : Int) : Bool := hasX n c && dbit s.d (s.P.getD c.toNat 0)

/-- How many contexts count. -/
def ctxN (c : Int) : Nat := (min (max c 1) 64).toNat
theorem ctxN_bounds (c : Int) : 1 ≤ ctxN c ∧ ctxN c ≤ 64 ∧ (ctxN c : Int) = min (max c 1) 64 := by unfold ctxN; omega
/-- Chances at first. -/
def evenP (n : Nat) : List Int := List.replicate n 32768
theorem evenP_length (n : Nat) : (evenP n).length = n := by simp [evenP]

def startC (n : Nat) : CS := ⟨evenP n, 0, estart⟩
def startD (B : Nat → Bool) (n : Nat) : DX := ⟨evenP n, 0, dstart B⟩

/-- Chances that may be. -/
def Fair (n : Nat) (P : List Int) : Prop := P.length = n ∧ ∀ i, i < n → Chance (P.getD i 0)
theorem Fair.first (n : Nat) : Fair n (evenP n) := by
  refine ⟨evenP_length n, fun i hi => ?_⟩
  have : (evenP n).getD i 0 = 32768 := by simp [evenP, List.getD, hi]
  rw [this]; exact chance_first
theorem Fair.next {n : Nat} {P : List Int} (h : Fair n P) (k : Nat) (hk : k < n) (b : Bool) : Fair n (P.set k (nextC (P.getD k 0) b)) := by
  refine ⟨by simpa using h.1, fun i hi => ?_⟩
  by_cases e : k = i
  · subst e
    have : (P.set k (nextC (P.getD k 0) b)).getD k 0 = nextC (P.getD k 0) b := by simp [List.getD, h.1, hk]
    rw [this]; exact chance_next (h.2 k hk) b
  · have : (P.set k (nextC (P.getD k 0) b)).getD i 0 = P.getD i 0 := by simp [List.getD, List.getElem?_set_ne e]
    rw [this]; exact h.2 i hi

/-- An encoder between two bits. -/
structure Good (n : Nat) (s : CS) : Prop where
  fair : Fair n s.P
  ready : Ready s.e
  few : s.e.S.length + s.e.k ≤ 9 * s.N

theorem Good.first (n : Nat) : Good n (startC n) := ⟨Fair.first n, ready_start, by simp [startC, estart]⟩
theorem Good.put {n : Nat} {s : CS} (h : Good n s) (c : Int) (b : Bool) : Good n (putX n s c b) := by
  unfold putX
  split
  · rename_i hc
    obtain ⟨k, hk, rfl⟩ := hasX_true hc
    rw [Int.toNat_natCast]
    refine ⟨h.fair.next k hk b, put_ready h.ready (h.fair.2 k hk) b, ?_⟩
    have := put_count h.ready (h.fair.2 k hk) b
    have := h.few
    simp only
    omega
  · exact h

/-- A decoder between two bits. -/
structure DGood (n : Nat) (s : DX) : Prop where
  fair : Fair n s.P
  span : Span s.d.L s.d.R
  wide : 16384 < s.d.R
  c0 : 0 ≤ s.d.C
  c1 : s.d.C < 65536
  pos : s.d.pos ≤ 16 + 9 * s.N

theorem dshift_LR (B : Nat → Bool) (d : DS) : (dshift B d).L = (if differ d.L d.R then 2 * turn14 d.L % 65536 else 2 * d.L % 65536) ∧ (dshift B d).R = 2 * d.R ∧ (dshift B d).pos = d.pos + 1 := by
  unfold dshift
  split <;> exact ⟨rfl, rfl, rfl⟩

theorem turn14_bounds {v : Int} (h0 : 0 ≤ v) (h1 : v < 65536) : 0 ≤ turn14 v ∧ turn14 v < 65536 := by
  unfold turn14
  split <;> omega

theorem dshift_C (B : Nat → Bool) (d : DS) : 0 ≤ (dshift B d).C ∧ (dshift B d).C < 65536 := by
  have hb := bitI_or (B d.pos)
  unfold dshift
  split
  · simp only
    generalize turn14 d.C = x
    omega
  · simp only
    omega

/-- A decoder among its shifts. -/
structure DMid (d : DS) (m : Nat) : Prop where
  span : Span d.L d.R
  c0 : 0 ≤ d.C
  c1 : d.C < 65536
  more : 16384 < d.R * 2 ^ m

theorem DMid.shift {B : Nat → Bool} {d : DS} {m : Nat} (h : DMid d (m + 1)) (hr : d.R ≤ 16384) : DMid (dshift B d) m := by
  obtain ⟨e1, e2, e3⟩ := dshift_LR B d
  obtain ⟨c0, c1⟩ := dshift_C B d
  refine ⟨?_, c0, c1, ?_⟩
  · rw [e1, e2]; exact span_shift h.span hr
  · have := h.more
    rw [e2]
    rw [Int.pow_succ] at this
    rw [show 2 * d.R * 2 ^ m = d.R * (2 ^ m * 2) by rw [Int.mul_comm 2 d.R, Int.mul_assoc, Int.mul_comm 2]]
    exact this

/-- A decoder behind its shifts. -/
structure DEnd (d : DS) (pos : Nat) : Prop where
  span : Span d.L d.R
  wide : 16384 < d.R
  c0 : 0 ≤ d.C
  c1 : d.C < 65536
  pos : d.pos ≤ pos

theorem dnorm_end {B : Nat → Bool} : ∀ (n m : Nat) (d : DS), DMid d m → m ≤ n → DEnd (dnorm B n d) (d.pos + m)
  | 0, m, d, h, hm => by
    obtain rfl : m = 0 := by omega
    have := h.more
    exact ⟨h.span, by simpa [dnorm] using this, h.c0, h.c1, Nat.le_refl _⟩
  | n + 1, m, d, h, hm => by
    rw [dnorm]
    split
    · rename_i hr
      match m, h, hm with
      | 0, h, hm => have := h.more; simp at this; omega
      | m + 1, h, hm =>
        have := dnorm_end (B := B) n m (dshift B d) (h.shift hr) (by omega)
        obtain ⟨e1, e2, e3⟩ := dshift_LR B d
        exact ⟨this.span, this.wide, this.c0, this.c1, by have := this.pos; rw [e3] at this; omega⟩
    · exact ⟨h.span, by omega, h.c0, h.c1, by omega⟩

/-- A decoder's span parted. -/
theorem dpart_mid {n : Nat} {s : DX} (h : DGood n s) {p : Int} (hp : Chance p) (b : Bool) : DMid (dpart s.d p b) 9 := by
  have hR : s.d.R ≤ 65536 := by have := h.span; unfold Span at this; omega
  obtain ⟨s1, s2⟩ := part_bounds h.wide hR hp
  have hs := h.span
  have e2 : ∀ x : Int, 63 ≤ x → 16384 < x * 2 ^ 9 := by
    intro x hx
    have : (63 : Int) * 2 ^ 9 ≤ x * 2 ^ 9 := Int.mul_le_mul_of_nonneg_right hx (by decide)
    have e2 : (63 : Int) * 2 ^ 9 = 32256 := by decide
    omega
  unfold Span at hs
  cases b
  · refine ⟨?_, h.c0, h.c1, e2 _ s1⟩
    unfold Span
    simp only [dpart]
    simp; omega
  · refine ⟨?_, h.c0, h.c1, e2 _ s2⟩
    unfold Span
    simp only [dpart]
    simp; omega

theorem dpart_pos (d : DS) (p : Int) (b : Bool) : (dpart d p b).pos = d.pos := by cases b <;> rfl

theorem DGood.get {B : Nat → Bool} {n : Nat} {s : DX} (h : DGood n s) (c : Int) : DGood n (getX B n s c) := by
  unfold getX
  split
  · rename_i hc
    obtain ⟨k, hk, rfl⟩ := hasX_true hc
    rw [Int.toNat_natCast]
    have hp := h.fair.2 k hk
    have := dnorm_end (B := B) 16 9 _ (dpart_mid h hp (dbit s.d (s.P.getD k 0))) (by decide)
    rw [dpart_pos] at this
    have hpos := h.pos
    refine ⟨h.fair.next k hk _, this.span, this.wide, this.c0, this.c1, ?_⟩
    have := this.pos
    show (dnorm B 16 (dpart s.d (s.P.getD k 0) (dbit s.d (s.P.getD k 0)))).pos ≤ 16 + 9 * (s.N + 1)
    omega
  · exact h

theorem DGood.first (B : Nat → Bool) (n : Nat) : DGood n (startD B n) := by
  have := valI_bounds B 0 16
  refine ⟨Fair.first n, (show Span 0 65536 from ⟨by decide, by decide, by decide⟩), (show (16384 : Int) < 65536 by decide), this.1, this.2, by simp [startD, dstart]⟩

/-- What is put is told. -/
theorem puts_told {B : Nat → Bool} {n : Nat} {s : CS} (h : Good n s) (c : Int) (b : Bool) (hc : hasX n c = true) (hf : Follows B (putX n s c b).e) :
    Follows B s.e ∧ getB n ⟨s.P, s.N, decOf B s.e⟩ c = b ∧ getX B n ⟨s.P, s.N, decOf B s.e⟩ c = ⟨(putX n s c b).P, (putX n s c b).N, decOf B (putX n s c b).e⟩ := by
  obtain ⟨k, hk, rfl⟩ := hasX_true hc
  unfold putX at hf ⊢
  unfold getX getB
  rw [if_pos hc] at hf
  rw [if_pos hc, if_pos hc, hc]
  rw [Int.toNat_natCast] at hf ⊢
  obtain ⟨f1, f2, f3⟩ := put_follow h.ready (h.fair.2 k hk) b hf
  refine ⟨f1, ?_, ?_⟩
  · simpa using f2
  · simp only
    rw [f2, f3]

/-- A decoder of no bytes. -/
def Nought (s : DX) : Prop := s.d.C = 0 ∧ s.d.L = 0
theorem nought_shift {d : DS} (hr : d.R ≤ 16384) (hC : d.C = 0) (hL : d.L = 0) : (dshift (fun _ => false) d).C = 0 ∧ (dshift (fun _ => false) d).L = 0 := by
  have hd : ¬ differ d.L d.R := by unfold differ; omega
  unfold dshift
  rw [if_neg hd]
  simp [hC, hL, bitI]
theorem nought_norm : ∀ (n : Nat) (d : DS), d.C = 0 → d.L = 0 → (dnorm (fun _ => false) n d).C = 0 ∧ (dnorm (fun _ => false) n d).L = 0
  | 0, _, hC, hL => ⟨hC, hL⟩
  | n + 1, d, hC, hL => by
    rw [dnorm]
    split
    · rename_i hr
      obtain ⟨a, b⟩ := nought_shift hr hC hL
      exact nought_norm n _ a b
    · exact ⟨hC, hL⟩
theorem Nought.get {n : Nat} {s : DX} (h : DGood n s) (hz : Nought s) (c : Int) : getB n s c = false ∧ Nought (getX (fun _ => false) n s c) := by
  unfold getB getX
  split
  · rename_i hc
    obtain ⟨k, hk, rfl⟩ := hasX_true hc
    have hR : s.d.R ≤ 65536 := by have := h.span; unfold Span at this; omega
    obtain ⟨s1, s2⟩ := part_bounds h.wide hR (h.fair.2 k hk)
    have hb : dbit s.d (s.P.getD k 0) = false := by
      unfold dbit
      rw [hz.1, hz.2]
      simp
      simp at s1
      omega
    rw [Int.toNat_natCast, hb, hc]
    refine ⟨rfl, ?_⟩
    unfold Nought dget
    simp only
    rw [hb]
    exact nought_norm 16 _ hz.1 hz.2
  · rename_i hc
    simp at hc
    rw [hc]
    exact ⟨rfl, hz⟩
theorem Nought.first (n : Nat) : Nought (startD (fun _ => false) n) := ⟨(show valI (fun _ => false) 0 16 = 0 by decide), rfl⟩

/-- Where bytes end, the noughts at the end left out. -/
def tlen (ys : List Nat) : Nat → Nat
  | 0 => 0
  | k + 1 => if ys.getD k 0 = 0 then tlen ys k else k + 1
theorem tlen_le (ys : List Nat) : ∀ k, tlen ys k ≤ k
  | 0 => Nat.le_refl _
  | k + 1 => by rw [tlen]; split; exact Nat.le_succ_of_le (tlen_le ys k); exact Nat.le_refl _
theorem tlen_zero (ys : List Nat) : ∀ (k i : Nat), tlen ys k ≤ i → i < k → ys.getD i 0 = 0
  | 0, _, _, h => by omega
  | k + 1, i, h0, h1 => by
    rw [tlen] at h0
    split at h0
    · rename_i hz
      by_cases e : i = k
      · subst e; exact hz
      · exact tlen_zero ys k i h0 (by omega)
    · omega
/-- Bytes without the noughts at the end. -/
def trimB (ys : List Nat) : List Nat := ys.take (tlen ys ys.length)
theorem trimB_length (ys : List Nat) : (trimB ys).length = tlen ys ys.length := by
  have := tlen_le ys ys.length
  simp [trimB]; omega
theorem trimB_le (ys : List Nat) : (trimB ys).length ≤ ys.length := by rw [trimB_length]; exact tlen_le _ _
theorem trimB_getD (ys : List Nat) (i : Nat) : (trimB ys).getD i 0 = ys.getD i 0 := by
  unfold trimB
  by_cases h : i < tlen ys ys.length
  · simp [List.getD, List.getElem?_take_of_lt h]
  · have h1 : (ys.take (tlen ys ys.length)).getD i 0 = 0 := by
      rw [List.getD, List.getElem?_eq_none (by simp; omega)]; rfl
    rw [h1]
    by_cases h2 : i < ys.length
    · exact (tlen_zero ys ys.length i (by omega) h2).symm
    · rw [List.getD, List.getElem?_eq_none (by omega)]; rfl
theorem trimB_bit (ys : List Nat) (p : Nat) : bitAt (trimB ys) p = bitAt ys p := by unfold bitAt; rw [trimB_getD]
theorem trimB_small {ys : List Nat} (h : ∀ z ∈ ys, z < 256) : ∀ z ∈ trimB ys, z < 256 := fun z hz => h z (List.mem_of_mem_take hz)

/-- Noughts behind bytes change no bit. -/
theorem bitAt_zeros (ys : List Nat) (m p : Nat) : bitAt (ys ++ List.replicate m 0) p = bitAt ys p := by
  unfold bitAt
  congr 1
  by_cases h : p / 8 < ys.length
  · simp [List.getD, List.getElem?_append_left h]
  · simp only [List.getD, List.getElem?_append_right (show ys.length ≤ p / 8 by omega), List.getElem?_eq_none (show ys.length ≤ p / 8 by omega), List.getElem?_replicate]
    split <;> rfl

theorem getD_drop (S : List Bool) (a j : Nat) : (S.drop a).getD j false = S.getD (a + j) false := by
  simp [List.getD, List.getElem?_drop]

/-- The last bits, that fill no byte. -/
theorem tail_bits {zs : List Nat} {S : List Bool} (h : Packs zs S) : bitsOf (zs.getD (S.length / 8) 0 / 2 ^ (8 - S.length % 8)) (S.length % 8) = S.drop (8 * (S.length / 8)) := by
  apply List.ext_getElem
  · rw [bitsOf_length, List.length_drop]; omega
  · intro j h1 h2
    rw [bitsOf_length] at h1
    have e1 : (bitsOf (zs.getD (S.length / 8) 0 / 2 ^ (8 - S.length % 8)) (S.length % 8))[j]'(by rw [bitsOf_length]; exact h1) = (zs.getD (S.length / 8) 0).testBit (7 - j) := by
      simp only [bitsOf, List.getElem_map, List.getElem_range]
      rw [Nat.testBit_div_two_pow]
      congr 1
      omega
    have e2 := h.bit (8 * (S.length / 8) + j)
    unfold bitAt at e2
    rw [show (8 * (S.length / 8) + j) / 8 = S.length / 8 by omega, show 7 - (8 * (S.length / 8) + j) % 8 = 7 - j by omega] at e2
    rw [e1, e2, ← getD_drop, List.getD, List.getElem?_eq_getElem h2]
    rfl

/-- Whole bytes, and bytes of more bits. -/
theorem Packs.join {zs ys : List Nat} {S l : List Bool} (h : Packs zs S) (k : Packs ys l) (m : Nat) (hm : 8 * m ≤ S.length) : Packs (zs.take m ++ ys) (S.take (8 * m) ++ l) := by
  have hl := h.len
  have kl := k.len
  have lz : (zs.take m).length = m := by simp; omega
  have ls : (S.take (8 * m)).length = 8 * m := by simp; omega
  refine ⟨?_, ?_, fun p => ?_⟩
  · intro z hz
    rcases List.mem_append.1 hz with hz | hz
    · exact h.small z (List.mem_of_mem_take hz)
    · exact k.small z hz
  · rw [List.length_append, List.length_append, lz, ls, kl]; omega
  · by_cases hp : p < 8 * m
    · have e1 : (S.take (8 * m) ++ l).getD p false = S.getD p false := by
        rw [List.getD, List.getElem?_append_left (by omega), List.getElem?_take_of_lt hp]; rfl
      rw [e1, ← h.bit p]
      unfold bitAt
      congr 1
      rw [List.getD, List.getElem?_append_left (by omega), List.getElem?_take_of_lt (by omega)]; rfl
    · have e1 : (S.take (8 * m) ++ l).getD p false = l.getD (p - 8 * m) false := by
        rw [List.getD, List.getElem?_append_right (by omega), ls]; rfl
      rw [e1, ← k.bit]
      unfold bitAt
      rw [List.getD, List.getElem?_append_right (by omega), lz, show (p - 8 * m) / 8 = p / 8 - m by omega, show (p - 8 * m) % 8 = p % 8 by omega]
      rfl

/-- An encoder's bytes. -/
def Tells (zs : List Nat) (e : ES) : Prop := ∃ ys, Packs ys (eend e) ∧ zs = trimB ys
theorem Tells.unique {xs zs : List Nat} {e : ES} (h : Tells xs e) (k : Tells zs e) : xs = zs := by
  obtain ⟨a, ha, rfl⟩ := h
  obtain ⟨b, hb, rfl⟩ := k
  rw [ha.unique hb]
theorem Tells.small {zs : List Nat} {e : ES} (h : Tells zs e) : ∀ z ∈ zs, z < 256 := by
  obtain ⟨a, ha, rfl⟩ := h
  exact trimB_small ha.small
theorem Tells.bit {zs : List Nat} {e : ES} (h : Tells zs e) (p : Nat) : bitAt zs p = (eend e).getD p false := by
  obtain ⟨a, ha, rfl⟩ := h
  rw [trimB_bit, ha.bit]
theorem Tells.len {zs : List Nat} {e : ES} (h : Tells zs e) : zs.length ≤ (e.S.length + e.k + 9) / 8 := by
  obtain ⟨a, ha, rfl⟩ := h
  have := trimB_le a
  have := ha.len
  rw [eend_length] at this
  omega
end Go.Proofs.Ythabklgeopdlhaa
