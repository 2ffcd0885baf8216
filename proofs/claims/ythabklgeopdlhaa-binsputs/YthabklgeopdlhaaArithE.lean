/-
  Package arith: the encoder in memory, its shifts and its Put.
-/
import Derived.Test.YthabklgeopdlhaaArithN
import Derived.Deep.LoopGhost
namespace Go.Proofs.Ythabklgeopdlhaa
open Go.RowKit

/-- The cells of an encoder. -/
def encA (ch : Value) (N L R : Int) (v sl : Value) (k : Int) : Array Value := #[ch, .int .i64 N, .int .i64 L, .int .i64 R, v, sl, .int .i64 k]

/-- An encoder lies in block p, its chances in block g, its bytes (the value v) hold zs. -/
structure En (w : World) (p g : Nat) (v : Value) (zs : List Nat) (n : Nat) (s : CS) : Prop where
  blk : Blk w p (encA (.slice (some ⟨g, 0, none⟩) n n) (s.N : Int) s.e.L s.e.R v (.int .i64 (s.e.S.length : Int)) (s.e.k : Int)) 65
  row : Blk w g (intRow s.P).toArray 3
  len : s.P.length = n
  gp : g < p
  own : w.ownsRow (p + 1) 5 1 v zs.length (rowOf zs)
  packs : Packs zs s.e.S

theorem En.fr {w w' : World} {p g : Nat} {v : Value} {zs : List Nat} {n : Nat} {s : CS} {S : Nat → Prop} (h : En w p g v zs n s) (f : Fr S w w') (hp : ¬ S p) (hg : ¬ S g) (hv : ∀ k, v.ownBlock = some k → ¬ S k) : En w' p g v zs n s :=
  ⟨h.blk.fr f hp, h.row.fr f hg, h.len, h.gp, ownsRow_fr h.own f hv, h.packs⟩
theorem En.quiet {w w' : World} {p g : Nat} {v : Value} {zs : List Nat} {n : Nat} {s : CS} (h : En w p g v zs n s) (f : Fr (fun _ => False) w w') : En w' p g v zs n s :=
  h.fr f (fun h => h) (fun h => h) (fun _ _ h => h)
theorem En.vlt {w : World} {p g : Nat} {v : Value} {zs : List Nat} {n : Nat} {s : CS} (h : En w p g v zs n s) {k : Nat} (hk : v.ownBlock = some k) : p < k ∧ k < w.heap.size := by
  have := h.own.lt k hk; omega

theorem lens_encM (ch v sl : Value) (k : Int) : MLens ch (fun N L R => encA ch N L R v sl k) :=
  ⟨fun _ _ _ => rfl, fun _ _ _ => rfl, fun _ _ _ => rfl, fun _ _ _ => rfl, fun _ _ _ _ => rfl, fun _ _ _ _ => rfl, fun _ _ _ _ => rfl⟩
theorem lens_encW (ch : Value) (N L R k : Int) : Lens 4 (fun v sl => encA ch N L R v sl k) :=
  ⟨fun _ _ => rfl, fun _ _ => rfl, fun _ _ _ => rfl, fun _ _ _ => rfl⟩

theorem En.md {w : World} {p g : Nat} {v : Value} {zs : List Nat} {n : Nat} {s : CS} (h : En w p g v zs n s) : Md w p g (fun N L R => encA (.slice (some ⟨g, 0, none⟩) n n) N L R v (.int .i64 (s.e.S.length : Int)) (s.e.k : Int)) 65 n s.P s.N s.e.L s.e.R :=
  ⟨lens_encM _ _ _ _, h.blk, h.row, h.len, by have := h.gp; omega⟩
theorem En.wr {w : World} {p g : Nat} {v : Value} {zs : List Nat} {n : Nat} {s : CS} (h : En w p g v zs n s) : WrL w p 4 (fun v sl => encA (.slice (some ⟨g, 0, none⟩) n n) (s.N : Int) s.e.L s.e.R v sl (s.e.k : Int)) 65 v zs s.e.S :=
  ⟨lens_encW _ _ _ _ _, h.blk, h.own, h.packs⟩

/-- What a call on an encoder leaves as it was. -/
structure EnStep (p g : Nat) (v v' : Value) (w w' : World) : Prop where
  fr : Fr (fun k => k = p ∨ k = g ∨ v.ownBlock = some k) w w'
  at' : v'.ownBlock = v.ownBlock ∨ ∀ k, v'.ownBlock = some k → w.heap.size ≤ k

theorem EnStep.refl (p g : Nat) (v : Value) (w : World) : EnStep p g v v w w := ⟨Fr.refl _ _, .inl rfl⟩
theorem EnStep.trans {p g : Nat} {v v' v'' : Value} {w w' w'' : World} (h : EnStep p g v v' w w') (k : EnStep p g v' v'' w' w'') : EnStep p g v v'' w w'' := by
  refine ⟨h.fr.trans k.fr ?_, ?_⟩
  · intro i hi hk
    rcases hk with hk | hk | hk
    · exact .inl hk
    · exact .inr (.inl hk)
    · rcases h.at' with e | e
      · exact .inr (.inr (e ▸ hk))
      · have := e i hk; omega
  · rcases k.at' with e | e
    · rw [e]; exact h.at'
    · exact .inr fun i hi => Nat.le_trans h.fr.size (e i hi)
theorem EnStep.of_md {p g : Nat} {v : Value} {w w' : World} (f : Fr (fun k => k = p ∨ k = g) w w') : EnStep p g v v w w' :=
  ⟨f.mono (fun k _ h => by rcases h with h | h; exact .inl h; exact .inr (.inl h)), .inl rfl⟩
theorem EnStep.of_wr {p g : Nat} {v v' : Value} {w w' : World} (f : WrStep p v v' w w') : EnStep p g v v' w w' :=
  ⟨f.fr.mono (fun k _ h => by rcases h with h | h; exact .inl h; exact .inr (.inr h)), f.at'⟩
theorem EnStep.set {p g : Nat} {v v' : Value} {w w' : World} (h : EnStep p g v v' w w') (i : Nat) (u : Value) : EnStep p g v v' w (w'.setCell ⟨p, i, none⟩ u) :=
  ⟨h.fr.setCell (fun _ => .inl rfl) _, h.at'⟩
theorem EnStep.drew {p g : Nat} {v v' : Value} {w w' : World} (h : EnStep p g v v' w w') : EnStep p g v v' w w'.drew :=
  ⟨h.fr.drew, h.at'⟩
theorem EnStep.drewN {p g : Nat} {v v' : Value} {w w' : World} (h : EnStep p g v v' w w') (n : Nat) : EnStep p g v v' w (w'.drewN n) :=
  ⟨h.fr.drewN n, h.at'⟩
/-- From outside: an encoder of blocks that are newer than w0. -/
theorem EnStep.outer {w0 w w' : World} {p g : Nat} {v v' : Value} {zs : List Nat} {n : Nat} {s : CS} (h : EnStep p g v v' w w') (he : En w p g v zs n s) (f : Fr (fun _ => False) w0 w) (hg : w0.heap.size ≤ g) : Fr (fun _ => False) w0 w' := by
  refine f.trans h.fr ?_
  intro i hi hk
  have := he.gp
  rcases hk with hk | hk | hk
  · omega
  · omega
  · have := (he.vlt hk).1; omega

/-- The encoder has the state s' in w', and nothing else has turned. -/
def EnGets (p g : Nat) (v : Value) (w w' : World) (n : Nat) (s' : CS) : Prop := ∃ v' zs', En w' p g v' zs' n s' ∧ EnStep p g v v' w w'

/-- settle. -/
theorem settle_any (w : World) (p o : Nat) (F : Value → Value → Array Value) (t : TypeId) (v : Value) (zs : List Nat) (s : List Bool) (b : Bool) (m : Nat) (h : WrL w p o F t v zs s) (hn : s.length + m ≤ 100000000000) :
    Calls Try.prog 44 #[.pointer (some ⟨p, o, none⟩), .bool b, .int .i64 (m : Int)] w fun e w' => e = .returned (.tuple #[]) ∧ WrLGets p o F t v w w' (s ++ b :: List.replicate m (!b)) := by
  go_enter Try.func44, Try.ntmps44
  go_wp2_with fail
  refine (lbit_any w p o F t v zs s b h (by omega)).mono ?_
  rintro e w1 ⟨rfl, v1, zs1, h1, st1⟩
  go_wp2
  go_loopw [10] (fun i wr => ∃ j : Nat, j ≤ m ∧ i = .int .i64 (j : Int) ∧ WrLGets p o F t v w wr (s ++ [b] ++ List.replicate j (!b))) (fun i _ => m - (intOf i).toNat)
  case atStart => exact ⟨0, Nat.zero_le _, rfl, v1, zs1, by simpa using h1, st1⟩
  case round =>
    clear h1 st1
    obtain ⟨j, hj, rfl, v2, zs2, h2, st2⟩ := hrel
    by_cases hlt : j < m
    · have hji : (j : Int) < (m : Int) := by omega
      have hlen : (s ++ [b] ++ List.replicate j (!b)).length ≤ 1000000000000 := by simp; omega
      go_wp2_with fail
      refine (lbit_any wr p o F t v2 zs2 _ (!b) h2 hlen).mono ?_
      rintro e w3 ⟨rfl, v3, zs3, h3, st3⟩
      go_wp2
      go_roundw
      case rel => exact ⟨j + 1, by omega, by go_num, v3, zs3, by rw [List.replicate_succ', ← List.append_assoc]; exact h3, st2.trans st3⟩
      case measure => simp [intOf]; omega
    · have hji : ¬ (j : Int) < (m : Int) := by omega
      obtain rfl : j = m := by omega
      go_wp2
      go_end0
      exact ⟨rfl, v2, zs2, by simpa using h2, st2⟩

/-- A new low, a new number of bits owed. -/
theorem En.low {w : World} {p g : Nat} {v : Value} {zs : List Nat} {n : Nat} {P : List Int} {N : Nat} {L R : Int} {k : Nat} {S : List Bool} (h : En w p g v zs n ⟨P, N, ⟨L, R, k, S⟩⟩) (x : Int) : En (w.setCell ⟨p, 2, none⟩ (.int .i64 x)) p g v zs n ⟨P, N, ⟨x, R, k, S⟩⟩ :=
  ⟨h.blk.set 2 (.int .i64 x), h.row.setOther (by have := h.gp; simp; omega) _, h.len, h.gp, ownsRow_fr h.own ((Fr.refl (fun j => j = p) w).setCell (fun _ => rfl) _) (fun j hj => by have := (h.vlt hj).1; omega), h.packs⟩
theorem En.owed {w : World} {p g : Nat} {v : Value} {zs : List Nat} {n : Nat} {P : List Int} {N : Nat} {L R : Int} {k : Nat} {S : List Bool} (h : En w p g v zs n ⟨P, N, ⟨L, R, k, S⟩⟩) (x : Nat) : En (w.setCell ⟨p, 6, none⟩ (.int .i64 (x : Int))) p g v zs n ⟨P, N, ⟨L, R, x, S⟩⟩ :=
  ⟨h.blk.set 6 (.int .i64 (x : Int)), h.row.setOther (by have := h.gp; simp; omega) _, h.len, h.gp, ownsRow_fr h.own ((Fr.refl (fun j => j = p) w).setCell (fun _ => rfl) _) (fun j hj => by have := (h.vlt hj).1; omega), h.packs⟩

/-- double, of an encoder. -/
theorem edouble_any (w : World) (p g : Nat) (v : Value) (zs : List Nat) (n : Nat) (P : List Int) (N : Nat) (L R : Int) (k : Nat) (S : List Bool) (h : En w p g v zs n ⟨P, N, ⟨L, R, k, S⟩⟩) (l0 : 0 ≤ L) (l1 : L ≤ 65536) (r0 : 0 ≤ R) (r1 : R ≤ 65536) :
    Calls Try.prog 81 #[.pointer (some ⟨p, 0, none⟩)] w fun e w' => e = .returned (.tuple #[]) ∧ En w' p g v zs n ⟨P, N, ⟨2 * L % 65536, 2 * R, k, S⟩⟩ ∧ EnStep p g v v w w' := by
  refine (mdouble_any w p g _ _ n P N L R h.md l0 l1 r0 r1).mono ?_
  rintro e w1 ⟨rfl, m, f⟩
  exact ⟨rfl, ⟨m.blk, m.row, m.len, h.gp, ownsRow_fr h.own f (fun j hj => by have := (h.vlt hj).1; omega), h.packs⟩, EnStep.of_md (f.mono (fun _ _ h => .inl h))⟩

/-- shift. -/
theorem eshift_any (w : World) (p g : Nat) (v : Value) (zs : List Nat) (n : Nat) (s : CS) (h : En w p g v zs n s) (hs : Span s.e.L s.e.R) (hr : s.e.R ≤ 16384) (hk : s.e.S.length + s.e.k ≤ 10000000000) :
    Calls Try.prog 64 #[.pointer (some ⟨p, 0, none⟩)] w fun e w' => e = .returned (.tuple #[]) ∧ EnGets p g v w w' n ⟨s.P, s.N, eshift s.e⟩ := by
  obtain ⟨P, N, e⟩ := s
  obtain ⟨L, R, k, S⟩ := e
  simp only at hs hr hk ⊢
  have hL0 : 0 ≤ L := hs.1
  have hR0 : 0 ≤ R := by have := hs.2; omega
  have hL1 : L < 65536 := by have := hs.2; omega
  have HT := hid (turn14_xor L hL0 hL1)
  have HB := hid (top_and L hL0 hL1)
  obtain ⟨t0, t1⟩ := turn14_bounds hL0 hL1
  go_enter Try.func64, Try.ntmps64
  go_wp2_with fail
  refine (mastride_any w p g _ _ n P N L R h.md hs).mono ?_
  rintro e w1 ⟨rfl, m, rfl⟩
  have h1 := h.quiet ((Fr.refl (fun _ => False) w).drewN m)
  have st1 : EnStep p g v v w (w.drewN m) := (EnStep.refl p g v w).drewN m
  generalize w.drewN m = w1 at h1 st1
  clear h
  have c2 := h1.md.c2
  have hf := h1.blk.thaw
  have c4 : w1.cell? ⟨p, 6, none⟩ = some (.int .i64 (k : Int)) := by rw [h1.blk.cell]; rfl
  by_cases hd : differ L R
  · have hdd : decide (differ L R) = true := by simpa using hd
    have HE : Hid (eshift ⟨L, R, k, S⟩ = ⟨2 * turn14 L % 65536, 2 * R, k + 1, S⟩) := if_pos hd
    have H := hid h1
    clear h1
    go_wp2_with fail
    rw [HT.out]
    refine (edouble_any _ p g v zs n P N (turn14 L) R (k + 1) S ((H.out.low (turn14 L)).owed (k + 1)) (by omega) (by omega) (by omega) (by omega)).mono ?_
    rintro e w2 ⟨rfl, h2, st2⟩
    go_wp2
    go_end0
    rw [HE.out]
    exact ⟨rfl, v, zs, h2, ((st1.set 2 _).set 6 _).trans st2⟩
  · have hdd : decide (differ L R) = false := by simpa using hd
    have HE : Hid (eshift ⟨L, R, k, S⟩ = ⟨2 * L % 65536, 2 * R, 0, S ++ topB L :: List.replicate k (!topB L)⟩) := if_neg hd
    have H := hid h1
    clear h1
    go_wp2
    refine wp_region_still_tail 14 (by kernel_rfl) (by kernel_rfl) ?_
    show wpStill Try.prog _ w1.drew (fun a' => wpList Try.prog _ _ _ a' w1.drew) _ _
    simp only [List.take_succ_cons, List.take_zero, List.drop_succ_cons, List.drop_zero]
    repeat still_step
    refine wpStill_nil ?_
    go_wp2_with fail
    rw [HB.out]
    have h2 := H.out.quiet ((Fr.refl (fun _ => False) w1).drew)
    refine (settle_any _ p 4 _ _ v zs S (topB L) k h2.wr (by omega)).mono ?_
    rintro e w3 ⟨rfl, v3, zs3, h3, st3⟩
    have hg : g < p := h2.gp
    have st4 : EnStep p g v v3 w w3 := st1.drew.trans (EnStep.of_wr st3)
    have h4 : En w3 p g v3 zs3 n ⟨P, N, ⟨L, R, k, S ++ topB L :: List.replicate k (!topB L)⟩⟩ :=
      ⟨h3.blk, h2.row.fr st3.fr (by intro hh; rcases hh with e | e; omega; have := (h2.vlt e).1; omega), h2.len, hg, h3.own, h3.packs⟩
    clear h2 h3 st3 c2 hf c4 H st1
    have hf := h4.blk.thaw
    have c4 : w3.cell? ⟨p, 6, none⟩ = some (.int .i64 (k : Int)) := by rw [h4.blk.cell]; rfl
    go_wp2_with fail
    refine (edouble_any _ p g v3 zs3 n P N L R 0 _ (h4.owed 0) (by omega) (by omega) (by omega) (by omega)).mono ?_
    rintro e w5 ⟨rfl, h5, st5⟩
    go_wp2
    go_end0
    rw [HE.out]
    exact ⟨rfl, v3, zs3, h5, (st4.set 6 _).trans st5⟩

theorem enorm_count (e : ES) : ∀ m, (enorm m e).S.length + (enorm m e).k ≤ e.S.length + e.k + m := by
  intro m
  induction m generalizing e with
  | zero => simp [enorm]
  | succ m ih =>
    rw [enorm]
    split
    · have := ih (eshift e)
      rw [shift_count] at this
      omega
    · omega

/-- Put. -/
theorem eput_any (w : World) (p g : Nat) (v : Value) (zs : List Nat) (n : Nat) (s : CS) (c : Int) (b : Bool) (h : En w p g v zs n s) (hn : n ≤ 64) (hN : s.N ≤ 100000000) (hG : Good n s) :
    Calls Try.prog 37 #[.pointer (some ⟨p, 0, none⟩), .int .i64 c, .bool b] w fun e w' => e = .returned (.bool (hasX n c)) ∧ EnGets p g v w w' n (putX n s c b) := by
  have hG' := hG
  obtain ⟨P, N, e⟩ := s
  obtain ⟨L, R, k, S⟩ := e
  obtain ⟨fair, ready, few⟩ := hG'
  simp only at hN fair few
  have hspan : Span L R := ready.span
  have hwide : 16384 < R := ready.wide
  cases hc : hasX n c with
  | false =>
    have HE : Hid (putX n ⟨P, N, ⟨L, R, k, S⟩⟩ c b = ⟨P, N, ⟨L, R, k, S⟩⟩) := by show _ = _; unfold putX; rw [hc]; rfl
    go_enter Try.func37, Try.ntmps37
    go_wp2_with fail
    refine (mhas_any w p g _ _ n P N L R c h.md (by omega)).mono ?_
    rintro e w1 ⟨rfl, rfl⟩
    rw [hc]
    go_wp2
    go_ret
    rw [HE.out]
    exact ⟨rfl, v, zs, h, EnStep.refl _ _ _ _⟩
  | true =>
    obtain ⟨j, hj, rfl⟩ := hasX_true hc
    have hch := fair.2 j hj
    have HE : Hid (putX n ⟨P, N, ⟨L, R, k, S⟩⟩ (j : Int) b = ⟨P.set j (nextC (P.getD j 0) b), N + 1, enorm 16 (epart ⟨L, R, k, S⟩ (P.getD j 0) b)⟩) := by show _ = _; unfold putX; rw [hc, if_pos rfl, Int.toNat_natCast]; rfl
    obtain ⟨ps, p63⟩ := part_span ready hch b
    have pk : (epart ⟨L, R, k, S⟩ (P.getD j 0) b).k = k ∧ (epart ⟨L, R, k, S⟩ (P.getD j 0) b).S = S := by cases b <;> exact ⟨rfl, rfl⟩
    have pL : (epart ⟨L, R, k, S⟩ (P.getD j 0) b).L = if b then L + R * P.getD j 0 / 65536 else L := by cases b <;> rfl
    have pR : (epart ⟨L, R, k, S⟩ (P.getD j 0) b).R = if b then R - R * P.getD j 0 / 65536 else R * P.getD j 0 / 65536 := by cases b <;> rfl
    have h16 : 16384 < (epart ⟨L, R, k, S⟩ (P.getD j 0) b).R * 2 ^ 16 := by
      have : (63 : Int) * 2 ^ 16 ≤ (epart ⟨L, R, k, S⟩ (P.getD j 0) b).R * 2 ^ 16 := Int.mul_le_mul_of_nonneg_right p63 (by decide)
      have e2 : (63 : Int) * 2 ^ 16 = 4128768 := by decide
      omega
    go_enter Try.func37, Try.ntmps37
    go_wp2_with fail
    refine (mhas_any w p g _ _ n P N L R (j : Int) h.md (by omega)).mono ?_
    rintro e w1 ⟨rfl, rfl⟩
    rw [hc]
    go_wp2_with fail
    refine (mlearn_any w1 p g _ _ n P N L R j b h.md hj (by omega) (by omega) hspan (by unfold Chance at hch; omega) (by unfold Chance at hch; omega)).mono ?_
    rintro e w2 ⟨rfl, m2, f2⟩
    rw [← pL, ← pR] at m2
    have hlt := h.gp
    have h2 : En w2 p g v zs n ⟨P.set j (nextC (P.getD j 0) b), N + 1, epart ⟨L, R, k, S⟩ (P.getD j 0) b⟩ := by
      refine ⟨?_, m2.row, m2.len, hlt, ownsRow_fr h.own f2 (fun i hi hh => by have := (h.vlt hi).1; omega), by rw [pk.2]; exact h.packs⟩
      show Blk w2 p (encA _ _ (epart ⟨L, R, k, S⟩ (P.getD j 0) b).L (epart ⟨L, R, k, S⟩ (P.getD j 0) b).R v (.int .i64 ((epart ⟨L, R, k, S⟩ (P.getD j 0) b).S.length : Int)) ((epart ⟨L, R, k, S⟩ (P.getD j 0) b).k : Int)) _
      rw [pk.1, pk.2]
      exact m2.blk
    have st2 : EnStep p g v v w1 w2 := EnStep.of_md f2
    have hcnt : (epart ⟨L, R, k, S⟩ (P.getD j 0) b).S.length + (epart ⟨L, R, k, S⟩ (P.getD j 0) b).k ≤ 1000000000 := by rw [pk.1, pk.2]; omega
    generalize epart ⟨L, R, k, S⟩ (P.getD j 0) b = e0 at HE ps h16 h2 hcnt
    clear m2 f2 h pk pL pR p63 hspan hwide
    generalize P.set j (nextC (P.getD j 0) b) = P' at HE h2
    go_wp2_with fail
    go_loopg [] 16 (fun m wr => ∃ e1 : ES, enorm m e1 = enorm 16 e0 ∧ Span e1.L e1.R ∧ 16384 < e1.R * 2 ^ m ∧ m ≤ 16 ∧ e1.S.length + e1.k ≤ 1000000000 + (16 - m) ∧ EnGets p g v w1 wr n ⟨P', N + 1, e1⟩)
    case atStart => exact ⟨e0, rfl, ps, h16, Nat.le_refl _, by omega, v, zs, h2, st2⟩
    case round =>
      clear h2 st2 ps h16 hcnt
      obtain ⟨e1, he, hs1, h1, hm, hcnt, v1, zs1, h3, st3⟩ := hrel
      by_cases hr : e1.R ≤ 16384
      · obtain ⟨m', rfl⟩ : ∃ m', gk = m' + 1 := by
          cases gk with
          | zero => simp at h1; omega
          | succ m' => exact ⟨m', rfl⟩
        have hdd : decide (e1.R ≤ 16384) = true := by simpa using hr
        go_wp2_with fail
        refine (mnarrow_any _ p g _ _ n _ _ _ _ h3.md).mono ?_
        rintro e w4 ⟨rfl, rfl⟩
        simp only [hdd]
        go_wp2_with fail
        refine (eshift_any _ p g v1 zs1 n _ h3 hs1 hr (by simp only; omega)).mono ?_
        rintro e w5 ⟨rfl, v5, zs5, h5, st5⟩
        go_wp2
        go_roundg m'
        case rel =>
          refine ⟨eshift e1, ?_, eshift_span hs1 hr, ?_, by omega, ?_, v5, zs5, h5, st3.trans st5⟩
          · rw [← he, enorm, if_pos hr]
          · rw [(eshift_LR e1).2]
            rw [Int.pow_succ] at h1
            rw [show 2 * e1.R * 2 ^ m' = e1.R * (2 ^ m' * 2) by rw [Int.mul_comm 2 e1.R, Int.mul_assoc, Int.mul_comm 2]]
            exact h1
          · rw [shift_count]; omega
        case measure => omega
      · have hdd : decide (e1.R ≤ 16384) = false := by simpa using hr
        have hfin : e1 = enorm 16 e0 := by
          rw [← he]
          cases gk with
          | zero => rfl
          | succ m' => rw [enorm, if_neg hr]
        go_wp2_with fail
        refine (mnarrow_any _ p g _ _ n _ _ _ _ h3.md).mono ?_
        rintro e w4 ⟨rfl, rfl⟩
        simp only [hdd]
        go_wp2
        go_ret
        rw [HE.out, ← hfin]
        exact ⟨rfl, v1, zs1, h3, st3⟩
end Go.Proofs.Ythabklgeopdlhaa
