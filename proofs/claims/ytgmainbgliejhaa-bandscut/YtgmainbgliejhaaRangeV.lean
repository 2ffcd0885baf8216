/-
  A law of my own: a range over an iterator that hands out what it has just laid in memory: the round is told what lies there (Val). The body goes on always; the rounds are told by their number.
-/
import Derived.Test.YtgmainbgliejhaaPlaneT
namespace Go.Proofs.Ytgmainbgliejhaa
open Go.RowKit Go.Shelf

/-- The loop's record and the block of its deferred calls. -/
structure Looks (W : World) (s : Nat) (r : Loop) : Prop where
  loop : W.heap[s + 1]? = some (.loop r)
  none : W.heap[s]? = some (.deferred (some []))
theorem Looks.kept {A C : World} {s : Nat} {r : Loop} {row : Option Nat} (h : Looks A s r) (hg : A.grownBy C row) (hr : ∀ k, row = some k → ∃ o : Obj, A.heap[k]? = some o ∧ o.isWalk = true) : Looks C s r :=
  ⟨(grownBy_keeps hg hr h.loop rfl).trans h.loop, (grownBy_keeps hg hr h.none rfl).trans h.none⟩

theorem wpIn_rangeVal {F : Fence} {n : Nat} {P : Program} {β : Type} {g : Operand} {ps : Array Tmp} {assign body : Code} {Q : Exit → Act → World → Prop} {a : Act} {w : World}
    (hro : F.round = none) (h1 : 1 ≤ n) {gf : Nat} {lb : Array Value} (hg : a.eval g = .func (.func gf) #[] lb) (hFg : F.fn gf) (eg : ∀ args w, (callFunc gf args).run P w = .ok (.enter gf args) w)
    (N : Nat) (encs : Nat → β → Array Value) (Val : Nat → β → World → Prop) (Kp : World → World → Prop)
    (hseq : ∀ (l : Nat) (J : Nat → World → Prop), AbidesFrom (w.heap.size + 2) J → (∀ k x W1, k < N → J k W1 → Val k x W1 → YieldAt F (n - 1 - 1) P l (encs k x) W1 fun e W' => e = .returned (.bool true) ∧ J (k + 1) W' ∧ Kp W1 W') → ∀ W, Below w.heap.size w W → J 0 W →
      CallsIn F (n - 1) P gf (#[.func (.yield l) #[] #[]] ++ lb) W fun e W' => (∃ v, e = .returned v) ∧ J N W')
    (hKt : ∀ {A B C : World}, Kp A B → Kp B C → Kp A C) (hKb : ∀ (W : World) (l : Nat) (o o' : Obj), w.heap.size ≤ l → W.heap[l]? = some o → o.isCells = false → o.isWalk = false → Kp W (W.putObj l o'))
    (hps : ∀ k x, (encs k x).size = ps.size) (I : Nat → World → Prop) (hI : OwnFrom w.heap.size I) (hV : ∀ k x, OwnFrom w.heap.size (fun (_ : Unit) => Val k x)) (h0 : I 0 w) (a₁ : Nat → β → Act)
    (hassign : ∀ (l k : Nat) (x : β) (W : World) (K : Act → World → Prop), K (a₁ k x) W →
      assign.wpIn (F.inRound l) (n - 1 - 1) P (Exit.then K (fun _ _ _ => False)) { tmps := (ps.zip (encs k x)).foldl (fun t (p, v) => t.setIfInBounds p v) a.tmps, defers := [] } W)
    (hbody : ∀ (l k : Nat) (x : β) (W : World), k < N → I k W → Val k x W → body.wpIn (F.inRound l) (n - 1 - 1) P (Exit.then (fun _ W' => KeepsFrom w.heap.size W W' ∧ Kp W W' ∧ I (k + 1) W') (fun _ _ _ => False)) (a₁ k x) W)
    (hdone : ∀ (D : Nat) (W : World), w.heap.size ≤ D → I N W → W.heap[D]? = some (.deferred (some [])) → Q .normal { a with defers := { target := .collected D, args := #[] } :: a.defers } W) :
    (Code.rangeFunc g ps assign body).wpIn F n P Q a w := by
  refine wpIn_rangeFunc fun fn hfn => ?_
  rw [hro]
  obtain ⟨rec, hrec⟩ : ∃ rec : LoopState → Loop, rec = fun st => { state := st, pending := none, fn, tmps := a.tmps, params := ps, assign, body, defers := w.heap.size } := ⟨_, rfl⟩
  obtain ⟨W0, hW0⟩ : ∃ W0, W0 = (w.alloc (.deferred (some []))).alloc (.loop (rec .ready)) := ⟨_, rfl⟩
  have L0 : Looks W0 w.heap.size (rec .ready) := by
    subst hW0
    refine ⟨?_, (Below.heap_alloc _ _ _ (by simp)).trans (World.alloc_heap_new w _)⟩
    have := World.alloc_heap_new (w.alloc (.deferred (some []))) (.loop (rec .ready))
    rwa [World.size_alloc] at this
  have B0 : Below w.heap.size w W0 := by subst hW0; exact ((Below.refl _ w).alloc (Nat.le_refl _) _).alloc (by simp) _
  have I0 : I 0 W0 := by subst hW0; exact hI.alloc _ (hI.alloc _ h0)
  refine ⟨w.heap.size + 1, [{ target := .collected w.heap.size, args := #[] }], W0, { target := .fn (.func gf) lb, args := #[.func (.yield (w.heap.size + 1)) #[] #[]] }, W0, gf, #[.func (.yield (w.heap.size + 1)) #[] #[]] ++ lb, W0, ?_, ?_, ?_, ?_, fun _ => h1, ?_⟩
  · subst hW0; rw [hrec]; exact run_enterLoop_outer _ _ _ _ _
  · simp only [resolve, hg]
    simp [go_sem]
  · intro f' hf'
    simp [Target.leads] at hf'
    subst hf'
    exact hFg
  · simp [invoke, go_sem, eg]
  have walk : ∀ {A : World} {row : Option Nat}, (∀ r, row = some r → w.heap.size + 2 ≤ r ∧ ∃ o : Obj, A.heap[r]? = some o ∧ o.isWalk = true) → (∀ r, row = some r → w.heap.size ≤ r ∧ ∃ o : Obj, A.heap[r]? = some o ∧ o.isCells = false) := fun hr r e => by
    obtain ⟨h, o, ho, hw⟩ := hr r e
    exact ⟨by omega, o, ho, Obj.not_cells_of_walk hw⟩
  refine (hseq (w.heap.size + 1) (fun k W => I k W ∧ Looks W w.heap.size (rec .ready)) (fun s A C row hs hg' hr => ⟨hI s A C row hs.1 hg' (walk hr), hs.2.kept hg' (fun r e => (hr r e).2)⟩) ?round W0 B0 ⟨I0, L0⟩).mono ?behind
  case behind =>
    rintro e W2 ⟨⟨v, rfl⟩, hi, hl⟩
    have he := run_endLoop (P := P) hl.loop (by rw [hrec]; simp)
    rw [hrec] at he
    exact ⟨none, _, he, hdone _ _ (Nat.le_refl _) (hI.putObj _ hi (by omega) hl.loop rfl) ((World.putObj_heap_other (by omega)).trans hl.none)⟩
  case round =>
    rintro k x W hk ⟨hi, hl⟩ hv
    have hy := run_yield (P := P) (args := encs k x) hl.loop (by rw [hrec]; exact hps k x)
    rw [hrec] at hy
    refine ⟨fn, _, assign, body, hy, roundIn_of_wpIn hfn (hassign _ k x W _ ⟨_, run_beginRound hl.loop (by rw [hrec]), ?_⟩)⟩
    obtain ⟨W', hW'⟩ : ∃ W', W' = W.putObj (w.heap.size + 1) (.loop { rec .ready with state := .busy }) := ⟨_, rfl⟩
    have hlt : w.heap.size + 1 < W.heap.size := (Array.getElem?_eq_some_iff.1 hl.loop).1
    have l' : Looks W' w.heap.size { rec .ready with state := .busy } := by
      subst hW'
      exact ⟨World.putObj_heap_same hlt, (World.putObj_heap_other (by omega)).trans hl.none⟩
    have k' : Kp W W' := by subst hW'; exact hKb _ _ _ _ (by omega) hl.loop rfl rfl
    have hb := hbody (w.heap.size + 1) k x W' hk (by subst hW'; exact hI.putObj _ hi (by omega) hl.loop rfl) (by subst hW'; exact (hV k x).putObj (s := ()) _ hv (by omega) hl.loop rfl)
    rw [← hW']
    refine wpIn_mono hb ?_
    rintro e a3 W3 hp
    cases e with
    | normal =>
      obtain ⟨hk3, hkp3, hi3⟩ := hp
      have hl3 := hk3.same _ _ (by omega) l'.loop rfl
      have hd3 := hk3.same _ _ (Nat.le_refl _) l'.none rfl
      have he := run_endRound (P := P) none hl3
      refine ⟨_, _, he, rfl, ⟨hI.putObj _ hi3 (by omega) hl3 rfl, ?_, (World.putObj_heap_other (by omega)).trans hd3⟩, hKt (hKt k' hkp3) (hKb _ _ _ _ (by omega) hl3 rfl rfl)⟩
      exact (World.putObj_heap_same (Array.getElem?_eq_some_iff.1 hl3).1).trans (by rw [hrec]; rfl)
    | ret => exact hp.elim
    | exit id => exact hp.elim
    | goto t => exact hp.elim
    | panic ch => exact hp.elim
    | outgrown => exact hp.elim
end Go.Proofs.Ytgmainbgliejhaa
