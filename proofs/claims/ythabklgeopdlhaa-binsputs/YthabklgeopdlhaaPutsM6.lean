/-
  Law package 6: what BinsPuts keeps: both encoders, the set, rows of steps.
-/
import Derived.Test.YthabklgeopdlhaaFirst6
import Derived.Test.YthabklgeopdlhaaRef6P
namespace Go.Proofs.Ythabklgeopdlhaa
open Go.RowKit

/-- Both encoders and the set. -/
structure PS (w wr : World) (B p g px c : Nat) (a : Option Addr) (n cap : Nat) (V : Nat → Int) (b : Nat) (D S : Int) (v : Value) (zs : List Nat) (u : Value) (s t : CS) : Prop where
  en : En wr p g v zs c s
  rx : REn wr px u c t
  ob : SetObj wr w.heap.size a n cap V b D S
  hu : ∀ j, u.ownBlock = some j → B ≤ j ∧ v.ownBlock ≠ some j
  hv : v.ownBlock ≠ some px
  pB : p < B
  xB : B ≤ px
  gw : w.heap.size < g
  bw : 0 < n → b < w.heap.size
  fr : Fr (fun _ => False) w wr

theorem PS.quiet {w wr wr' : World} {B p g px c : Nat} {a : Option Addr} {n cap : Nat} {V : Nat → Int} {b : Nat} {D S : Int} {v : Value} {zs : List Nat} {u : Value} {s t : CS} (h : PS w wr B p g px c a n cap V b D S v zs u s t) (f : Fr (fun _ => False) wr wr') : PS w wr' B p g px c a n cap V b D S v zs u s t :=
  ⟨h.en.quiet f, h.rx.quiet f, h.ob.quiet f, h.hu, h.hv, h.pB, h.xB, h.gw, h.bw, h.fr.trans' f⟩

theorem PS.off {w wr : World} {B p g px c : Nat} {a : Option Addr} {n cap : Nat} {V : Nat → Int} {b : Nat} {D S : Int} {v : Value} {zs : List Nat} {u : Value} {s t : CS} (h : PS w wr B p g px c a n cap V b D S v zs u s t) : SetOff n b p g v := by
  intro hn
  have h1 := h.bw hn
  have h2 := h.gw
  have h3 := h.en.gp
  exact ⟨by omega, by omega, fun e => by have := (h.en.vlt e).1; omega⟩

theorem PS.put {w wr wr' : World} {B p g px c : Nat} {a : Option Addr} {n cap : Nat} {V : Nat → Int} {b : Nat} {D S : Int} {v v' : Value} {zs zs' : List Nat} {u : Value} {s s' t : CS} (h : PS w wr B p g px c a n cap V b D S v zs u s t) (he : En wr' p g v' zs' c s') (st : EnStep p g v v' wr wr') : PS w wr' B p g px c a n cap V b D S v' zs' u s' t := by
  have h1 := h.gw
  have h2 := h.en.gp
  have h3 := h.pB
  have h4 := h.xB
  have hxl := h.rx.blk.lt
  refine ⟨he, h.rx.fr st.fr ?_ ?_, h.ob.fr st.fr ?_ ?_, fun j hj => ⟨(h.hu j hj).1, fun e => ?_⟩, fun e => ?_, h.pB, h.xB, h.gw, h.bw, st.outer h.en h.fr (by omega)⟩
  · rintro (e | e | e)
    · omega
    · omega
    · exact h.hv e
  · rintro j hj (e | e | e)
    · have := (h.hu j hj).1; omega
    · have := (h.hu j hj).1; omega
    · exact (h.hu j hj).2 e
  · rintro (e | e | e)
    · omega
    · omega
    · have := (h.en.vlt e).1; omega
  · rintro hn (e | e | e)
    · have := h.bw hn; omega
    · have := h.bw hn; omega
    · have := (h.en.vlt e).1; have := h.bw hn; omega
  · rcases st.at' with q | q
    · rw [q] at e; exact (h.hu j hj).2 e
    · have := q j e
      have := (h.rx.own.lt j hj).2
      omega
  · rcases st.at' with q | q
    · rw [q] at e; exact h.hv e
    · have := q px e; omega

theorem PS.putx {w wr wr' : World} {B p g px c : Nat} {a : Option Addr} {n cap : Nat} {V : Nat → Int} {b : Nat} {D S : Int} {v : Value} {zs : List Nat} {u u' : Value} {s t t' : CS} (h : PS w wr B p g px c a n cap V b D S v zs u s t) (hx : REn wr' px u' c t') (f : Fr (fun j => j = px) wr wr') (hu' : u' = u ∨ ∀ k, u'.ownBlock = some k → wr.heap.size ≤ k) : PS w wr' B p g px c a n cap V b D S v zs u' s t' := by
  have h1 := h.gw
  have h2 := h.en.gp
  have h3 := h.pB
  have h4 := h.xB
  have hxl := h.rx.blk.lt
  refine ⟨h.en.fr f (by omega) (by omega) (fun k hk e => h.hv (by rw [← e]; exact hk)), hx, h.ob.fr f (by omega) (fun hn => by have := h.bw hn; omega), fun j hj => ?_, h.hv, h.pB, h.xB, h.gw, h.bw, h.fr.trans f (fun i hi e => by omega)⟩
  rcases hu' with q | q
  · rw [q] at hj; exact h.hu j hj
  · have := q j hj
    refine ⟨by omega, fun e => ?_⟩
    have := (h.en.vlt e).2
    omega

/-- A row of steps, apart from both encoders. -/
structure RowK (wr : World) (vs : Value) (l : List (Int × Bool)) (p g px : Nat) (v u : Value) : Prop where
  own : wr.ownsRow 0 71 2 vs l.length (bitRow l)
  off : ∀ j, vs.ownBlock = some j → j ≠ p ∧ j ≠ g ∧ j ≠ px ∧ v.ownBlock ≠ some j ∧ u.ownBlock ≠ some j

theorem ownsRow_zero2 {w : World} {base : Nat} {e : TypeId} {size : Nat} {v : Value} {n : Nat} {xs : List Value} (h : w.ownsRow base e size v n xs) : w.ownsRow 0 e size v n xs := ownsRow_zero h

theorem RowK.new {w wr wr' : World} {B p g px c : Nat} {a : Option Addr} {n cap : Nat} {V : Nat → Int} {b : Nat} {D S : Int} {v : Value} {zs : List Nat} {u : Value} {s t : CS} (h : PS w wr B p g px c a n cap V b D S v zs u s t) {vs : Value} {l : List (Int × Bool)} (ho : wr'.ownsRow wr.heap.size 71 2 vs l.length (bitRow l)) : RowK wr' vs l p g px v u := by
  have h2 := h.en.gp
  have h3 := h.en.blk.lt
  have h4 := h.rx.blk.lt
  refine ⟨ownsRow_zero ho, fun j hj => ?_⟩
  have := (ho.lt j hj).1
  exact ⟨by omega, by omega, by omega, fun e => by have := (h.en.vlt e).2; omega, fun e => by have := (h.rx.own.lt j e).2; omega⟩
theorem RowK.quiet {wr wr' : World} {vs : Value} {l : List (Int × Bool)} {p g px : Nat} {v u : Value} (h : RowK wr vs l p g px v u) (f : Fr (fun _ => False) wr wr') : RowK wr' vs l p g px v u := ⟨ownsRow_fr h.own f (fun _ _ h => h), h.off⟩
theorem RowK.put {wr wr' : World} {vs : Value} {l : List (Int × Bool)} {p g px : Nat} {v v' u : Value} (h : RowK wr vs l p g px v u) (st : EnStep p g v v' wr wr') : RowK wr' vs l p g px v' u := by
  refine ⟨ownsRow_fr h.own st.fr (fun j hj => ?_), fun j hj => ?_⟩
  · obtain ⟨q1, q2, _, q4, _⟩ := h.off j hj
    rintro (e | e | e)
    · exact q1 e
    · exact q2 e
    · exact q4 e
  · obtain ⟨q1, q2, q3, q4, q5⟩ := h.off j hj
    refine ⟨q1, q2, q3, fun e => ?_, q5⟩
    rcases st.at' with q | q
    · rw [q] at e; exact q4 e
    · have := q j e
      have := (h.own.lt j hj).2
      omega
theorem RowK.putx {wr wr' : World} {vs : Value} {l : List (Int × Bool)} {p g px : Nat} {v u u' : Value} (h : RowK wr vs l p g px v u) (f : Fr (fun j => j = px) wr wr') (hu' : u' = u ∨ ∀ k, u'.ownBlock = some k → wr.heap.size ≤ k) : RowK wr' vs l p g px v u' := by
  refine ⟨ownsRow_fr h.own f (fun j hj e => (h.off j hj).2.2.1 e), fun j hj => ?_⟩
  obtain ⟨q1, q2, q3, q4, q5⟩ := h.off j hj
  refine ⟨q1, q2, q3, q4, fun e => ?_⟩
  rcases hu' with q | q
  · rw [q] at e; exact q5 e
  · have := q j e
    have := (h.own.lt j hj).2
    omega

/-- Both sides go alike. -/
theorem puts_same {V : Nat → Int} {n : Nat} {D S : Int} {c : Nat} (hr : rightS V n D S c = true) (s : CS) (y : Int) :
    runC c (runC c s (stepsL V n D y)) (sgnL V n D S y) = putG V n D S c (putN V n D S c s y) y := by
  have hn : decide (0 < n) = true := by simpa using (rightS_true hr).1
  have e1 : runC c s (stepsL V n D y) = putN V n D S c s y := by
    unfold stepsL putN
    rw [hr, hn]
    split <;> rfl
  rw [e1]
  unfold sgnL putG
  rw [hr, hn]
  split <;> rfl
theorem puts_none {V : Nat → Int} {n : Nat} {D S : Int} {c : Nat} (hr : rightS V n D S c = false) (s : CS) (y : Int) : putG V n D S c (putN V n D S c s y) y = s := by
  unfold putG putN
  rw [hr, Bool.and_false, Bool.and_false]
  rfl
theorem okN_uns {y : Int} (h : okN y = true) : okN (unsN y) = true := by
  have := okN_true h
  unfold unsN
  rw [if_neg (by omega)]
  exact h
end Go.Proofs.Ythabklgeopdlhaa
