/-
  Law package 5: what ArithBack keeps while it puts bits: the encoder, the bits that were put, the chances behind each.
-/
import Derived.Test.YtkaldidfpgipfaaFirst5
import Derived.Test.YtkaldidfpgipfaaIsBits5
namespace Go.Proofs.Ytkaldidfpgipfaa
open Go.RowKit

/-- Bits of contexts as the cells of a row. -/
def bitRow (l : List (Int × Bool)) : List Value := l.flatMap fun x => [.int .i64 x.1, .bool x.2]
theorem bitRow_length (l : List (Int × Bool)) : (bitRow l).length = l.length * 2 := by
  induction l with
  | nil => rfl
  | cons x l ih => simp only [bitRow, List.flatMap_cons, List.length_append, List.length_cons, List.length_nil] at *; omega
theorem bitRow_snoc (l : List (Int × Bool)) (x : Int × Bool) : bitRow (l ++ [x]) = bitRow l ++ [.int .i64 x.1, .bool x.2] := by simp [bitRow]
theorem bitRow_get (l : List (Int × Bool)) : ∀ (i : Nat) (h : i < l.length), (bitRow l)[i * 2]? = some (.int .i64 l[i].1) ∧ (bitRow l)[i * 2 + 1]? = some (.bool l[i].2) := by
  induction l with
  | nil => intro i h; simp at h
  | cons x l ih =>
    intro i h
    have e : bitRow (x :: l) = [.int .i64 x.1, .bool x.2] ++ bitRow l := by simp [bitRow]
    rw [e]
    cases i with
    | zero => exact ⟨rfl, rfl⟩
    | succ i =>
      have := ih i (by simpa using h)
      rw [show (i + 1) * 2 = i * 2 + 2 by omega, List.getElem?_append_right (by simp), List.getElem?_append_right (by simp)]
      exact ⟨by simpa using this.1, by simpa using this.2⟩
theorem bitRow_one (l : List (Int × Bool)) : ∀ u ∈ bitRow l, u.oneCell' = true := by
  intro u hu
  simp only [bitRow, List.mem_flatMap] at hu
  obtain ⟨x, _, hx⟩ := hu
  simp at hx
  rcases hx with rfl | rfl <;> rfl

/-- Slices of chances behind each bit. -/
def WasRow (wr : World) (n : Nat) (v vp vw : Value) (p : Nat) (lw : List (Int × Bool)) (wl : List Value) : Prop :=
  ∀ j, j < lw.length → ∃ q, wl[j]? = some (.slice (some ⟨q, 0, none⟩) n n) ∧ Blk wr q (intRow (runC n (startC n) (lw.take (j + 1))).P).toArray 3 ∧ p < q ∧ v.ownBlock ≠ some q ∧ vp.ownBlock ≠ some q ∧ vw.ownBlock ≠ some q

structure BackSt (w wr : World) (p g n : Nat) (v : Value) (zs : List Nat) (s : CS) (vp vw : Value) (lp lw : List (Int × Bool)) : Prop where
  en : En wr p g v zs n s
  op : wr.ownsRow (p + 1) 29 2 vp lp.length (bitRow lp)
  ow : ∃ wl, wr.ownsRow (p + 1) 34 1 vw lw.length wl ∧ WasRow wr n v vp vw p lw wl
  d1 : ∀ x, vp.ownBlock = some x → v.ownBlock ≠ some x ∧ vw.ownBlock ≠ some x
  d2 : ∀ x, vw.ownBlock = some x → v.ownBlock ≠ some x
  fr : Fr (fun _ => False) w wr

theorem BackSt.quiet {w wr wr' : World} {p g n : Nat} {v : Value} {zs : List Nat} {s : CS} {vp vw : Value} {lp lw : List (Int × Bool)} (h : BackSt w wr p g n v zs s vp vw lp lw) (f : Fr (fun _ => False) wr wr') : BackSt w wr' p g n v zs s vp vw lp lw := by
  obtain ⟨wl, o, hw⟩ := h.ow
  exact ⟨h.en.quiet f, ownsRow_fr h.op f (fun _ _ h => h), ⟨wl, ownsRow_fr o f (fun _ _ h => h), fun j hj => by
    obtain ⟨q, a, b, r⟩ := hw j hj
    exact ⟨q, a, b.fr f (fun h => h), r⟩⟩, h.d1, h.d2, h.fr.trans' f⟩

/-- Behind a bit that is put. -/
theorem BackSt.put {w wr wr' : World} {p g n : Nat} {v v' : Value} {zs zs' : List Nat} {s s' : CS} {vp vw : Value} {lp lw : List (Int × Bool)} (h : BackSt w wr p g n v zs s vp vw lp lw) (he : En wr' p g v' zs' n s') (st : EnStep p g v v' wr wr') (hg : w.heap.size ≤ g) : BackSt w wr' p g n v' zs' s' vp vw lp lw := by
  obtain ⟨wl, o, hw⟩ := h.ow
  have hgp := h.en.gp
  have lp' : ∀ x, vp.ownBlock = some x → p < x ∧ x < wr.heap.size := fun x hx => by have := h.op.lt x hx; omega
  have lw' : ∀ x, vw.ownBlock = some x → p < x ∧ x < wr.heap.size := fun x hx => by have := o.lt x hx; omega
  have nv : ∀ x, x < wr.heap.size → v.ownBlock ≠ some x → v'.ownBlock ≠ some x := by
    intro x hx hn e
    rcases st.at' with q | q
    · rw [q] at e; exact hn e
    · have := q x e; omega
  refine ⟨he, ownsRow_fr h.op st.fr (fun x hx hh => ?_), ⟨wl, ownsRow_fr o st.fr (fun x hx hh => ?_), fun j hj => ?_⟩, fun x hx => ⟨nv x (lp' x hx).2 (h.d1 x hx).1, (h.d1 x hx).2⟩, fun x hx => nv x (lw' x hx).2 (h.d2 x hx), st.outer h.en h.fr hg⟩
  · have := lp' x hx
    rcases hh with e | e | e
    · omega
    · omega
    · exact (h.d1 x hx).1 e
  · have := lw' x hx
    rcases hh with e | e | e
    · omega
    · omega
    · exact h.d2 x hx e
  · obtain ⟨q, a, b, r1, r2, r3, r4⟩ := hw j hj
    refine ⟨q, a, b.fr st.fr (fun hh => ?_), r1, nv q b.lt r2, r3, r4⟩
    rcases hh with e | e | e
    · omega
    · omega
    · exact r2 e

/-- Behind the append of a bit. -/
theorem BackSt.bit {w wr wr' : World} {p g n : Nat} {v : Value} {zs : List Nat} {s : CS} {vp vw : Value} {lp lw : List (Int × Bool)} (h : BackSt w wr p g n v zs s vp vw lp lw) (x : Int × Bool) (ga cap : Nat)
    (ho : wr'.ownsRow (p + 1) 29 2 (.slice (some ⟨ga, 0, none⟩) (lp.length + 1) cap) (lp.length + 1) (bitRow lp ++ [.int .i64 x.1, .bool x.2])) (hgr : wr.grownBy wr' vp.ownBlock) (hat : vp.ownBlock = some ga ∨ ga = wr.heap.size) (hg : w.heap.size ≤ g) :
    BackSt w wr' p g n v zs s (.slice (some ⟨ga, 0, none⟩) (lp.length + 1) cap) vw (lp ++ [x]) lw := by
  obtain ⟨wl, o, hw⟩ := h.ow
  have hgp := h.en.gp
  have f : Fr (fun k => vp.ownBlock = some k) wr wr' := (Fr.refl _ wr).grown hgr (fun k hk _ => hk)
  have lp' : ∀ x, vp.ownBlock = some x → p < x ∧ x < wr.heap.size := fun x hx => by have := h.op.lt x hx; omega
  have lw' : ∀ x, vw.ownBlock = some x → p < x ∧ x < wr.heap.size := fun x hx => by have := o.lt x hx; omega
  have lv' : ∀ x, v.ownBlock = some x → p < x ∧ x < wr.heap.size := fun x hx => h.en.vlt hx
  have hpl := h.en.blk.lt
  have ng : ∀ x, x < wr.heap.size → vp.ownBlock ≠ some x → (Value.slice (some ⟨ga, 0, none⟩) (lp.length + 1) cap).ownBlock ≠ some x := by
    intro y hy hn e
    have e' : ga = y := by simpa [Value.ownBlock] using e
    rcases hat with q | q
    · rw [e'] at q; exact hn q
    · omega
  refine ⟨h.en.fr f (fun e => by have := lp' _ e; omega) (fun e => by have := lp' _ e; omega) (fun k hk e => (h.d1 k e).1 hk), ?_, ⟨wl, ownsRow_fr o f (fun k hk e => (h.d1 k e).2 hk), fun j hj => ?_⟩, fun y hy => ?_, h.d2, ?_⟩
  · rw [bitRow_snoc]; simpa using ho
  · obtain ⟨q, a, b, r1, r2, r3, r4⟩ := hw j hj
    exact ⟨q, a, b.fr f r3, r1, r2, ng q b.lt r3, r4⟩
  · have e' : ga = y := by simpa [Value.ownBlock] using hy
    subst e'
    rcases hat with q | q
    · exact h.d1 ga q
    · exact ⟨fun e => by have := (lv' _ e).2; omega, fun e => by have := (lw' _ e).2; omega⟩
  · exact h.fr.trans f (fun i hi e => by have := (lp' i e).1; omega)

/-- Behind the append of chances. -/
theorem BackSt.was {w wr wr' : World} {p g n : Nat} {v : Value} {zs : List Nat} {s : CS} {vp vw : Value} {lp lw : List (Int × Bool)} (h : BackSt w wr p g n v zs s vp vw lp lw) (x : Int × Bool) (q : Nat) (wl : List Value) (hwl : WasRow wr n v vp vw p lw wl) (o : wr.ownsRow (p + 1) 34 1 vw lw.length wl)
    (bq : Blk wr q (intRow (runC n (startC n) (lw ++ [x])).P).toArray 3) (q1 : p < q) (q2 : v.ownBlock ≠ some q) (q3 : vp.ownBlock ≠ some q) (q4 : vw.ownBlock ≠ some q) (ga cap : Nat)
    (ho : wr'.ownsRow (p + 1) 34 1 (.slice (some ⟨ga, 0, none⟩) (lw.length + 1) cap) (lw.length + 1) (wl ++ [.slice (some ⟨q, 0, none⟩) n n])) (hgr : wr.grownBy wr' vw.ownBlock) (hat : vw.ownBlock = some ga ∨ ga = wr.heap.size) (hg : w.heap.size ≤ g) :
    BackSt w wr' p g n v zs s vp (.slice (some ⟨ga, 0, none⟩) (lw.length + 1) cap) lp (lw ++ [x]) := by
  have hgp := h.en.gp
  have f : Fr (fun k => vw.ownBlock = some k) wr wr' := (Fr.refl _ wr).grown hgr (fun k hk _ => hk)
  have lp' : ∀ x, vp.ownBlock = some x → p < x ∧ x < wr.heap.size := fun x hx => by have := h.op.lt x hx; omega
  have lw' : ∀ x, vw.ownBlock = some x → p < x ∧ x < wr.heap.size := fun x hx => by have := o.lt x hx; omega
  have lv' : ∀ x, v.ownBlock = some x → p < x ∧ x < wr.heap.size := fun x hx => h.en.vlt hx
  have hpl := h.en.blk.lt
  have hl1 : wl.length = lw.length := by have := o.1; omega
  have ng : ∀ x, x < wr.heap.size → vw.ownBlock ≠ some x → (Value.slice (some ⟨ga, 0, none⟩) (lw.length + 1) cap).ownBlock ≠ some x := by
    intro y hy hn e
    have e' : ga = y := by simpa [Value.ownBlock] using e
    rcases hat with q | q
    · rw [e'] at q; exact hn q
    · omega
  refine ⟨h.en.fr f (fun e => by have := lw' _ e; omega) (fun e => by have := lw' _ e; omega) (fun k hk e => h.d2 k e hk), ownsRow_fr h.op f (fun k hk e => (h.d1 k hk).2 e), ⟨wl ++ [.slice (some ⟨q, 0, none⟩) n n], by simpa using ho, fun j hj => ?_⟩, fun y hy => ⟨(h.d1 y hy).1, ng y (lp' y hy).2 (h.d1 y hy).2⟩, fun y hy => ?_, ?_⟩
  · rw [List.length_append, List.length_singleton] at hj
    by_cases e : j < lw.length
    · obtain ⟨q', a, b, r1, r2, r3, r4⟩ := hwl j e
      refine ⟨q', ?_, ?_, r1, r2, r3, ng q' b.lt r4⟩
      · rw [List.getElem?_append_left (by omega)]; exact a
      · rw [List.take_append_of_le_length (by omega)]; exact b.fr f r4
    · obtain rfl : j = lw.length := by omega
      refine ⟨q, ?_, ?_, q1, q2, q3, ng q bq.lt q4⟩
      · rw [List.getElem?_append_right (by omega), hl1]; simp
      · rw [List.take_of_length_le (by simp)]; exact bq.fr f q4
  · have e' : ga = y := by simpa [Value.ownBlock] using hy
    subst e'
    rcases hat with q | q
    · exact h.d2 ga q
    · exact fun e => by have := (lv' _ e).2; omega
  · exact h.fr.trans f (fun i hi e => by have := (lw' i e).1; omega)

theorem BackSt.start {w wr : World} {p g n : Nat} (h : En wr p g (.slice none 0 0) [] n (startC n)) (f : Fr (fun _ => False) w wr) : BackSt w wr p g n (.slice none 0 0) [] (startC n) (.slice none 0 0) (.slice none 0 0) [] [] :=
  ⟨h, World.ownsRow_nil _ _ _ _, ⟨[], World.ownsRow_nil _ _ _ _, fun j hj => by simp at hj⟩, fun x hx => by simp [Value.ownBlock] at hx, fun x hx => by simp [Value.ownBlock] at hx, f⟩

theorem ownsRow_form2 {w : World} {base : Nat} {e : TypeId} {size : Nat} {v : Value} {n : Nat} {xs : List Value} (h : w.ownsRow base e size v n xs) : ∃ a cap, v = .slice a n cap ∧ (0 < n → ∃ g, a = some ⟨g, 0, none⟩) := by
  rcases h.2 with ⟨rfl, h0⟩ | ⟨g, cap, cur, rfl, _⟩
  · exact ⟨none, 0, by rw [h0], fun hp => by omega⟩
  · exact ⟨_, cap, rfl, fun _ => ⟨g, rfl⟩⟩

/-- What is kept while the bits are told: all of it lies below B. -/
structure BackEnd (w wx : World) (p g n B : Nat) (v : Value) (zs : List Nat) (s : CS) (vp vw : Value) (l : List (Int × Bool)) (wl : List Value) : Prop where
  en : En wx p g v zs n s
  op : wx.ownsRow (p + 1) 29 2 vp l.length (bitRow l)
  ow : wx.ownsRow (p + 1) 34 1 vw l.length wl
  rows : ∀ j, j < l.length → ∃ q, wl[j]? = some (.slice (some ⟨q, 0, none⟩) n n) ∧ Blk wx q (intRow (runC n (startC n) (l.take (j + 1))).P).toArray 3 ∧ q < B
  pB : p < B
  vB : ∀ x, v.ownBlock = some x → x < B
  lp : ∀ x, vp.ownBlock = some x → x < B
  lw : ∀ x, vw.ownBlock = some x → x < B
  fr : Fr (fun _ => False) w wx

theorem BackSt.toEnd {w wr : World} {p g n : Nat} {v : Value} {zs : List Nat} {s : CS} {vp vw : Value} {l : List (Int × Bool)} (h : BackSt w wr p g n v zs s vp vw l l) : ∃ wl, BackEnd w wr p g n wr.heap.size v zs s vp vw l wl := by
  obtain ⟨wl, o, hw⟩ := h.ow
  exact ⟨wl, h.en, h.op, o, fun j hj => by obtain ⟨q, a, b, _⟩ := hw j hj; exact ⟨q, a, b, b.lt⟩, h.en.blk.lt, fun x hx => (h.en.vlt hx).2, fun x hx => (h.op.lt x hx).2, fun x hx => (o.lt x hx).2, h.fr⟩
theorem BackEnd.far {w wx wx' : World} {p g n B : Nat} {v : Value} {zs : List Nat} {s : CS} {vp vw : Value} {l : List (Int × Bool)} {wl : List Value} {S : Nat → Prop} (h : BackEnd w wx p g n B v zs s vp vw l wl) (f : Fr S wx wx') (hS : ∀ x, S x → B ≤ x) (hB : w.heap.size ≤ B) : BackEnd w wx' p g n B v zs s vp vw l wl := by
  have hgp := h.en.gp
  have hpB := h.pB
  exact ⟨h.en.fr f (fun e => by have := hS _ e; omega) (fun e => by have := hS _ e; omega) (fun k hk e => by have := hS _ e; have := h.vB k hk; omega),
    ownsRow_fr h.op f (fun k hk e => by have := hS _ e; have := h.lp k hk; omega), ownsRow_fr h.ow f (fun k hk e => by have := hS _ e; have := h.lw k hk; omega),
    fun j hj => by obtain ⟨q, a, b, r⟩ := h.rows j hj; exact ⟨q, a, b.fr f (fun e => by have := hS _ e; omega), r⟩, h.pB, h.vB, h.lp, h.lw, h.fr.trans f (fun i hi e => by have := hS i e; omega)⟩

theorem Try.info_bit5 : (Try.prog.info? 29).map (fun i => (i.zero, i.size, i.bytes)) = some (some (.agg #[.int .i64 0, .bool false]), 2, 16) := by kernel_rfl
theorem Try.info_ints5 : (Try.prog.info? 34).map (fun i => (i.zero, i.size, i.bytes)) = some (some (.slice none 0 0), 1, 24) := by kernel_rfl
end Go.Proofs.Ytkaldidfpgipfaa
