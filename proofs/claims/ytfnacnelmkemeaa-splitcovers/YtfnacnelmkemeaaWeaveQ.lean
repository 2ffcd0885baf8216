/-
  A region that draws its order, by what each operation gives, as in Weave; the blocks that chosen operations make are told apart.
-/
import Derived.Test.YtfnacnelmkemeaaWeave
namespace Go.Proofs.Ytfnacnelmkemeaa
open Go.RowKit

/-- The block that a value points to. -/
def atBlock : Value → Option Nat
  | .pointer (some a) => some a.block
  | .slice (some a) _ _ => some a.block
  | _ => none
/-- A chosen operation's value points to a block that is new. -/
def NewB (S : Nat → Bool) (i : Nat) (v : Value) (w w' : World) : Prop := S i = true → ∃ b, atBlock v = some b ∧ w.heap.size ≤ b ∧ b < w'.heap.size
theorem NewB.no {S : Nat → Bool} {i : Nat} {v : Value} {w w' : World} (h : S i = false) : NewB S i v w w' := fun h' => by rw [h] at h'; cases h'
/-- No two of the chosen ones point to the same block. -/
def Apart (S : Nat → Bool) (n : Nat) (vals : Nat → Value) : Prop := ∀ i j, i < n → j < n → S i = true → S j = true → i ≠ j → atBlock (vals i) ≠ atBlock (vals j)
/-- What is owed for each operation. -/
def OblsQ (P : Program) (ops : Array Oper) (U : (Nat → Value) → Act) (G : World → World → Prop) (w0 : World) (Φ : Nat → Value → World → Prop) (S : Nat → Bool) : Nat → List Oper → Prop
  | _, [] => True
  | i, o :: l => (∀ vals w, G w0 w → (∀ j, behind o j = true → Φ j (vals j) w) → wpList P ops (Out (o.dst.getD 0) (U vals).defers (fun v w' => G w w' ∧ Φ i v w' ∧ NewB S i v w w')) [o] (U vals) w) ∧ OblsQ P ops U G w0 Φ S (i + 1) l
theorem OblsQ.at {P : Program} {ops : Array Oper} {U : (Nat → Value) → Act} {G : World → World → Prop} {w0 : World} {Φ : Nat → Value → World → Prop} {S : Nat → Bool} : ∀ {l : List Oper} {i j : Nat} {o : Oper}, OblsQ P ops U G w0 Φ S i l → l[j]? = some o → ∀ vals w, G w0 w → (∀ j, behind o j = true → Φ j (vals j) w) → wpList P ops (Out (o.dst.getD 0) (U vals).defers (fun v w' => G w w' ∧ Φ (i + j) v w' ∧ NewB S (i + j) v w w')) [o] (U vals) w
  | [], _, _, _, _, h => by simp at h
  | _ :: _, _, 0, _, h, e => by
    obtain rfl := Option.some.inj (by simpa using e)
    exact h.1
  | _ :: _, i, j + 1, _, h, e => by
    have := OblsQ.at (j := j) h.2 (by simpa using e)
    rwa [show i + 1 + j = i + (j + 1) by omega] at this

theorem weave_anyQ {F : Fence} {m : Nat} {P : Program} (hF : Open F P) {Q : Exit → Act → World → Prop} {A : Act} {l : List Oper} {n : Nat} (hW : Weaves l n A.tmps.size) {G : World → World → Prop} (Gt : ∀ {a b c}, G a b → G b c → G a c) {w0 : World} {Φ : Nat → Value → World → Prop} (hΦ : ∀ j v w w', Φ j v w → G w w' → Φ j v w') (Gs : ∀ {a b : World}, G a b → a.heap.size ≤ b.heap.size) (S : Nat → Bool)
    (hO : OblsQ P l.toArray (fillA A (l.take n)) G w0 Φ S 0 (l.take n)) (hT : ∀ vals w, G w0 w → (∀ j, j < n → Φ j (vals j) w) → Apart S n vals → wpListIn F m P l.toArray Q (l.drop n) (fillA A (l.take n) vals) w) :
    ∀ (fuel : Nat) (listed : Array Bool) (a : Act) (w : World) (vals : Nat → Value), listed.size = l.length → (∀ j, n ≤ j → listed.getD j false = false) → a.defers = A.defers → a.tmps.size = A.tmps.size →
      (∀ j o d, j < n → l[j]? = some o → listed.getD j false = true → o.dst = some d → a.tmps[d]? = some (vals j)) →
      (∀ d, (∀ j o, j < n → l[j]? = some o → o.dst = some d → listed.getD j false = false) → a.tmps[d]? = A.tmps[d]?) →
      G w0 w → (∀ j, listed.getD j false = true → Φ j (vals j) w) → (∀ j, listed.getD j false = true → S j = true → ∃ b, atBlock (vals j) = some b ∧ b < w.heap.size) → (∀ i j, listed.getD i false = true → listed.getD j false = true → S i = true → S j = true → i ≠ j → atBlock (vals i) ≠ atBlock (vals j)) → listed.toList.count false ≤ fuel → wpAnyIn F m P .any l.toArray Q fuel listed a w := by
  have hat : ∀ (vals : Nat → Value) {j o d}, j < n → l[j]? = some o → o.dst = some d → (fillA A (l.take n) vals).tmps[d]? = some (vals j) := by
    intro vals j o d hj ho hd
    obtain ⟨d', hd', hs, hu⟩ := hW.dst hj ho
    rw [hd] at hd'
    cases hd'
    have := fillT_at vals d (l.take n) 0 j A.tmps o (by rw [List.getElem?_take, if_pos hj]; exact ho) hd hs (fun j' o' h' hd' => hu j' o' (by rw [List.getElem?_take] at h'; split at h'; exact h'; simp at h') hd')
    rw [Nat.zero_add] at this
    exact this
  have hoth : ∀ (vals : Nat → Value) d, (∀ j o, j < n → l[j]? = some o → o.dst ≠ some d) → (fillA A (l.take n) vals).tmps[d]? = A.tmps[d]? := by
    intro vals d h
    refine fillT_other vals d _ _ _ (fun o ho => ?_)
    obtain ⟨k, hk⟩ := List.mem_iff_getElem?.1 ho
    rw [List.getElem?_take] at hk
    split at hk
    · rename_i hkn; exact h k o hkn hk
    · simp at hk
  intro fuel
  induction fuel with
  | zero =>
    intro listed a w vals hsz htl hdf hts h1 h2 hG hP hB hD hc
    have hnone : ∀ j, j < l.length → listed.getD j false = true := by
      intro j hj
      have hmem : listed[j]'(by omega) ≠ false := fun e => by
        have : false ∈ listed.toList := by rw [← e]; exact Array.getElem_mem_toList (by omega)
        have := List.count_pos_iff.2 this
        omega
      have hj' : j < listed.size := by omega
      simp only [Array.getD_eq_getD_getElem?, Array.getElem?_eq_getElem hj', Option.getD_some]
      simpa using hmem
    have hn : n = l.length := by
      rcases Nat.lt_or_ge n l.length with h | h
      · have := hnone n h; rw [htl n (Nat.le_refl _)] at this; cases this
      · have := hW.le; omega
    have hl : listed = preL l.length n := by
      apply Array.ext_getElem?
      intro j
      rw [preL_get]
      by_cases hj : j < l.length
      · have := hnone j hj
        have hj' : j < listed.size := by omega
        simp only [Array.getD_eq_getD_getElem?, Array.getElem?_eq_getElem hj', Option.getD_some] at this
        rw [if_pos hj, Array.getElem?_eq_getElem hj', this]
        simp; omega
      · rw [if_neg hj, Array.getElem?_eq_none (by omega)]
    have ha : a = fillA A (l.take n) vals := by
      have : a.tmps = (fillA A (l.take n) vals).tmps := by
        apply Array.ext_getElem?
        intro d
        by_cases hx : ∃ j o, j < n ∧ l[j]? = some o ∧ o.dst = some d
        · obtain ⟨j, o, hj, ho, hd⟩ := hx
          rw [h1 j o d hj ho (hnone j (by omega)) hd, hat vals hj ho hd]
        · rw [h2 d (fun j o hj ho hd => absurd ⟨j, o, hj, ho, hd⟩ hx), hoth vals d (fun j o hj ho hd => hx ⟨j, o, hj, ho, hd⟩)]
      cases a
      simp only [fillA] at *
      subst hdf
      rw [this]
    rw [hl, ha]
    exact weave_tail hW 0 n (Nat.le_refl _) (by omega) (by omega) _ _ (hT vals w hG (fun j hj => hP j (hnone j (by omega))) (fun i j hi hj => hD i j (hnone i (by omega)) (hnone j (by omega))))
  | succ fuel ih =>
    intro listed a w vals hsz htl hdf hts h1 h2 hG hP hB hD hc
    by_cases hall : ∀ j, j < n → listed.getD j false = true
    · have hl : listed = preL l.length n := by
        apply Array.ext_getElem?
        intro j
        rw [preL_get]
        by_cases hj : j < l.length
        · have hj' : j < listed.size := by omega
          rw [if_pos hj, Array.getElem?_eq_getElem hj']
          by_cases hjn : j < n
          · have := hall j hjn
            simp only [Array.getD_eq_getD_getElem?, Array.getElem?_eq_getElem hj', Option.getD_some] at this
            rw [this]; simp [hjn]
          · have := htl j (by omega)
            simp only [Array.getD_eq_getD_getElem?, Array.getElem?_eq_getElem hj', Option.getD_some] at this
            rw [this]; simp [hjn]
        · rw [if_neg hj, Array.getElem?_eq_none (by omega)]
      have ha : a = fillA A (l.take n) vals := by
        have : a.tmps = (fillA A (l.take n) vals).tmps := by
          apply Array.ext_getElem?
          intro d
          by_cases hx : ∃ j o, j < n ∧ l[j]? = some o ∧ o.dst = some d
          · obtain ⟨j, o, hj, ho, hd⟩ := hx
            rw [h1 j o d hj ho (hall j hj) hd, hat vals hj ho hd]
          · rw [h2 d (fun j o hj ho hd => absurd ⟨j, o, hj, ho, hd⟩ hx), hoth vals d (fun j o hj ho hd => hx ⟨j, o, hj, ho, hd⟩)]
        cases a
        simp only [fillA] at *
        subst hdf
        rw [this]
      have hcnt : l.length - n ≤ fuel + 1 := by
        refine Nat.le_trans ?_ hc
        rw [hl]
        have : (preL l.length n).toList = (List.range l.length).map fun j => decide (j < n) := by simp [preL]
        rw [this]
        have h3 : (List.range l.length) = List.range n ++ (List.range (l.length - n)).map (n + ·) := by
          rw [← List.range_add]; congr 1; have := hW.le; omega
        rw [h3, List.map_append, List.count_append]
        refine Nat.le_trans ?_ (Nat.le_add_left _ _)
        rw [List.map_map, List.count_eq_length.2 (fun b hb => by obtain ⟨j, _, rfl⟩ := List.mem_map.1 hb; simp)]
        simp
      rw [hl, ha]
      exact weave_tail hW (fuel + 1) n (Nat.le_refl _) hW.le hcnt _ _ (hT vals w hG (fun j hj => hP j (hall j hj)) (fun i j hi hj => hD i j (hall i hi) (hall j hj)))
    · have hun : ∃ j, j < n ∧ listed.getD j false = false ∧ ∀ k, k < j → listed.getD k false = true := by
        have : ∃ j, j < n ∧ listed.getD j false = false := by
          apply Classical.byContradiction
          intro hno
          exact hall fun j hj => by
            cases hb : listed.getD j false with
            | true => rfl
            | false => exact absurd ⟨j, hj, hb⟩ hno
        obtain ⟨j, hj, hb⟩ := this
        induction j using Nat.strongRecOn with
        | ind j ihj =>
          by_cases hk : ∀ k, k < j → listed.getD k false = true
          · exact ⟨j, hj, hb, hk⟩
          · have : ∃ k, k < j ∧ listed.getD k false = false := by
              apply Classical.byContradiction
              intro hno
              exact hk fun k hkj => by
                cases hb' : listed.getD k false with
                | true => rfl
                | false => exact absurd ⟨k, hkj, hb'⟩ hno
            obtain ⟨k, hkj, hkb⟩ := this
            exact ihj k hkj (by omega) hkb
      obtain ⟨j0, hj0, hb0, hlow⟩ := hun
      have hj0l : j0 < l.length := by have := hW.le; omega
      have hr0 : j0 ∈ Region.ready .any l.toArray listed := by
        refine mem_ready.2 ⟨?_, l[j0], by simp [hj0l], fun e he _ => hlow _ (hW.low hj0 (List.getElem?_eq_getElem hj0l) e he)⟩
        have hj' : j0 < listed.size := by omega
        simp only [Array.getD_eq_getD_getElem?, Array.getElem?_eq_getElem hj', Option.getD_some] at hb0 ⊢
        exact hb0
      refine ⟨fun hr => (by rw [hr] at hr0; simp at hr0), fun i hi => ?_⟩
      obtain ⟨hiu, o, ho, _⟩ := mem_ready.1 hi
      have ho' : l[i]? = some o := by simpa using ho
      have hil : i < l.length := (List.getElem?_eq_some_iff.1 ho').1
      have hin : i < n := by
        rcases Nat.lt_or_ge i n with h | h
        · exact h
        · have := behind_ready hi ho (hW.tail h ho' j0 hj0)
          rw [hb0] at this; cases this
      obtain ⟨d, hd, hds, hdu⟩ := hW.dst hin ho'
      have hpl := hW.plain hin ho'
      have hob := hO.at (j := i) (by rw [List.getElem?_take, if_pos hin]; exact ho') vals w hG (fun j hj => hP j (behind_ready hi ho hj))
      rw [hd, Nat.zero_add] at hob
      have hsU : d < (fillA A (l.take n) vals).tmps.size := by simp only [fillA]; rw [fillT_size]; exact hds
      have hst := step_congr (b := a) (opPlain_sel hpl) (fun d' hd' => by
        by_cases hx : ∃ j o', j < n ∧ l[j]? = some o' ∧ o'.dst = some d'
        · obtain ⟨j, o', hj, hjo, hjd⟩ := hx
          rw [hat vals hj hjo hjd, h1 j o' d' hj hjo (behind_ready hi ho (hW.looks hin ho' d' hd' j o' hjo hjd)) hjd]
        · rw [hoth vals d' (fun j o hj ho hd => hx ⟨j, o, hj, ho, hd⟩), h2 d' (fun j o hj ho hd => absurd ⟨j, o, hj, ho, hd⟩ hx)]) (step_of_list hd hsU hob)
      have hil' : i < listed.size := by omega
      have hib : listed.getD i false = false := by
        simp only [Array.getD_eq_getD_getElem?, Array.getElem?_eq_getElem hil', Option.getD_some] at hiu ⊢
        exact hiu
      refine wpOpIn_of_step hF ho (opPlain_def hpl) hst ?_
      rintro v w' ⟨hg, hphi, hnb⟩
      rw [hd]
      have hset : ∀ j, (listed.setIfInBounds i true).getD j false = if j = i then true else listed.getD j false := by
        intro j
        by_cases e : j = i
        · subst e; simp [hil']
        · rw [if_neg e, getD_set_ne false (fun h => e h.symm)]
      refine ih _ _ _ (fun k => if k = i then v else vals k) (by simpa using hsz) ?_ hdf (by simp [Act.put, hts]) ?_ ?_ (Gt hG hg) ?_ ?_ ?_ ?_
      · intro j hj
        rw [hset, if_neg (by omega)]
        exact htl j hj
      · intro j o' d' hj hjo hjl hjd
        rw [hset] at hjl
        by_cases e : j = i
        · subst e
          rw [ho'] at hjo
          cases hjo
          rw [hd] at hjd
          cases hjd
          simp only [Act.put, if_true]
          rw [Array.getElem?_setIfInBounds_self_of_lt (by rw [hts]; exact hds)]
        · rw [if_neg e] at hjl
          have hne : d ≠ d' := fun h => e (hdu j o' hjo (by rw [h]; exact hjd))
          simp only [Act.put, if_neg e]
          rw [Array.getElem?_setIfInBounds_ne hne]
          exact h1 j o' d' hj hjo hjl hjd
      · intro d' hx
        have hne : d ≠ d' := fun h => by
          have := hx i o hin ho' (by rw [hd, h])
          rw [hset, if_pos rfl] at this
          cases this
        simp only [Act.put]
        rw [Array.getElem?_setIfInBounds_ne hne]
        refine h2 d' (fun j o' hj hjo hjd => ?_)
        have := hx j o' hj hjo hjd
        rw [hset] at this
        split at this
        · cases this
        · exact this
      · intro j hjl
        rw [hset] at hjl
        by_cases e : j = i
        · subst e; simp only [if_true]; exact hphi
        · rw [if_neg e] at hjl; simp only [if_neg e]; exact hΦ j _ _ _ (hP j hjl) hg
      · intro j hjl hSj
        rw [hset] at hjl
        by_cases e : j = i
        · subst e; simp only [if_true]
          obtain ⟨b, e1, _, e3⟩ := hnb hSj
          exact ⟨b, e1, e3⟩
        · rw [if_neg e] at hjl; simp only [if_neg e]
          obtain ⟨b, e1, e2⟩ := hB j hjl hSj
          exact ⟨b, e1, Nat.lt_of_lt_of_le e2 (Gs hg)⟩
      · intro j j' hjl hjl' hSj hSj' hne
        rw [hset] at hjl hjl'
        by_cases e : j = i
        · subst e
          have e' : j' ≠ j := fun h => hne h.symm
          rw [if_neg e'] at hjl'
          simp only [if_true, if_neg e']
          obtain ⟨b, e1, e2, _⟩ := hnb hSj
          obtain ⟨b', e3, e4⟩ := hB j' hjl' hSj'
          rw [e1, e3]
          intro h
          cases h
          omega
        · rw [if_neg e] at hjl
          by_cases e' : j' = i
          · subst e'
            simp only [if_true, if_neg e]
            obtain ⟨b, e1, e2, _⟩ := hnb hSj'
            obtain ⟨b', e3, e4⟩ := hB j hjl hSj
            rw [e1, e3]
            intro h
            cases h
            omega
          · rw [if_neg e'] at hjl'
            simp only [if_neg e, if_neg e']
            exact hD j j' hjl hjl' hSj hSj' hne
      · have hcs : (listed.setIfInBounds i true).toList.count false + 1 = listed.toList.count false := by
          rw [Array.toList_setIfInBounds, List.count_set (by simpa using hil')]
          have hmem : listed.toList[i]'(by simpa using hil') = false := by
            simp only [Array.getD_eq_getD_getElem?, Array.getElem?_eq_getElem hil', Option.getD_some] at hib
            simpa using hib
          have hpos : 0 < listed.toList.count false := List.count_pos_iff.2 (by rw [← hmem]; exact List.getElem_mem _)
          rw [hmem, if_pos (by decide), if_neg (by decide)]
          omega
        omega

/-- A region that draws its order, by what each operation gives; at a fence that lets all by. -/
theorem weaveInQ {F : Fence} {m : Nat} {P : Program} (hF : Open F P) {id : Nat} {Q : Exit → Act → World → Prop} {A : Act} {w : World} {l : List Oper} (n : Nat) (hm : P.follows .mixedOrders = true) (hB : weaveB l n A.tmps.size = true) (G : World → World → Prop) (Gr : ∀ w, G w w) (Gt : ∀ {a b c}, G a b → G b c → G a c) (Φ : Nat → Value → World → Prop) (hΦ : ∀ j v w w', Φ j v w → G w w' → Φ j v w') (Gs : ∀ {a b : World}, G a b → a.heap.size ≤ b.heap.size) (S : Nat → Bool)
    (hO : OblsQ P l.toArray (fillA A (l.take n)) G w.drew Φ S 0 (l.take n)) (hT : ∀ vals w', G w.drew w' → (∀ j, j < n → Φ j (vals j) w') → Apart S n vals → wpListIn F m P l.toArray Q (l.drop n) (fillA A (l.take n) vals) w') : (Code.region id l.toArray true).wpIn F m P Q A w := by
  refine wpIn_region_any hm ?_
  refine weave_anyQ (w0 := w.drew) (G := G) (Φ := Φ) hF (weaves_of hB) Gt hΦ Gs S hO hT _ _ _ _ (fun _ => undef) (by simp) (fun j _ => ?_) rfl rfl (fun j o d _ _ h => ?_) (fun _ _ => rfl) (Gr _) (fun j h => ?_) (fun j h => ?_) (fun i j h => ?_) ?_
  · rw [preL_zero, Array.getD_eq_getD_getElem?, preL_get]; split <;> simp
  · rw [preL_zero, Array.getD_eq_getD_getElem?, preL_get] at h; split at h <;> simp at h
  · rw [preL_zero, Array.getD_eq_getD_getElem?, preL_get] at h; split at h <;> simp at h
  · rw [preL_zero, Array.getD_eq_getD_getElem?, preL_get] at h; split at h <;> simp at h
  · rw [preL_zero, Array.getD_eq_getD_getElem?, preL_get] at h; split at h <;> simp at h
  · simp
theorem weaveQ {P : Program} {id : Nat} {Q : Exit → Act → World → Prop} {A : Act} {w : World} {l : List Oper} (n : Nat) (hm : P.follows .mixedOrders = true) (hB : weaveB l n A.tmps.size = true) (G : World → World → Prop) (Gr : ∀ w, G w w) (Gt : ∀ {a b c}, G a b → G b c → G a c) (Φ : Nat → Value → World → Prop) (hΦ : ∀ j v w w', Φ j v w → G w w' → Φ j v w') (Gs : ∀ {a b : World}, G a b → a.heap.size ≤ b.heap.size) (S : Nat → Bool)
    (hO : OblsQ P l.toArray (fillA A (l.take n)) G w.drew Φ S 0 (l.take n)) (hT : ∀ vals w', G w.drew w' → (∀ j, j < n → Φ j (vals j) w') → Apart S n vals → wpListIn Fence.wide 0 P l.toArray Q (l.drop n) (fillA A (l.take n) vals) w') : (Code.region id l.toArray true).wp P Q A w :=
  wpIn_wide.1 (weaveInQ (open_wide P) n hm hB G Gr Gt Φ hΦ Gs S hO hT)


theorem weaveSQ {P : Program} {id : Nat} {Q : Exit → Act → World → Prop} {A : Act} {w : World} {l : List Oper} (n : Nat) (ps : List StayP) (S : List Nat) (hm : P.follows .mixedOrders = true) (hB : weaveB l n A.tmps.size = true)
    (hO : OblsQ P l.toArray (fillA A (l.take n)) (Fr (fun _ => False)) w.drew (phiOf ps) (fun i => S.contains i) 0 (l.take n)) (hT : ∀ vals w', Fr (fun _ => False) w.drew w' → (∀ j, j < n → phiOf ps j (vals j) w') → Apart (fun i => S.contains i) n vals → wpListIn Fence.wide 0 P l.toArray Q (l.drop n) (fillA A (l.take n) vals) w') : (Code.region id l.toArray true).wp P Q A w :=
  weaveQ n hm hB (Fr (fun _ => False)) (Fr.refl _) Fr.trans' (phiOf ps) (fun j _ _ _ h f => (ps.getD j StayP.any).st h f) (fun f => f.size) (fun i => S.contains i) hO hT
end Go.Proofs.Ytfnacnelmkemeaa
