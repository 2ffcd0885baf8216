/-
  A region that draws its order, by what each operation gives: where the last operations come behind the first by way of others.
-/
import Derived.Test.YtkndnibmgohcaaaWeave
namespace Go.Proofs.Ytkndnibmgohcaaa
open Go.RowKit

/-- What is asked of a region: the first n operations give a value each, in a slot of their own; they look at none that an operation gives which is not ahead of them; the others come behind all these, in their order. -/
def weaveBT (l : List Oper) (n s : Nat) : Bool :=
  decide (n ≤ l.length) &&
  ((List.range n).all fun i => match l[i]? with
    | none => false
    | some o => (o.after.all fun e => decide (e.on < i)) && (match o.dst with
        | none => false
        | some d => decide (d < s) && (List.range l.length).all fun j => j == i || (l[j]?.bind (·.dst)) != some d) && opPlain o &&
      (o.looksAt l.toArray).all fun d => (List.range n).all fun j => (l[j]?.bind (·.dst)) != some d || behind o j) &&
  ((List.range l.length).all fun k => decide (k < n) || match l[k]? with
    | none => false
    | some o => (((List.range l.length).any fun k' => decide (n ≤ k') && behind o k') || (List.range n).all fun j => behind o j || (List.range n).any fun j' => decide (j < j') && ((l[j']?.map fun o' => behind o' j).getD false)) && Region.ready .any l.toArray (preL l.length k) == [k]) &&
  Region.ready .any l.toArray (preL l.length l.length) == []

structure WeavesT (l : List Oper) (n s : Nat) : Prop where
  le : n ≤ l.length
  low : ∀ {i o}, i < n → l[i]? = some o → ∀ e ∈ o.after, e.on < i
  dst : ∀ {i o}, i < n → l[i]? = some o → ∃ d, o.dst = some d ∧ d < s ∧ ∀ j o', l[j]? = some o' → o'.dst = some d → j = i
  plain : ∀ {i o}, i < n → l[i]? = some o → opPlain o = true
  looks : ∀ {i o}, i < n → l[i]? = some o → ∀ d ∈ o.looksAt l.toArray, ∀ j o', j < n → l[j]? = some o' → o'.dst = some d → behind o j = true
  tail : ∀ {k o}, n ≤ k → l[k]? = some o → (∃ k', n ≤ k' ∧ behind o k' = true) ∨ ∀ j, j < n → behind o j = true ∨ ∃ j' o', j < j' ∧ j' < n ∧ l[j']? = some o' ∧ behind o' j = true
  ready : ∀ {k}, n ≤ k → k < l.length → Region.ready .any l.toArray (preL l.length k) = [k]
  done : Region.ready .any l.toArray (preL l.length l.length) = []

theorem weaves_ofT {l : List Oper} {n s : Nat} (h : weaveBT l n s = true) : WeavesT l n s := by
  simp only [weaveBT, Bool.and_eq_true, decide_eq_true_eq, List.all_eq_true, List.mem_range, beq_iff_eq] at h
  obtain ⟨⟨⟨hle, hh⟩, ht⟩, hd⟩ := h
  refine ⟨hle, ?_, ?_, ?_, ?_, ?_, ?_, hd⟩
  · intro i o hi ho e he
    have := hh i hi
    rw [ho] at this
    simp only [Bool.and_eq_true, Array.all_eq_true_iff_forall_mem, decide_eq_true_eq] at this
    exact this.1.1.1 e he
  · intro i o hi ho
    have := hh i hi
    rw [ho] at this
    simp only [Bool.and_eq_true] at this
    obtain ⟨⟨⟨_, h1⟩, _⟩, _⟩ := this
    cases hdo : o.dst with
    | none => rw [hdo] at h1; simp at h1
    | some d =>
      rw [hdo] at h1
      simp only [Bool.and_eq_true, decide_eq_true_eq, List.all_eq_true, List.mem_range, Bool.or_eq_true, beq_iff_eq, bne_iff_ne] at h1
      refine ⟨d, rfl, h1.1, fun j o' hj hd' => ?_⟩
      have hjl : j < l.length := (List.getElem?_eq_some_iff.1 hj).1
      rcases h1.2 j hjl with e | e
      · exact e
      · rw [hj] at e; exact absurd hd' e
  · intro i o hi ho
    have := hh i hi
    rw [ho] at this
    simp only [Bool.and_eq_true] at this
    exact this.1.2
  · intro i o hi ho d hd j o' hjn hj hd'
    have := hh i hi
    rw [ho] at this
    simp only [Bool.and_eq_true, List.all_eq_true, List.mem_range, Bool.or_eq_true, bne_iff_ne] at this
    rcases this.2 d hd j hjn with e | e
    · rw [hj] at e; exact absurd hd' e
    · exact e
  · intro k o hk ho
    have hkl : k < l.length := (List.getElem?_eq_some_iff.1 ho).1
    have := ht k hkl
    rw [ho] at this
    simp only [Bool.or_eq_true, decide_eq_true_eq, Bool.and_eq_true, List.all_eq_true, List.mem_range] at this
    rcases this with e | e
    · omega
    · rcases e.1 with e | e
      · simp only [List.any_eq_true, List.mem_range, Bool.and_eq_true, decide_eq_true_eq] at e
        obtain ⟨k', _, h1, h2⟩ := e
        exact .inl ⟨k', h1, h2⟩
      · refine .inr fun j hj => ?_
        rcases e j hj with e | e
        · exact .inl e
        · simp only [List.any_eq_true, List.mem_range, Bool.and_eq_true, decide_eq_true_eq] at e
          obtain ⟨j', hj', h1, h2⟩ := e
          cases ho' : l[j']? with
          | none => rw [ho'] at h2; simp at h2
          | some o' => rw [ho'] at h2; exact .inr ⟨j', o', h1, hj', ho', by simpa using h2⟩
  · intro k hk hkl
    have := ht k hkl
    have ho := List.getElem?_eq_getElem hkl
    rw [ho] at this
    simp only [Bool.or_eq_true, decide_eq_true_eq, Bool.and_eq_true, beq_iff_eq] at this
    rcases this with e | e
    · omega
    · exact e.2


theorem weave_tailT {F : Fence} {m : Nat} {P : Program} {Q : Exit → Act → World → Prop} {l : List Oper} {n s : Nat} (hW : WeavesT l n s) : ∀ (t k : Nat), n ≤ k → k ≤ l.length → l.length - k ≤ t → ∀ (a : Act) (w : World), wpListIn F m P l.toArray Q (l.drop k) a w → wpAnyIn F m P .any l.toArray Q t (preL l.length k) a w
  | 0, k, _, hkl, ht, a, w, h => by
    obtain rfl : k = l.length := by omega
    rw [List.drop_length] at h
    exact ⟨hW.done, h⟩
  | t + 1, k, hk, hkl, ht, a, w, h => by
    by_cases e : k = l.length
    · subst e
      rw [List.drop_length] at h
      exact ⟨fun _ => h, fun i hi => by rw [hW.done] at hi; simp at hi⟩
    · have hlt : k < l.length := by omega
      refine ⟨fun hr => (by rw [hW.ready hk hlt] at hr; simp at hr), fun i hi => ?_⟩
      rw [hW.ready hk hlt, List.mem_singleton] at hi
      subst hi
      rw [preL_set]
      have hd : l.drop i = l[i] :: l.drop (i + 1) := List.drop_eq_getElem_cons hlt
      rw [hd] at h
      unfold wpOpIn
      have ho : l.toArray[i]? = some l[i] := by simp [hlt]
      simp only [ho]
      unfold wpListIn at h
      split
      · rename_i hw
        rw [if_pos hw] at h
        exact Oper.wpIn_mono (fun a w h => weave_tailT hW t (i + 1) (by omega) (by omega) (by omega) a w h) h
      · rename_i hw
        rw [if_neg hw] at h
        exact ⟨h.1, weave_tailT hW t (i + 1) (by omega) (by omega) (by omega) _ w h.2⟩

theorem weave_anyT {F : Fence} {m : Nat} {P : Program} (hF : Open F P) {Q : Exit → Act → World → Prop} {A : Act} {l : List Oper} {n : Nat} (hW : WeavesT l n A.tmps.size) {G : World → World → Prop} (Gt : ∀ {a b c}, G a b → G b c → G a c) {w0 : World} {Φ : Nat → Value → World → Prop} (hΦ : ∀ j v w w', Φ j v w → G w w' → Φ j v w')
    (hO : Obls P l.toArray (fillA A (l.take n)) G w0 Φ 0 (l.take n)) (hT : ∀ vals w, G w0 w → (∀ j, j < n → Φ j (vals j) w) → wpListIn F m P l.toArray Q (l.drop n) (fillA A (l.take n) vals) w) :
    ∀ (fuel : Nat) (listed : Array Bool) (a : Act) (w : World) (vals : Nat → Value), listed.size = l.length → (∀ j o, l[j]? = some o → listed.getD j false = true → ∀ j', behind o j' = true → listed.getD j' false = true) → (∀ j, n ≤ j → listed.getD j false = false) → a.defers = A.defers → a.tmps.size = A.tmps.size →
      (∀ j o d, j < n → l[j]? = some o → listed.getD j false = true → o.dst = some d → a.tmps[d]? = some (vals j)) →
      (∀ d, (∀ j o, j < n → l[j]? = some o → o.dst = some d → listed.getD j false = false) → a.tmps[d]? = A.tmps[d]?) →
      G w0 w → (∀ j, listed.getD j false = true → Φ j (vals j) w) → listed.toList.count false ≤ fuel → wpAnyIn F m P .any l.toArray Q fuel listed a w := by
  have hat : ∀ (vals : Nat → Value) {j o d}, j < n → l[j]? = some o → o.dst = some d → (fillA A (l.take n) vals).tmps[d]? = some (vals j) := by
    intro vals j o d hj ho hd
    obtain ⟨d', hd', hs, hu⟩ := hW.dst hj ho
    rw [hd] at hd'
    cases hd'
    have := fillT_at vals d (l.take n) 0 j A.tmps o (by rw [List.getElem?_take, if_pos hj]; exact ho) hd hs (fun j' o' h' hd' => hu j' o' (by rw [List.getElem?_take] at h'; split at h'; exact h'; simp at h') hd')
    rw [Nat.zero_add] at this
    exact this
  have hoth : ∀ (vals : Nat → Value) d, (∀ j o, j < n → l[j]? = some o → o.dst ≠ some d) → (fillA A (l.take n) vals).tmps[d]? = A.tmps[d]? := by
    intro vals d h
    refine fillT_other vals d _ _ _ (fun o ho => ?_)
    obtain ⟨k, hk⟩ := List.mem_iff_getElem?.1 ho
    rw [List.getElem?_take] at hk
    split at hk
    · rename_i hkn; exact h k o hkn hk
    · simp at hk
  intro fuel
  induction fuel with
  | zero =>
    intro listed a w vals hsz hdc htl hdf hts h1 h2 hG hP hc
    have hnone : ∀ j, j < l.length → listed.getD j false = true := by
      intro j hj
      have hmem : listed[j]'(by omega) ≠ false := fun e => by
        have : false ∈ listed.toList := by rw [← e]; exact Array.getElem_mem_toList (by omega)
        have := List.count_pos_iff.2 this
        omega
      have hj' : j < listed.size := by omega
      simp only [Array.getD_eq_getD_getElem?, Array.getElem?_eq_getElem hj', Option.getD_some]
      simpa using hmem
    have hn : n = l.length := by
      rcases Nat.lt_or_ge n l.length with h | h
      · have := hnone n h; rw [htl n (Nat.le_refl _)] at this; cases this
      · have := hW.le; omega
    have hl : listed = preL l.length n := by
      apply Array.ext_getElem?
      intro j
      rw [preL_get]
      by_cases hj : j < l.length
      · have := hnone j hj
        have hj' : j < listed.size := by omega
        simp only [Array.getD_eq_getD_getElem?, Array.getElem?_eq_getElem hj', Option.getD_some] at this
        rw [if_pos hj, Array.getElem?_eq_getElem hj', this]
        simp; omega
      · rw [if_neg hj, Array.getElem?_eq_none (by omega)]
    have ha : a = fillA A (l.take n) vals := by
      have : a.tmps = (fillA A (l.take n) vals).tmps := by
        apply Array.ext_getElem?
        intro d
        by_cases hx : ∃ j o, j < n ∧ l[j]? = some o ∧ o.dst = some d
        · obtain ⟨j, o, hj, ho, hd⟩ := hx
          rw [h1 j o d hj ho (hnone j (by omega)) hd, hat vals hj ho hd]
        · rw [h2 d (fun j o hj ho hd => absurd ⟨j, o, hj, ho, hd⟩ hx), hoth vals d (fun j o hj ho hd => hx ⟨j, o, hj, ho, hd⟩)]
      cases a
      simp only [fillA] at *
      subst hdf
      rw [this]
    rw [hl, ha]
    exact weave_tailT hW 0 n (Nat.le_refl _) (by omega) (by omega) _ _ (hT vals w hG (fun j hj => hP j (hnone j (by omega))))
  | succ fuel ih =>
    intro listed a w vals hsz hdc htl hdf hts h1 h2 hG hP hc
    by_cases hall : ∀ j, j < n → listed.getD j false = true
    · have hl : listed = preL l.length n := by
        apply Array.ext_getElem?
        intro j
        rw [preL_get]
        by_cases hj : j < l.length
        · have hj' : j < listed.size := by omega
          rw [if_pos hj, Array.getElem?_eq_getElem hj']
          by_cases hjn : j < n
          · have := hall j hjn
            simp only [Array.getD_eq_getD_getElem?, Array.getElem?_eq_getElem hj', Option.getD_some] at this
            rw [this]; simp [hjn]
          · have := htl j (by omega)
            simp only [Array.getD_eq_getD_getElem?, Array.getElem?_eq_getElem hj', Option.getD_some] at this
            rw [this]; simp [hjn]
        · rw [if_neg hj, Array.getElem?_eq_none (by omega)]
      have ha : a = fillA A (l.take n) vals := by
        have : a.tmps = (fillA A (l.take n) vals).tmps := by
          apply Array.ext_getElem?
          intro d
          by_cases hx : ∃ j o, j < n ∧ l[j]? = some o ∧ o.dst = some d
          · obtain ⟨j, o, hj, ho, hd⟩ := hx
            rw [h1 j o d hj ho (hall j hj) hd, hat vals hj ho hd]
          · rw [h2 d (fun j o hj ho hd => absurd ⟨j, o, hj, ho, hd⟩ hx), hoth vals d (fun j o hj ho hd => hx ⟨j, o, hj, ho, hd⟩)]
        cases a
        simp only [fillA] at *
        subst hdf
        rw [this]
      have hcnt : l.length - n ≤ fuel + 1 := by
        refine Nat.le_trans ?_ hc
        rw [hl]
        have : (preL l.length n).toList = (List.range l.length).map fun j => decide (j < n) := by simp [preL]
        rw [this]
        have h3 : (List.range l.length) = List.range n ++ (List.range (l.length - n)).map (n + ·) := by
          rw [← List.range_add]; congr 1; have := hW.le; omega
        rw [h3, List.map_append, List.count_append]
        refine Nat.le_trans ?_ (Nat.le_add_left _ _)
        rw [List.map_map, List.count_eq_length.2 (fun b hb => by obtain ⟨j, _, rfl⟩ := List.mem_map.1 hb; simp)]
        simp
      rw [hl, ha]
      exact weave_tailT hW (fuel + 1) n (Nat.le_refl _) hW.le hcnt _ _ (hT vals w hG (fun j hj => hP j (hall j hj)))
    · have hun : ∃ j, j < n ∧ listed.getD j false = false ∧ ∀ k, k < j → listed.getD k false = true := by
        have : ∃ j, j < n ∧ listed.getD j false = false := by
          apply Classical.byContradiction
          intro hno
          exact hall fun j hj => by
            cases hb : listed.getD j false with
            | true => rfl
            | false => exact absurd ⟨j, hj, hb⟩ hno
        obtain ⟨j, hj, hb⟩ := this
        induction j using Nat.strongRecOn with
        | ind j ihj =>
          by_cases hk : ∀ k, k < j → listed.getD k false = true
          · exact ⟨j, hj, hb, hk⟩
          · have : ∃ k, k < j ∧ listed.getD k false = false := by
              apply Classical.byContradiction
              intro hno
              exact hk fun k hkj => by
                cases hb' : listed.getD k false with
                | true => rfl
                | false => exact absurd ⟨k, hkj, hb'⟩ hno
            obtain ⟨k, hkj, hkb⟩ := this
            exact ihj k hkj (by omega) hkb
      obtain ⟨j0, hj0, hb0, hlow⟩ := hun
      have hj0l : j0 < l.length := by have := hW.le; omega
      have hr0 : j0 ∈ Region.ready .any l.toArray listed := by
        refine mem_ready.2 ⟨?_, l[j0], by simp [hj0l], fun e he _ => hlow _ (hW.low hj0 (List.getElem?_eq_getElem hj0l) e he)⟩
        have hj' : j0 < listed.size := by omega
        simp only [Array.getD_eq_getD_getElem?, Array.getElem?_eq_getElem hj', Option.getD_some] at hb0 ⊢
        exact hb0
      refine ⟨fun hr => (by rw [hr] at hr0; simp at hr0), fun i hi => ?_⟩
      obtain ⟨hiu, o, ho, _⟩ := mem_ready.1 hi
      have ho' : l[i]? = some o := by simpa using ho
      have hil : i < l.length := (List.getElem?_eq_some_iff.1 ho').1
      have hin : i < n := by
        rcases Nat.lt_or_ge i n with h | h
        · exact h
        · exfalso
          rcases hW.tail h ho' with ⟨k', hk', e⟩ | hWt
          · have := behind_ready hi ho e
            rw [htl k' hk'] at this; cases this
          have key : ∀ k j, j < n → n - j ≤ k → listed.getD j false = true := by
            intro k
            induction k with
            | zero => intro j hj hk; omega
            | succ k ihk =>
              intro j hj hk
              rcases hWt j hj with e | ⟨j', o', h1, h2, h3, h4⟩
              · exact behind_ready hi ho e
              · exact hdc j' o' h3 (ihk j' h2 (by omega)) j h4
          have := key n j0 hj0 (by omega)
          rw [hb0] at this; cases this
      obtain ⟨d, hd, hds, hdu⟩ := hW.dst hin ho'
      have hpl := hW.plain hin ho'
      have hob := hO.at (j := i) (by rw [List.getElem?_take, if_pos hin]; exact ho') vals w hG (fun j hj => hP j (behind_ready hi ho hj))
      rw [hd, Nat.zero_add] at hob
      have hsU : d < (fillA A (l.take n) vals).tmps.size := by simp only [fillA]; rw [fillT_size]; exact hds
      have hst := step_congr (b := a) (opPlain_sel hpl) (fun d' hd' => by
        by_cases hx : ∃ j o', j < n ∧ l[j]? = some o' ∧ o'.dst = some d'
        · obtain ⟨j, o', hj, hjo, hjd⟩ := hx
          rw [hat vals hj hjo hjd, h1 j o' d' hj hjo (behind_ready hi ho (hW.looks hin ho' d' hd' j o' hj hjo hjd)) hjd]
        · rw [hoth vals d' (fun j o hj ho hd => hx ⟨j, o, hj, ho, hd⟩), h2 d' (fun j o hj ho hd => absurd ⟨j, o, hj, ho, hd⟩ hx)]) (step_of_list hd hsU hob)
      have hil' : i < listed.size := by omega
      have hib : listed.getD i false = false := by
        simp only [Array.getD_eq_getD_getElem?, Array.getElem?_eq_getElem hil', Option.getD_some] at hiu ⊢
        exact hiu
      refine wpOpIn_of_step hF ho (opPlain_def hpl) hst ?_
      rintro v w' ⟨hg, hphi⟩
      rw [hd]
      have hset : ∀ j, (listed.setIfInBounds i true).getD j false = if j = i then true else listed.getD j false := by
        intro j
        by_cases e : j = i
        · subst e; simp [hil']
        · rw [if_neg e, getD_set_ne false (fun h => e h.symm)]
      refine ih _ _ _ (fun k => if k = i then v else vals k) (by simpa using hsz) ?_ ?_ hdf (by simp [Act.put, hts]) ?_ ?_ (Gt hG hg) ?_ ?_
      · intro j o' hjo hjl j' hb
        rw [hset] at hjl ⊢
        by_cases e' : j' = i
        · rw [if_pos e']
        · rw [if_neg e']
          by_cases e : j = i
          · subst e
            rw [ho'] at hjo
            cases hjo
            exact behind_ready hi ho hb
          · rw [if_neg e] at hjl
            exact hdc j o' hjo hjl j' hb
      · intro j hj
        rw [hset, if_neg (by omega)]
        exact htl j hj
      · intro j o' d' hj hjo hjl hjd
        rw [hset] at hjl
        by_cases e : j = i
        · subst e
          rw [ho'] at hjo
          cases hjo
          rw [hd] at hjd
          cases hjd
          simp only [Act.put, if_true]
          rw [Array.getElem?_setIfInBounds_self_of_lt (by rw [hts]; exact hds)]
        · rw [if_neg e] at hjl
          have hne : d ≠ d' := fun h => e (hdu j o' hjo (by rw [h]; exact hjd))
          simp only [Act.put, if_neg e]
          rw [Array.getElem?_setIfInBounds_ne hne]
          exact h1 j o' d' hj hjo hjl hjd
      · intro d' hx
        have hne : d ≠ d' := fun h => by
          have := hx i o hin ho' (by rw [hd, h])
          rw [hset, if_pos rfl] at this
          cases this
        simp only [Act.put]
        rw [Array.getElem?_setIfInBounds_ne hne]
        refine h2 d' (fun j o' hj hjo hjd => ?_)
        have := hx j o' hj hjo hjd
        rw [hset] at this
        split at this
        · cases this
        · exact this
      · intro j hjl
        rw [hset] at hjl
        by_cases e : j = i
        · subst e; simp only [if_true]; exact hphi
        · rw [if_neg e] at hjl; simp only [if_neg e]; exact hΦ j _ _ _ (hP j hjl) hg
      · have hcs : (listed.setIfInBounds i true).toList.count false + 1 = listed.toList.count false := by
          rw [Array.toList_setIfInBounds, List.count_set (by simpa using hil')]
          have hmem : listed.toList[i]'(by simpa using hil') = false := by
            simp only [Array.getD_eq_getD_getElem?, Array.getElem?_eq_getElem hil', Option.getD_some] at hib
            simpa using hib
          have hpos : 0 < listed.toList.count false := List.count_pos_iff.2 (by rw [← hmem]; exact List.getElem_mem _)
          rw [hmem, if_pos (by decide), if_neg (by decide)]
          omega
        omega

/-- A region that draws its order, by what each operation gives; at a fence that lets all by. -/
theorem weaveInT {F : Fence} {m : Nat} {P : Program} (hF : Open F P) {id : Nat} {Q : Exit → Act → World → Prop} {A : Act} {w : World} {l : List Oper} (n : Nat) (hm : P.follows .mixedOrders = true) (hB : weaveBT l n A.tmps.size = true) (G : World → World → Prop) (Gr : ∀ w, G w w) (Gt : ∀ {a b c}, G a b → G b c → G a c) (Φ : Nat → Value → World → Prop) (hΦ : ∀ j v w w', Φ j v w → G w w' → Φ j v w')
    (hO : Obls P l.toArray (fillA A (l.take n)) G w.drew Φ 0 (l.take n)) (hT : ∀ vals w', G w.drew w' → (∀ j, j < n → Φ j (vals j) w') → wpListIn F m P l.toArray Q (l.drop n) (fillA A (l.take n) vals) w') : (Code.region id l.toArray true).wpIn F m P Q A w := by
  refine wpIn_region_any hm ?_
  refine weave_anyT (w0 := w.drew) (G := G) (Φ := Φ) hF (weaves_ofT hB) Gt hΦ hO hT _ _ _ _ (fun _ => undef) (by simp) (fun j o _ h => ?_) (fun j _ => ?_) rfl rfl (fun j o d _ _ h => ?_) (fun _ _ => rfl) (Gr _) (fun j h => ?_) ?_
  · rw [preL_zero, Array.getD_eq_getD_getElem?, preL_get] at h; split at h <;> simp at h
  · rw [preL_zero, Array.getD_eq_getD_getElem?, preL_get]; split <;> simp
  · rw [preL_zero, Array.getD_eq_getD_getElem?, preL_get] at h; split at h <;> simp at h
  · rw [preL_zero, Array.getD_eq_getD_getElem?, preL_get] at h; split at h <;> simp at h
  · simp
theorem weaveT {P : Program} {id : Nat} {Q : Exit → Act → World → Prop} {A : Act} {w : World} {l : List Oper} (n : Nat) (hm : P.follows .mixedOrders = true) (hB : weaveBT l n A.tmps.size = true) (G : World → World → Prop) (Gr : ∀ w, G w w) (Gt : ∀ {a b c}, G a b → G b c → G a c) (Φ : Nat → Value → World → Prop) (hΦ : ∀ j v w w', Φ j v w → G w w' → Φ j v w')
    (hO : Obls P l.toArray (fillA A (l.take n)) G w.drew Φ 0 (l.take n)) (hT : ∀ vals w', G w.drew w' → (∀ j, j < n → Φ j (vals j) w') → wpListIn Fence.wide 0 P l.toArray Q (l.drop n) (fillA A (l.take n) vals) w') : (Code.region id l.toArray true).wp P Q A w :=
  wpIn_wide.1 (weaveInT (open_wide P) n hm hB G Gr Gt Φ hΦ hO hT)


theorem weaveST {P : Program} {id : Nat} {Q : Exit → Act → World → Prop} {A : Act} {w : World} {l : List Oper} (n : Nat) (ps : List StayP) (hm : P.follows .mixedOrders = true) (hB : weaveBT l n A.tmps.size = true)
    (hO : Obls P l.toArray (fillA A (l.take n)) (Fr (fun _ => False)) w.drew (phiOf ps) 0 (l.take n)) (hT : ∀ vals w', Fr (fun _ => False) w.drew w' → (∀ j, j < n → phiOf ps j (vals j) w') → wpListIn Fence.wide 0 P l.toArray Q (l.drop n) (fillA A (l.take n) vals) w') : (Code.region id l.toArray true).wp P Q A w :=
  weaveT n hm hB (Fr (fun _ => False)) (Fr.refl _) Fr.trans' (phiOf ps) (fun j _ _ _ h f => (ps.getD j StayP.any).st h f) hO hT
end Go.Proofs.Ytkndnibmgohcaaa
